import PyProof.Rows.All
import Wide.All
import OpenK.AllK
import Wide.FinOn
import Lean
import PyProof.EqAt
import PyProof.EqKinds
import PyProof.TupleCall
import PySem.Challenge.RW_rayround_k33_least_rows
set_option maxRecDepth 100000
set_option linter.all false
set_option Elab.async false
set_option maxHeartbeats 4000000
noncomputable section
section
namespace DQ
open PySem PySem.Spec PyProof.Rows
noncomputable def ZbQ (A:Around) (h:Heap):Prop:=A.handled=none\/ ∃ ea oe vs,A.handled=some (.ref ea)/\h.get? ea=some oe/\oe.data= .fields vs/\vs[2]?=some .none
theorem ZbQ.keeps {A:Around} {h h':Heap} (q:ZbQ A h) (k: ∀ b o,h.get? b=some o->h'.get? b=some o):ZbQ A h':=by
 rcases q with q | ⟨ea,oe,vs,e1,e2,e3,e4⟩
 ·exact .inl q
 ·exact .inr ⟨ea,oe,vs,e1,k _ _ e2,e3,e4⟩
theorem ZdC:entryFor table "proto.unchain"=some Builtin.«proto.unchain» :=entryFor_of_fast (by kernel_rfl)
section
variable {prog:Program} {w:World} {A:Around} {E:Value->Shared->Prop} {s:Shared}
theorem ZeT {α:Type} {Q:α->Shared->Prop} {e:Addr} {oe:Obj} {vs:Array Value} (q:ZbQ A s.heap) (he:s.heap.get? e=some oe) (hd:oe.data= .fields vs) (hz:2 < vs.size)
  (h: ∀ h',(∀ b o,b≠e->s.heap.get? b=some o->h'.get? b=some o)->(∃ o,h'.get? e=some o/\o.cls=oe.cls)->E (.ref e) { s with heap:=h' }):wpAny (model prog w) A (raiseNew (.ref e):Sem α) Q E s:=by
 have same:E (.ref e) s:=h s.heap (fun _ _ _ x=>x) ⟨oe,he,rfl⟩
 unfold raiseNew
 refine wpAny_bind (wpAny_handled ?_)
 rcases q with q | ⟨ea,oa,ws,q1,q2,q3,q4⟩
 ·rw[q]
  exact wpAny_bind (wpAny_pure (wpAny_throw same))
 ·rw[q1]
  dsimp only
  by_cases c:(Value.ref ea != Value.ref e)=true
  ·rw[if_pos c]
   refine wpAny_bind (wpAny_holding (wpAny_runValue (codeAny_builtin ZdC ?_)))
   unfold Builtin.«proto.unchain»
   refine wpAny_bind (wpAny_field q2 q3 q4 ?_)
   refine wpAny_bind (wpAny_pure ?_)
   have sf:wpAny (model prog w) A (setField (.ref e) 2 (.ref ea)) (fun _ s'=>wpAny (model prog w) A (throw (Value.ref e):Sem α) Q E s') E s:=by
    refine wpAny_setField he hd hz (wpAny_throw (h _ (fun b o hb x=> ?_) ⟨_,Heap.get?_update_self _ he (Obj.isFreed_of_fields (Obj.data_mapFields hd _)),Obj.cls_mapFields _ _⟩))
    rw[Heap.get?_update_other _ _ (Ne.symm hb)]
    exact x
   exact wpAny_pure (wpAny_bind sf)
  ·rw[if_neg c]
   exact wpAny_throw same
theorem Zco {α:Type} {Q:α->Shared->Prop} (q:ZbQ A s.heap)
  (h: ∀ h' e,(∀ b o,s.heap.get? b=some o->h'.get? b=some o)->(∃ o,h'.get? e=some o/\o.cls= .type "StopIteration")->E (.ref e) { s with heap:=h' }):
  wpAny (model prog w) A (newExc (.type "StopIteration") [] >>= fun x=>(raiseNew x:Sem α)) Q E s:=by
 refine wpAny_bind ?_
 simp only[newExc,newTuple]
 refine wpAny_bind (wpAny_newObj_type ?_ (by size_fits))
 refine wpAny_bind (m:=firstArgMember _ _) (wpAny_of_eq (a:=Value.none) (by first | rfl | (simp only[firstArgMember];rfl)) ?_)
 refine wpAny_newObj_type ?_ (by size_fits)
 refine ZeT (q.keeps fun b o x=>Heap.get?_push_of_some _ (Heap.get?_push_of_some _ x)) (Heap.get?_push_size _ rfl) rfl (by rw[Array.size_append];exact Nat.lt_of_lt_of_le (by decide:2 < 6) (Nat.le_add_right _ _)) fun h' k he=> ?_
 exact h h' _ (fun b o x=>k b o (Nat.ne_of_lt (Nat.lt_of_lt_of_le (Heap.lt_size x) (by rw[Heap.size_push];exact Nat.le_succ _))) (Heap.get?_push_of_some _ (Heap.get?_push_of_some _ x))) he
theorem ZjX {e:Addr} {Q:Bool->Shared->Prop} (he: ∃ o,s.heap.get? e=some o/\o.cls= .type "StopIteration") (h:Q true s):wpAny (model prog w) A (isInstance (.ref e) (.type "StopIteration")) Q E s:=
 let ⟨o,e1,e2⟩:=he
 wpAny_isInstance (T:="StopIteration") (b:=true) ⟨o,e1,e2⟩ isSubtype_stop h
theorem ZbQ.in1 {h:Heap} (q:ZbQ A h):ZbQ A.in1 h:=q
noncomputable def Zgx (it:Addr) (s:Shared) (e:Value) (s':Shared):Prop:= ∃ a,e= .ref a/\(∃ o,s'.heap.get? a=some o/\o.cls= .type "StopIteration")/\ ∃ h',Heap.ExtBut it s.heap h'/\s'={ s with heap:=h' }
theorem Zgy {it:Addr} {T id:String} {b:Builtin} {Q:Option Value->Shared->Prop} (hT:s.TypeIs (.ref it) T) (sl:Slot T (Str.ofString "__next__") id) (hb:entryFor table id=some b) (ha:argsOk id ⟨[.ref it],[]⟩)
  (h:wpAny (model prog w) A.in1 (b ⟨[.ref it],[]⟩) (fun _ _=>False) (Zgx it s) s) (hQ: ∀ h',Heap.ExtBut it s.heap h'->Q none { s with heap:=h' }):wpAny (model prog w) A (pyNext (.ref it)) Q E s:=by
 unfold pyNext
 refine wpAny_bind (wpAny_attempt (wpAny_callSpecial?_slot (name:=Str.ofString "__next__") hT sl (wpAny_call_entry sl hT hb (wpAny_mono h (fun _ _ z=>z.elim) fun e s' z=> ?_) ha)))
 obtain ⟨a,rfl,ho,h',eb,rfl⟩:=z
 exact wpAny_bind (ZjX ho (wpAny_pure (hQ h' eb)))
theorem Zgz {it:Addr} {x left step:Int} {Q:Option Value->Shared->Prop} (q:ZbQ A s.heap) (hit:IsRangeIter s.heap it x left step) (hl:left<=0)
  (hQ: ∀ h',Heap.ExtBut it s.heap h'->Q none { s with heap:=h' }):wpAny (model prog w) A (pyNext (.ref it)) Q E s:=by
 refine Zgy ⟨_,hit,rfl⟩ F.slot_range_iterator_next F.entry_range_iterator_next (F.args_range_iterator_next_1 _) ?_ hQ
 refine wpAny_bind (m:=field (.ref it) 0) (wpAny_field hit rfl (x:=rawInt x) rfl ?_)
 refine wpAny_bind (m:=field (.ref it) 1) (wpAny_field hit rfl (x:=rawInt left) rfl ?_)
 refine wpAny_bind (m:=field (.ref it) 2) (wpAny_field hit rfl (x:=rawInt step) rfl ?_)
 dsimp only[rawInt]
 rw[if_pos hl]
 refine wpAny_bind (wpAny_rule (wpAny_bind ?_))
 exact Zco q.in1 fun h' e k ho=>⟨e,rfl,ho,h',fun b o _ z=>k b o z,rfl⟩
theorem ZlF {it l:Addr} {i:Nat} {o ol:Obj} {items:Array Value} {n:Nat} (q:ZbQ A s.heap) (ho:s.heap.get? it=some o) (hd:o.data= .fields #[.ref l,.int i 0]) (hol:s.heap.get? l=some ol) (hdl:ol.data= .seq items n) (hx:items[i]?=none):
  wpAny (model prog w) A.in1 (Builtin.«list_iterator.__next__» ⟨[.ref it],[]⟩) (fun _ _=>False) (Zgx it s) s:=by
 refine wpAny_bind (m:=field (.ref it) 0) (wpAny_field ho hd (x:= .ref l) rfl ?_)
 dsimp only
 rw[if_neg (show ¬ ((Value.ref l == Value.none)=true) from Bool.false_ne_true)]
 refine wpAny_bind (m:=field (.ref it) 1) (wpAny_field ho hd (x:= .int i 0) rfl ?_)
 refine wpAny_bind (m:=seqItems? (.ref l)) (wpAny_seqItems hol hdl ?_)
 simp only[Int.toNat_natCast,hx]
 refine wpAny_bind (wpAny_rule (wpAny_bind (wpAny_setField ho hd (by simp) ?_)))
 have q2:ZbQ A.in1 (s.heap.update it (Obj.mapFields (·.setIfInBounds 0 Value.none))):=by
  rcases q with q | ⟨ea,oe,vs,e1,e2,e3,e4⟩
  ·exact .inl q
  ·refine .inr ⟨ea,oe,vs,e1,?_,e3,e4⟩
   rw[Heap.get?_update_other _ _ (fun z=> ?_)]
   ·exact e2
   ·rw[<- z,ho] at e2
    cases e2
    rw[hd] at e3
    cases e3
    simp at e4
 refine Zco q2 fun h' e k ho=>⟨e,rfl,ho,h',fun b o hb z=>k b o ?_,rfl⟩
 rw[Heap.get?_update_other _ _ (Ne.symm hb)]
 exact z
theorem ZlG {it l:Addr} {i:Nat} {o ol:Obj} {items:Array Value} {n:Nat} (q:ZbQ A s.heap) (ho:s.heap.get? it=some o) (hd:o.data= .fields #[.ref l,.int i 0]) (hol:s.heap.get? l=some ol) (hdl:ol.data= .seq items n) (hx:items[i]?=none):
  wpAny (model prog w) A.in1 (Builtin.«tuple_iterator.__next__» ⟨[.ref it],[]⟩) (fun _ _=>False) (Zgx it s) s:=by
 refine wpAny_bind (m:=field (.ref it) 0) (wpAny_field ho hd (x:= .ref l) rfl ?_)
 dsimp only
 rw[if_neg (show ¬ ((Value.ref l == Value.none)=true) from Bool.false_ne_true)]
 refine wpAny_bind (m:=field (.ref it) 1) (wpAny_field ho hd (x:= .int i 0) rfl ?_)
 refine wpAny_bind (m:=seqItems? (.ref l)) (wpAny_seqItems hol hdl ?_)
 simp only[Int.toNat_natCast,hx]
 refine wpAny_bind (wpAny_rule (wpAny_bind (wpAny_setField ho hd (by simp) ?_)))
 have q2:ZbQ A.in1 (s.heap.update it (Obj.mapFields (·.setIfInBounds 0 Value.none))):=by
  rcases q with q | ⟨ea,oe,vs,e1,e2,e3,e4⟩
  ·exact .inl q
  ·refine .inr ⟨ea,oe,vs,e1,?_,e3,e4⟩
   rw[Heap.get?_update_other _ _ (fun z=> ?_)]
   ·exact e2
   ·rw[<- z,ho] at e2
    cases e2
    rw[hd] at e3
    cases e3
    simp at e4
 refine Zco q2 fun h' e k ho=>⟨e,rfl,ho,h',fun b o hb z=>k b o ?_,rfl⟩
 rw[Heap.get?_update_other _ _ (Ne.symm hb)]
 exact z
theorem Zih {it l:Addr} {i:Nat} {items} {Q:Option Value->Shared->Prop} (q:ZbQ A s.heap) (hit:s.heap.IsListIter it l i) (hl:s.heap.IsList l items) (hx:items[i]?=none)
  (hQ: ∀ h',Heap.ExtBut it s.heap h'->Q none { s with heap:=h' }):wpAny (model prog w) A (pyNext (.ref it)) Q E s:=by
 obtain ⟨o,ho,hc,hd⟩:=id hit
 obtain ⟨ol,hol,_,nl,hdl⟩:=hl
 exact Zgy hit.typeIs slot_listiter_next entry_listiter_next (args_listiter_next _) (ZlF q ho hd hol hdl hx) hQ
theorem ZgA {it l:Addr} {i:Nat} {items} {Q:Option Value->Shared->Prop} (q:ZbQ A s.heap) (hit:s.heap.IsTupleIter it l i) (hl:s.heap.IsTuple l items) (hx:items[i]?=none)
  (hQ: ∀ h',Heap.ExtBut it s.heap h'->Q none { s with heap:=h' }):wpAny (model prog w) A (pyNext (.ref it)) Q E s:=by
 obtain ⟨o,ho,hc,hd⟩:=id hit
 obtain ⟨ol,hol,_,nl,hdl⟩:=hl
 exact Zgy hit.typeIs F.slot_tuple_iterator_next F.entry_tuple_iterator_next (F.args_tuple_iterator_next_1 _) (ZlG q ho hd hol hdl hx) hQ
end
end DQ
end
section
namespace L2
open PySem PySem.Spec PyProof.Rows
noncomputable abbrev Key:=Sum Int Str
noncomputable def Zf0:Key->Value->Bool
 | .inl k,v=>Value.isInt k v
 | .inr x,v=>Value.isStrOf x v
noncomputable def Zr6 (w:World):Key->Int
 | .inl k=>hashInt k
 | .inr x=>hashStr w x
theorem ZN: ∀ {k:Key} {v:Value},Zf0 k v=true->(∃ i t,k=Sum.inl i/\v=Value.int i t)\/(∃ x t,k=Sum.inr x/\v=Value.str x t)
 | .inl i,v,h=>by
  obtain ⟨t,e⟩:=Value.isInt_shape (k:=i) (v:=v) h
  exact .inl ⟨i,t,rfl,e⟩
 | .inr x,v,h=>by
  obtain ⟨t,e⟩:=Value.isStrOf_shape (x:=x) (v:=v) h
  exact .inr ⟨x,t,rfl,e⟩
theorem ZgB (i:Int) (t:Tok):Zf0 (.inl i) (.int i t)=true:=by simp[Zf0,Value.isInt]
theorem ZgC (x:Str) (t:Tok):Zf0 (.inr x) (.str x t)=true:=by simp[Zf0,Value.isStrOf]
theorem ZlH (a b:Int):decide ((Sum.inl a:Key)=Sum.inl b)=(a == b):=by
 by_cases e:a=b
 ·subst e;simp
 ·have h: ¬ (Sum.inl a:Key)=Sum.inl b:=fun q=>e (Sum.inl.inj q)
  rw[decide_eq_false h]
  exact (beq_eq_false_iff_ne.mpr e).symm
theorem ZlI (a b:Str):decide ((Sum.inr a:Key)=Sum.inr b)=decide (a=b):=by
 by_cases e:a=b
 ·subst e;simp
 ·have h: ¬ (Sum.inr a:Key)=Sum.inr b:=fun q=>e (Sum.inr.inj q)
  rw[decide_eq_false h,decide_eq_false e]
theorem ZlJ (a:Int) (b:Str):decide ((Sum.inl a:Key)=Sum.inr b)=false:=decide_eq_false (fun q=>nomatch q)
theorem ZlK (a:Str) (b:Int):decide ((Sum.inr a:Key)=Sum.inl b)=false:=decide_eq_false (fun q=>nomatch q)
noncomputable def ZaE (prog:Program) (w:World):PySem.KeyKind prog w Key where
 is:=Zf0
 hash:=Zr6 w
 inj:=fun v a b ha hb=>by
  rcases ZN ha with ⟨i,t,rfl,rfl⟩ | ⟨x,t,rfl,rfl⟩
  ·rcases ZN hb with ⟨j,u,rfl,e⟩ | ⟨y,u,rfl,e⟩
   ·injection e with e1 _;rw[e1]
   ·exact nomatch e
  ·rcases ZN hb with ⟨j,u,rfl,e⟩ | ⟨y,u,rfl,e⟩
   ·exact nomatch e
   ·injection e with e1 _;rw[e1]
 byValue:=fun k v h=>by
  rcases ZN h with ⟨i,t,rfl,rfl⟩ | ⟨x,t,rfl,rfl⟩<;>rfl
 pyHash:=fun hv h=>by
  rcases ZN hv with ⟨i,t,rfl,rfl⟩ | ⟨x,t,rfl,rfl⟩
  ·exact wpAny_pyHash_int h
  ·exact wpAny_pyHash_str h
 eqBool:=fun hu hv h=>by
  rcases ZN hu with ⟨i,t,rfl,rfl⟩ | ⟨x,t,rfl,rfl⟩
  ·rcases ZN hv with ⟨j,u,rfl,rfl⟩ | ⟨y,u,rfl,rfl⟩
   ·rw[ZlH] at h;exact wpAny_eqBool_int h
   ·rw[ZlJ] at h;exact SeqAt.EqAt.int_str i t y u _ _ _ _ h
  ·rcases ZN hv with ⟨j,u,rfl,rfl⟩ | ⟨y,u,rfl,rfl⟩
   ·rw[ZlK] at h;exact SeqAt.EqAt.str_int x t j u _ _ _ _ h
   ·rw[ZlI] at h;exact wpAny_eqBool_str h
 «strs» :=fun k x t v h=>by
  rcases ZN h with ⟨i,u,rfl,e⟩ | ⟨y,u,rfl,e⟩
  ·exact nomatch e
  ·injection e with e1 _
   subst e1
   cases v<;>rfl
theorem ZeU (prog:Program) (w:World) (i:Int) (t:Tok):(ZaE prog w).is (.inl i) (.int i t)=true:=ZgB i t
theorem ZeV (prog:Program) (w:World) (x:Str) (t:Tok):(ZaE prog w).is (.inr x) (.str x t)=true:=ZgC x t
end L2
namespace L2
open PySem PySem.Spec PyProof.Rows
inductive V where
 |non | bl (b:Bool) | int (i:Int) | str (x:Str) | byt (b:Array UInt8) | flt (b:UInt64) | ref (a:Addr) | ty (n:String)
 deriving DecidableEq
noncomputable def ZS:V->Value->Prop
 | .non,u=>u=Value.none
 | .bl b,u=>u=Value.bool b
 | .int i,u=> ∃ t,u=Value.int i t
 | .str x,u=> ∃ t,u=Value.str x t
 | .byt b,u=> ∃ t,u=Value.bytes b t
 | .flt b,u=> ∃ t,u=Value.float b t
 | .ref a,u=>u=Value.ref a
 | .ty n,u=>u=Value.type n
noncomputable abbrev ZW:List V->List Value->Prop:=Paired ZS
theorem ZW.length {xs:List V} {us:List Value} (r:ZW xs us):xs.length=us.length:=Paired.length r
theorem ZW.get: ∀ {xs:List V} {us:List Value} {i:Nat} {x:V},ZW xs us->xs[i]?=some x-> ∃ u,us[i]?=some u/\ZS x u
 |_,_,_,_,.nil,e=>by simp at e
 |_,_,0,_,.cons r _,e=>by simp at e;subst e;exact ⟨_,rfl,r⟩
 |_,_,i + 1,x,.cons _ t,e=>by
  obtain ⟨u,h1,h2⟩:=ZW.get (i:=i) (x:=x) t (by simpa using e)
  exact ⟨u,by simpa using h1,h2⟩
theorem ZW.set {x:V} {u:Value} (r:ZS x u): ∀ {xs:List V} {us:List Value} (i:Nat),ZW xs us->ZW (xs.set i x) (us.set i u)
 |_,_,_,.nil=> .nil
 |_,_,0,.cons _ t=> .cons r t
 |_,_,i + 1,.cons q t=> .cons q (ZW.set r i t)
theorem ZW.append: ∀ {xs ys:List V} {us ws:List Value},ZW xs us->ZW ys ws->ZW (xs ++ ys) (us ++ ws)
 |_,_,_,_,.nil,s=>s
 |_,_,_,_,.cons r t,s=> .cons r (ZW.append t s)
theorem ZW.take: ∀ {xs:List V} {us:List Value} (n:Nat),ZW xs us->ZW (xs.take n) (us.take n)
 |_,_,0,_=> .nil
 |_,_,_ + 1,.nil=> .nil
 |_,_,n + 1,.cons r t=> .cons r (ZW.take n t)
theorem ZW.drop: ∀ {xs:List V} {us:List Value} (n:Nat),ZW xs us->ZW (xs.drop n) (us.drop n)
 |_,_,0,r=>r
 |_,_,_ + 1,.nil=> .nil
 |_,_,n + 1,.cons _ t=>ZW.drop n t
noncomputable def ZlE:Option V->Option Value->Prop
 |some v,some u=>ZS v u
 |none,none=>True
 |_,_=>False
noncomputable def KV {κ:Type}:List (κ × V)->List (κ × Value)->Prop:=Paired fun (p:κ × V) (q:κ × Value)=>p.1=q.1/\ZS p.2 q.2
noncomputable def kV:Key->V
 | .inl i=> .int i
 | .inr x=> .str x
inductive HO where
 |lst (xs:List V)
 |tup (xs:List V)
 |dK (kvs:List (Key × V)) | dT (kvs:List (List Key × V))
 |set (S:Int->Bool) (n:Nat)
 |ins (C dx:Addr) (fs:List (Str × V))
 |own (x:Addr)
 |xd (fs:List (Str × V))
 |met (f x:Addr)
 |rng (lo hi:Int)
 |frz (o:Obj) (u:HO)
 |tbl (ps:Array Value)
 |ext (φ:Heap->Prop)
noncomputable abbrev Hp:=Addr->Option HO
noncomputable def upd (H:Hp) (a:Addr) (o:HO):Hp:=fun b=>if b=a then some o else H b
theorem Zr {H:Hp} {a:Addr} {o:HO}:upd H a o a=some o:=by unfold upd;rw[if_pos rfl]
theorem ZI {H:Hp} {a b:Addr} {o:HO} (h:b≠a):upd H a o b=H b:=by unfold upd;rw[if_neg h]
theorem ZoS {H:Hp} {a b:Addr} {o u:HO} (h:H a=some o) (h':H b=some u) (d:o≠u):a≠b:=by
 intro e;subst e;rw[h] at h';exact d (Option.some.inj h')
theorem Z7 {H:Hp} {a b:Addr} {o:HO} (h:H a=some o) (h':H b=none):a≠b:=by
 intro e;subst e;rw[h] at h';cases h'
section
variable (P:Program) (w:World)
noncomputable def Za9 (H:Hp) (h:Heap) (a:Addr):HO->Prop
 | .lst xs=>xs.length<=sizeLine/\ ∃ (its:List Value) (n:Nat),ZW xs its/\h.get? a=some { cls:= .type "list",data:= .seq its.toArray n }
 | .tup xs=>xs.length<=sizeLine/\ ∃ its:List Value,ZW xs its/\IsTup h a its.toArray
 | .dK kvs=>kvs.length<=sizeLine/\(a == sysModules)=false/\ ∃ vs,KV kvs vs/\h.DictOf (ZaE P w) a vs
 | .dT kvs=>kvs.length<=sizeLine/\(a == sysModules)=false/\ ∃ xs:List (List Key × Addr × Value),
   Paired (fun (p:List Key × V) (q:List Key × Addr × Value)=>p.1=q.1/\H q.2.1=some (.tup (p.1.map kV))/\ZS p.2 q.2.2) kvs xs/\
   ∃ o es ep,h.get? a=some o/\o.ExactDict/\o.data= .dict es ep/\es.toList=xs.map (entryOfKey (tupleKind (ZaE P w)))/\(xs.map (·.1)).Nodup
 | .set S n=>h.SetOf (intKind P w) a S n
 | .ins C dx fs=>H dx=some (.own a)/\fs.length<=1000/\dx≠a/\h.get? a=some (PySem.W.instObj C dx)/\
   ∃ mA,h.Ns1 dx mA/\(∀ f,ZlE (fs.lookup f) (mA f))/\PySem.Within mA (fs.map (·.1))
 | .own _=> ∃ o,h.get? a=some o
 | .xd fs=> ∃ mA,h.Ns1 a mA/\ ∀ f,ZlE (fs.lookup f) (mA f)
 | .rng lo hi=> ∃ t u v,h.get? a=some { cls:= .type "range",data:= .fields #[.int lo t,.int hi u,.int 1 v] }
 | .frz o u=>h.get? a=some o/\Za9 H h a u
 | .tbl ps=>h.get? a=some { cls:= .none,data:= .fields ps }
 | .met f x=>h.get? a=some (PySem.W.methodObj (.ref f) (.ref x))
 | .ext φ=>φ h/\(∃ o,h.get? a=some o)/\ ∀ h1 h2:Heap,φ h1->(∀ o,h1.get? a=some o->h2.get? a=some o)->φ h2
noncomputable def HOk (H:Hp) (h:Heap):Prop:= ∀ a o,H a=some o->Za9 P w H h a o
end
section
variable {P:Program} {w:World} {H H':Hp} {h h':Heap} {a:Addr} {o:HO}
theorem Za9.lt (x:Za9 P w H h a o):a < h.objs.size:=by
 cases o with
 |lst xs=>obtain ⟨_,_,_,_,e⟩:=x;exact Heap.lt_size e
 |tup xs=>obtain ⟨_,_,_,p⟩:=x;exact p.lt
 |dK kvs=>obtain ⟨_,_,_,_,o,_,_,e,_⟩:=x;exact Heap.lt_size e
 |dT kvs=>obtain ⟨_,_,_,_,o,_,_,e,_⟩:=x;exact Heap.lt_size e
 |set S n=>obtain ⟨o,_,_,_,e,_⟩:=x;exact Heap.lt_size e
 |ins C dx fs=>obtain ⟨_,_,_,e,_⟩:=x;exact Heap.lt_size e
 |own y=>obtain ⟨_,e⟩:=x;exact Heap.lt_size e
 |xd fs=>obtain ⟨_,⟨_,_,_,e,_⟩,_⟩:=x;exact Heap.lt_size e
 |rng lo hi=>obtain ⟨_,_,_,e⟩:=x;exact Heap.lt_size e
 |frz ob u=>obtain ⟨e,_⟩:=x;exact Heap.lt_size e
 |tbl ps=>exact Heap.lt_size (show h.get? a=some _ from x)
 |met f y=>exact Heap.lt_size (show h.get? a=some _ from x)
 |ext φ=>obtain ⟨_,⟨_,e⟩,_⟩:=x;exact Heap.lt_size e
theorem Paired.mapP {α β:Type} {F G:α->β->Prop}: ∀ {l₁:List α} {l₂:List β},Paired F l₁ l₂->(∀ a b,F a b->G a b)->Paired G l₁ l₂
 |_,_,.nil,_=> .nil
 |_,_,.cons r t,f=> .cons (f _ _ r) (Paired.mapP t f)
theorem Za9.stay (x:Za9 P w H h a o) (k: ∀ b u,(b=a\/H b=some (.own a))->h.get? b=some u->h'.get? b=some u)
  (ho: ∀ b,H b=some (.own a)->H' b=some (.own a)) (ht: ∀ b xs,H b=some (.tup xs)->H' b=some (.tup xs)):Za9 P w H' h' a o:=by
 induction o with
 |lst xs=>obtain ⟨z,its,n,r,e⟩:=x;exact ⟨z,its,n,r,k _ _ (.inl rfl) e⟩
 |tup xs=>obtain ⟨z,its,r,ob,e,c⟩:=x;exact ⟨z,its,r,ob,k _ _ (.inl rfl) e,c⟩
 |dK kvs=>obtain ⟨z,y,vs,r,ob,es,ep,e,c⟩:=x;exact ⟨z,y,vs,r,ob,es,ep,k _ _ (.inl rfl) e,c⟩
 |dT kvs=>
  obtain ⟨z,y,xs,r,ob,es,ep,e,c⟩:=x
  exact ⟨z,y,xs,Paired.mapP r fun p q z=>⟨z.1,ht _ _ z.2.1,z.2.2⟩,ob,es,ep,k _ _ (.inl rfl) e,c⟩
 |set S n=>obtain ⟨ob,es,ep,t,e,c⟩:=x;exact ⟨ob,es,ep,t,k _ _ (.inl rfl) e,c⟩
 |ins C dx fs=>
  obtain ⟨d,z,ne,e,mA,⟨od,es,ep,e2,c⟩,r⟩:=x
  exact ⟨ho _ d,z,ne,k _ _ (.inl rfl) e,mA,⟨od,es,ep,k _ _ (.inr d) e2,c⟩,r⟩
 |own y=>obtain ⟨ob,e⟩:=x;exact ⟨ob,k _ _ (.inl rfl) e⟩
 |xd fs=>obtain ⟨mA,⟨od,es,ep,e,c⟩,r⟩:=x;exact ⟨mA,⟨od,es,ep,k _ _ (.inl rfl) e,c⟩,r⟩
 |rng lo hi=>obtain ⟨t,u,v,e⟩:=x;exact ⟨t,u,v,k _ _ (.inl rfl) e⟩
 |frz ob u ih=>obtain ⟨e,q⟩:=x;exact ⟨k _ _ (.inl rfl) e,ih q⟩
 |tbl ps=>
  have e:h.get? a=some { cls:= .none,data:= .fields ps }:=x
  show h'.get? a=some { cls:= .none,data:= .fields ps }
  exact k a _ (.inl rfl) e
 |met f y=>
  have e:h.get? a=some (PySem.W.methodObj (.ref f) (.ref y)):=x
  show h'.get? a=some (PySem.W.methodObj (.ref f) (.ref y))
  exact k a _ (.inl rfl) e
 |ext φ=>obtain ⟨p,⟨o,e⟩,st⟩:=x;exact ⟨st _ _ p fun o q=>k _ _ (.inl rfl) q,⟨o,k _ _ (.inl rfl) e⟩,st⟩
theorem HOk.lt (x:HOk P w H h) (e:H a=some o):a < h.objs.size:=(x a o e).lt
theorem HOk.fresh (x:HOk P w H h) (e:h.objs.size<=a):H a=none:=by
 cases q:H a with
 |none=>rfl
 |some u=>exact absurd (Nat.lt_of_lt_of_le (x.lt q) e) (Nat.lt_irrefl _)
theorem HOk.kept (x:HOk P w H h) (k: ∀ b u,h.get? b=some u->h'.get? b=some u):HOk P w H h':=fun a o e=>
 (x a o e).stay (fun b u _ q=>k b u q) (fun _ q=>q) fun _ _ q=>q
theorem HOk.laid (x:HOk P w H h) (k: ∀ b u,h.get? b=some u->h'.get? b=some u) (hp:h.objs.size<=a) (new:Za9 P w (upd H a o) h' a o):HOk P w (upd H a o) h':=fun b u e=>by
 have hn:=x.fresh hp
 by_cases hb:b=a
 ·subst hb;rw[Zr] at e;cases e;exact new
 ·rw[ZI hb] at e
  exact (x b u e).stay (fun c v _ q=>k c v q) (fun c q=>by rw[ZI (Z7 q hn)];exact q) fun c xs q=>by rw[ZI (Z7 q hn)];exact q
end
noncomputable def Rd (H:Hp) (a:Addr) (u:HO):Prop:=H a=some u\/ ∃ o,H a=some (.frz o u)
theorem Rd.ok {P:Program} {w:World} {H:Hp} {h:Heap} {a:Addr} {u:HO} (r:Rd H a u) (x:HOk P w H h):Za9 P w H h a u:=by
 rcases r with r | ⟨o,r⟩
 ·exact x a u r
 ·obtain ⟨_,q⟩:=x a _ r
  exact q
noncomputable def Mut:Option HO->Prop
 |some (.lst _)=>True
 |some (.dK _)=>True
 |some (.dT _)=>True
 |some (.set _ _)=>True
 |some (.ins _ _ _)=>True
 |some (.ext _)=>True
 |_=>False
section
variable {P:Program} {w:World} {H:Hp} {h h':Heap} {x e:Addr} {o':HO}
theorem HOk.write (ok:HOk P w H h) (mu:Mut (H x)) (he:e=x\/H e=some (.own x)) (k: ∀ b u,b≠e->h.get? b=some u->h'.get? b=some u) (heo: ∃ u,h'.get? e=some u)
  (new:Za9 P w (upd H x o') h' x o'):HOk P w (upd H x o') h':=fun b u q=>by
 have nown: ∀ c y,H c=some (.own y)->c≠x:=fun c y r z=>by subst z;rw[r] at mu;exact mu
 have ntup: ∀ c xs,H c=some (.tup xs)->c≠x:=fun c xs r z=>by subst z;rw[r] at mu;exact mu
 by_cases hb:b=x
 ·subst hb;rw[Zr] at q;cases q;exact new
 ·rw[ZI hb] at q
  by_cases hbe:b=e
  ·have q':H b=some (.own x):=by
    rcases he with z | z
    ·exact absurd (hbe.trans z) hb
    ·rw[hbe];exact z
   rw[q] at q';cases q'
   obtain ⟨v,hv⟩:=heo
   exact ⟨v,by rw[hbe];exact hv⟩
  ·refine (ok b u q).stay (fun c v hc r=>k c v ?_ r) (fun c r=>by rw[ZI (nown c b r)];exact r) fun c xs r=>by rw[ZI (ntup c xs r)];exact r
   rcases hc with rfl | hc
   ·exact hbe
   ·rintro rfl
    rcases he with z | z
    ·exact nown c b hc z
    ·rw[hc] at z;cases z;exact hb rfl
end
structure Un (fs ex:List Addr) (H H':Hp) (h h':Heap):Prop where
 keep: ∀ b o,h.get? b=some o->H b=none->b ∉ fs->b ∉ ex->h'.get? b=some o
 slot: ∀ b o,h.get? b=some o->H b=none->b∈fs->b ∉ ex-> ∃ sl,h'.get? b=some { o with slots:=sl }
 free: ∀ b o,h.get? b=some o->H b=none->b ∉ ex->H' b=none
 there: ∀ b o,h.get? b=some o->b ∉ ex-> ∃ o',h'.get? b=some o'
 tups: ∀ b xs,H b=some (.tup xs)->H' b=some (.tup xs)
 frzs: ∀ b o u,H b=some (.frz o u)->H' b=some (.frz o u)
 tbls: ∀ b ps,H b=some (.tbl ps)-> ∃ more,H' b=some (.tbl (ps ++ more))
section
variable {fs fs' ex ex':List Addr} {H H1 H2:Hp} {h h1 h2 h':Heap} {a x e:Addr} {o:HO}
theorem Un.any (u:Un fs ex H H1 h h1) {b:Addr} {ob:Obj} (q:h.get? b=some ob) (n:H b=none) (hx:b ∉ ex): ∃ sl,h1.get? b=some { ob with slots:=sl }:=by
 by_cases hb:b∈fs
 ·exact u.slot b ob q n hb hx
 ·exact ⟨ob.slots,u.keep b ob q n hb hx⟩
theorem Un.kept (k: ∀ b u,h.get? b=some u->h'.get? b=some u):Un fs ex H H h h':=
 ⟨fun b ob q _ _ _=>k b ob q,fun b ob q _ _ _=>⟨ob.slots,k b ob q⟩,fun _ _ _ n _=>n,fun b ob q _=>⟨ob,k b ob q⟩,fun _ _ q=>q,fun _ _ _ q=>q,fun _ ps q=>⟨#[],by rw[q];simp⟩⟩
theorem Un.refl:Un fs ex H H h h:=Un.kept fun _ _ q=>q
theorem Un.laid (k: ∀ b u,h.get? b=some u->h'.get? b=some u) (hp:h.objs.size<=a) (hn:H a=none):Un fs ex H (upd H a o) h h' where
 keep:=fun b u q _ _ _=>k b u q
 slot:=fun b u q _ _ _=>⟨u.slots,k b u q⟩
 free:=fun b u q n _=>by rw[ZI (Nat.ne_of_lt (Nat.lt_of_lt_of_le (Heap.lt_size q) hp))];exact n
 there:=fun b u q _=>⟨u,k b u q⟩
 tups:=fun b xs q=>by rw[ZI (Z7 q hn)];exact q
 frzs:=fun b u xs q=>by rw[ZI (Z7 q hn)];exact q
 tbls:=fun b ps q=>⟨#[],by rw[ZI (Z7 q hn),q];simp⟩
theorem Un.write (mu:Mut (H x)) (he:e=x\/H e=some (.own x)) (k: ∀ b u,b≠e->h.get? b=some u->h'.get? b=some u) (heo: ∃ u,h'.get? e=some u):Un fs ex H (upd H x o) h h':=by
 have hx: ∀ b,H b=none->b≠x:=fun b n z=>by subst z;rw[n] at mu;exact mu
 have hb: ∀ b,H b=none->b≠e:=fun b n z=>by
  subst z
  rcases he with r | r
  ·exact hx b n r
  ·rw[n] at r;cases r
 have hm: ∀ b u,H b=some u-> ¬ Mut (some u)->b≠x:=fun b u q nm z=>by subst z;rw[q] at mu;exact nm mu
 refine ⟨fun b u q n _ _=>k b u (hb b n) q,fun b u q n _ _=>⟨u.slots,k b u (hb b n) q⟩,fun b u q n _=>by rw[ZI (hx b n)];exact n,fun b u q _=> ?_,
  fun b xs q=>by rw[ZI (hm b _ q fun z=>z)];exact q,fun b u xs q=>by rw[ZI (hm b _ q fun z=>z)];exact q,fun b ps q=>⟨#[],by rw[ZI (hm b _ q fun z=>z),q];simp⟩⟩
 by_cases hbe:b=e
 ·subst hbe;exact heo
 ·exact ⟨u,k b u hbe q⟩
end
noncomputable def trk (h:Heap) (H:Hp):List Addr:=(List.range h.objs.size).filter fun a=>(H a).isSome
noncomputable def Zid (h:Heap) (H:Hp):Heap:=PySem.W.hideAll h (trk h H)
theorem ZgD (h:Heap) (H:Hp):(Zid h H).objs.size=h.objs.size:=PySem.W.hideAll_size _ _
theorem Zfx {h:Heap} {H:Hp} {b:Addr} {o:Obj} (e:h.get? b=some o) (n:H b=none):(Zid h H).get? b=some o:=
 PySem.W.hideAll_get _ e fun hm=>by
  have q:(H b).isSome=true:=(List.mem_filter.mp hm).2
  rw[n] at q;simp at q
theorem ZgE {h:Heap} {H:Hp} {b:Addr} {o:Obj} (e:(Zid h H).get? b=some o):h.get? b=some o/\H b=none:=by
 have e':h.get? b=some o:=PySem.W.of_hideAll (trk h H) e
 refine ⟨e',?_⟩
 cases q:H b with
 |none=>rfl
 |some x=>
  have hm:b∈trk h H:=List.mem_filter.mpr ⟨List.mem_range.mpr (Heap.lt_size e'),by simp[q]⟩
  have z:(Zid h H).get? b=none:=PySem.W.hideAll_none (trk h H) hm
  rw[z] at e;cases e
end L2
namespace L2
open PySem PySem.Spec PyProof.Rows
structure Mod (K:PySem.W.Frag) (mg:Str->Option Value) (base:Heap):Prop where
 kin:K.In base
 glob:base.Ns mainGlobals mg
 blt: ∃ mb,base.Ns builtinsNs mb/\ ∀ x:Str,x≠"__name__"->mb x=bootBuiltins x
 nolimit:base.NoLimit
structure Cx where
 prog:Program
 w:World
 K:PySem.W.Frag
 mg:Str->Option Value
 base:Heap
 A:Around
 N:List Str
 s₀:Shared
 H₀:Hp
 env:Env
 outer:List Env
 stack:List Env
 ex:List Addr
 fn:Str->Bool
 calm:Bool
 pn:List (Addr × Obj)
 xe:Value->Shared->Prop
noncomputable def frs (l:List Env):List Addr:=l.filterMap (·.frame)
noncomputable abbrev Cx.fs (X:Cx):List Addr:=frs X.outer
noncomputable def Vis (sc:Scope) (x:Str):Prop:=sc.names.lookup x=some .local\/sc.names.lookup x=some .cell\/sc.names.lookup x=some .free
noncomputable def Loc (sc:Scope) (x:Str):Prop:=sc.names.lookup x=some .local\/sc.names.lookup x=some .cell
noncomputable def Zr7 (env:Env) (h:Heap) (m:Str->Option Value) (x:Str) (u:Value):Prop:=
 (env.kindOf x=some .local/\m x=some u)\/((env.kindOf x=some .cell\/env.kindOf x=some .free)/\ ∃ c,env.cells.lookup x=some c/\h.IsCell c (some u))
structure Cx.Ok (X:Cx):Prop where
 mod:Mod X.K X.mg X.base
 kind:X.env.scope.kind= .function
 glob:X.env.globals=mainGlobals
 blt:X.env.builtins=builtinsNs
 above:X.s₀.heap.objs.size<=X.env.locals
 inj: ∀ x y c,X.env.cells.lookup x=some c->X.env.cells.lookup y=some c->x=y
 has: ∀ x,(X.env.kindOf x=some .cell\/X.env.kindOf x=some .free)-> ∃ c,X.env.cells.lookup x=some c
 cab: ∀ x c,X.fn x=true->X.env.cells.lookup x=some c->X.s₀.heap.objs.size<=c
 hd:X.calm=true->X.A.handled=none
 frames:X.A.frames=some X.stack
 stk:X.stack=X.outer\/(X.stack=X.env :: X.outer/\X.env.frame=some X.env.locals)
 exf: ∀ b∈X.ex,b≠X.env.locals/\ ∀ x c,X.env.cells.lookup x=some c->c≠b
 bs: ∀ b o,X.base.get? b=some o->X.s₀.heap.get? b=some o/\X.H₀ b=none
 bsz:X.base.objs.size<=X.s₀.heap.objs.size
 noex: ∀ b o,X.base.get? b=some o->b ∉ X.ex
 exfs: ∀ b∈X.ex,b ∉ X.fs
 funs:X.s₀.heap.FunFrames X.base X.outer
 frf: ∀ b∈X.fs,X.H₀ b=none
noncomputable def Qd (A:Around) (H:Hp):Prop:=A.handled=none\/ ∃ ea oe u vs,A.handled=some (.ref ea)/\H ea=some (.frz oe u)/\oe.data= .fields vs/\vs[2]?=some .none
theorem Qd.mono {A:Around} {H H':Hp} (q:Qd A H) (k: ∀ b o u,H b=some (.frz o u)->H' b=some (.frz o u)):Qd A H':=by
 rcases q with q | ⟨ea,oe,u,vs,e1,e2,e3,e4⟩
 ·exact .inl q
 ·exact .inr ⟨ea,oe,u,vs,e1,k _ _ _ e2,e3,e4⟩
structure Inv (X:Cx) (pins:List (Addr × Obj)) (σ:List (Option V)) (H:Hp) (s:Shared):Prop where
 ok:X.Ok
 os:s.os=X.s₀.os
 bare:AllBare s.gens
 base:Un X.fs X.ex X.H₀ H X.s₀.heap s.heap
 loc: ∃ m,s.heap.Ns X.env.locals m/\ ∀ (i:Nat) (x:Str) (v:V),X.N[i]?=some x->σ[i]?=some (some v)->Vis X.env.scope x-> ∃ u,ZS v u/\Zr7 X.env s.heap m x u
 cell: ∀ x c,X.env.cells.lookup x=some c-> ∃ v,s.heap.IsCell c v
 free:H X.env.locals=none
 freeC: ∀ x c,X.env.cells.lookup x=some c->H c=none
 pin: ∀ p∈X.pn ++ pins,s.heap.get? p.1=some p.2/\H p.1=none/\p.1≠X.env.locals/\p.1 ∉ X.fs/\ ∀ v,p.2.data≠ .cell v
 hok:HOk X.prog X.w H s.heap
 len:σ.length=X.N.length
 qd:Qd X.A H
section
variable {X:Cx} {pins:List (Addr × Obj)} {σ:List (Option V)} {H H':Hp} {s:Shared} {h':Heap}
theorem Cx.Ok.nofr (ok:X.Ok) {b:Addr} {o:Obj} (e:X.base.get? b=some o):b ∉ X.fs:=fun hb=>by
 have:=(ok.funs.mem hb).1
 rw[e] at this;cases this
theorem Inv.bs (I:Inv X pins σ H s): ∀ b o,X.base.get? b=some o->s.heap.get? b=some o/\H b=none:=fun b o e=>
 ⟨I.base.keep b o (I.ok.bs b o e).1 (I.ok.bs b o e).2 (I.ok.nofr e) (I.ok.noex b o e),I.base.free b o (I.ok.bs b o e).1 (I.ok.bs b o e).2 (I.ok.noex b o e)⟩
theorem Inv.qh (I:Inv X pins σ H s):DQ.ZbQ X.A s.heap:=by
 rcases I.qd with q | ⟨ea,oe,u,vs,e1,e2,e3,e4⟩
 ·exact .inl q
 ·exact .inr ⟨ea,oe,vs,e1,(I.hok _ _ e2).1,e3,e4⟩
theorem Inv.bk (I:Inv X pins σ H s): ∀ b o,X.base.get? b=some o->s.heap.get? b=some o:=fun b o e=>(I.bs b o e).1
theorem Inv.mod (I:Inv X pins σ H s):Mod X.K X.mg X.base:=I.ok.mod
theorem Inv.kIn (I:Inv X pins σ H s):X.K.In s.heap:=I.ok.mod.kin.keeps I.bk
theorem Inv.fr (I:Inv X pins σ H s): ∃ m,Fr X.base X.env.locals s.heap m:=
 let ⟨m,hn,_⟩:=I.loc
 ⟨m,hn,I.bk,Nat.le_trans I.ok.bsz I.ok.above⟩
theorem Inv.lt (I:Inv X pins σ H s):X.env.locals < s.heap.objs.size:=let ⟨_,hn,_⟩:=I.loc;hn.lt
theorem Inv.sz (I:Inv X pins σ H s):X.s₀.heap.objs.size<=s.heap.objs.size:=Nat.le_trans I.ok.above (Nat.le_of_lt I.lt)
theorem Inv.nofs (I:Inv X pins σ H s) {a:Addr} (h:s.heap.objs.size<=a):a ∉ X.fs:=fun hb=>by
 obtain ⟨_,o,ho,_⟩:=I.ok.funs.mem hb
 exact absurd (Nat.lt_of_lt_of_le (Heap.lt_size ho) (Nat.le_trans I.sz h)) (Nat.lt_irrefl _)
theorem Inv.cne (I:Inv X pins σ H s): ∀ x c,X.env.cells.lookup x=some c->c≠X.env.locals:=fun x c e z=>by
 obtain ⟨v,o,ho,hd⟩:=I.cell x c e
 obtain ⟨m,⟨o',es,ep,ho',hd',_⟩,_⟩:=I.loc
 rw[z,ho'] at ho;cases ho;rw[hd'] at hd;cases hd
theorem Inv.funs (I:Inv X pins σ H s):s.heap.FunFrames X.base X.outer:=by
 have all: ∀ (l:List Env),(∀ b∈frs l,b∈X.fs)->X.s₀.heap.FunFrames X.base l->s.heap.FunFrames X.base l:=by
  intro l
  induction l with
  |nil=>intro _ _;trivial
  |cons env r ih=>
   intro hs hl
   obtain ⟨hk,⟨L,o,hf,hn,ho,hd⟩,hr⟩:=hl
   have hL:L∈X.fs:=hs L (by unfold frs;rw[List.filterMap_cons,hf];exact List.mem_cons_self)
   obtain ⟨sl,e⟩:=I.base.slot L o ho (I.ok.frf L hL) hL fun z=>I.ok.exfs L z hL
   exact ⟨hk,⟨L,_,hf,hn,e,hd⟩,ih (fun b hb=>hs b (by unfold frs;rw[List.filterMap_cons,hf];exact List.mem_cons_of_mem _ hb)) hr⟩
 exact all X.outer (fun _ hb=>hb) I.ok.funs
theorem Inv.stack (I:Inv X pins σ H s):s.heap.FunFrames X.base X.stack:=by
 rcases I.ok.stk with e | ⟨e,hf⟩
 ·rw[e];exact I.funs
 ·rw[e]
  obtain ⟨m,hn,_⟩:=I.loc
  refine .cons (by rw[I.ok.kind];decide) hf hn ?_ I.funs
  exact Heap.get?_none_of_le (Nat.le_trans I.ok.bsz I.ok.above)
theorem Inv.stkSub (I:Inv X pins σ H s): ∀ b∈frs X.stack,b∈X.env.locals :: X.fs:=fun b hb=>by
 rcases I.ok.stk with e | ⟨e,hf⟩
 ·rw[e] at hb;exact List.mem_cons_of_mem _ hb
 ·rw[e] at hb
  unfold frs at hb
  rw[List.filterMap_cons,hf] at hb
  exact hb
theorem Inv.stkFree (I:Inv X pins σ H s): ∀ b∈frs X.stack,H b=none:=fun b hb=>by
 rcases List.mem_cons.mp (I.stkSub b hb) with e | hb
 ·rw[e];exact I.free
 ·obtain ⟨_,o,ho,_⟩:=I.ok.funs.mem hb
  exact I.base.free b o ho (I.ok.frf b hb) fun z=>I.ok.exfs b z hb
theorem Inv.step {g':Array GenState} {t':Nat} {d':Drawn} {ch:List Addr} (I:Inv X pins σ H s)
  (hch: ∀ b∈ch,(b∈X.ex\/X.s₀.heap.objs.size<=b)/\b≠X.env.locals/\(∀ x c,X.env.cells.lookup x=some c->c≠b)/\ ∀ p∈X.pn ++ pins,p.1≠b)
  (keep: ∀ b o,b≠X.env.locals->b ∉ X.fs->b ∉ ch->s.heap.get? b=some o->H b=none->h'.get? b=some o)
  (slot: ∀ b o,b≠X.env.locals->b∈X.fs->b ∉ ch->s.heap.get? b=some o->H b=none-> ∃ sl,h'.get? b=some { o with slots:=sl }) (free: ∀ b o,b ∉ ch->s.heap.get? b=some o->H b=none->H' b=none)
  (there: ∀ b o,b ∉ ch->s.heap.get? b=some o-> ∃ o',h'.get? b=some o')
  (tups: ∀ b xs,H b=some (.tup xs)->H' b=some (.tup xs)) (frzs: ∀ b o u,H b=some (.frz o u)->H' b=some (.frz o u)) (tbls: ∀ b ps,H b=some (.tbl ps)-> ∃ more,H' b=some (.tbl (ps ++ more)))
  (ns: ∀ m,s.heap.Ns X.env.locals m->h'.Ns X.env.locals m) (hok:HOk X.prog X.w H' h') (hg:AllBare g'):
  Inv X pins σ H' { s with heap:=h',gens:=g',drawn:=d',toks:=t' }:=by
 have neL: ∀ b o,X.s₀.heap.get? b=some o->b≠X.env.locals:=fun b o e=>Nat.ne_of_lt (Nat.lt_of_lt_of_le (Heap.lt_size e) I.ok.above)
 have neC: ∀ b o,X.s₀.heap.get? b=some o->b ∉ X.ex->b ∉ ch:=fun b o e hx hb=>by
  rcases (hch b hb).1 with z | z
  ·exact hx z
  ·exact absurd (Nat.lt_of_lt_of_le (Heap.lt_size e) z) (Nat.lt_irrefl _)
 have cellK: ∀ x c,X.env.cells.lookup x=some c-> ∀ v,s.heap.IsCell c v->h'.IsCell c v:=fun x c e v ⟨o,ho,hd⟩=>by
  have nch:c ∉ ch:=fun z=>(hch c z).2.2.1 x c e rfl
  by_cases hc:c∈X.fs
  ·obtain ⟨sl,q⟩:=slot c o (I.cne x c e) hc nch ho (I.freeC x c e)
   exact ⟨_,q,hd⟩
  ·exact ⟨o,keep c o (I.cne x c e) hc nch ho (I.freeC x c e),hd⟩
 refine ⟨I.ok,I.os,hg,⟨fun b o e n hb hx=> ?_,fun b o e n hb hx=> ?_,fun b o e n hx=> ?_,fun b o e hx=> ?_,fun b xs e=>tups b xs (I.base.tups b xs e),fun b o xs e=>frzs b o xs (I.base.frzs b o xs e),fun b ps e=> ?_⟩,?_,fun x c e=> ?_,?_,fun x c e=> ?_,fun p hp=> ?_,hok,I.len,I.qd.mono frzs⟩
 ·exact keep b o (neL b o e) hb (neC b o e hx) (I.base.keep b o e n hb hx) (I.base.free b o e n hx)
 ·obtain ⟨sl,e1⟩:=I.base.slot b o e n hb hx
  obtain ⟨sl',e2⟩:=slot b _ (neL b o e) hb (neC b o e hx) e1 (I.base.free b o e n hx)
  exact ⟨sl',e2⟩
 ·obtain ⟨o',e1⟩:=I.base.there b o e hx
  exact free b o' (neC b o e hx) e1 (I.base.free b o e n hx)
 ·obtain ⟨o',e1⟩:=I.base.there b o e hx
  exact there b o' (neC b o e hx) e1
 ·obtain ⟨m1,e1⟩:=I.base.tbls b ps e
  obtain ⟨m2,e2⟩:=tbls b _ e1
  exact ⟨m1 ++ m2,by rw[e2,Array.append_assoc]⟩
 ·obtain ⟨m,hn,hl⟩:=I.loc
  refine ⟨m,ns m hn,fun i x v e1 e2 e3=> ?_⟩
  obtain ⟨u,r,l⟩:=hl i x v e1 e2 e3
  refine ⟨u,r,?_⟩
  rcases l with l | ⟨k,c,e,z⟩
  ·exact .inl l
  ·exact .inr ⟨k,c,e,cellK x c e _ z⟩
 ·obtain ⟨v,z⟩:=I.cell x c e
  exact ⟨v,cellK x c e v z⟩
 ·obtain ⟨m,⟨o,_,_,ho,_⟩,_⟩:=I.loc
  exact free _ o (fun z=>(hch _ z).2.1 rfl) ho I.free
 ·obtain ⟨v,o,ho,hd⟩:=I.cell x c e
  exact free c o (fun z=>(hch c z).2.2.1 x c e rfl) ho (I.freeC x c e)
 ·obtain ⟨e,n,ne,nf,d⟩:=I.pin p hp
  have nch:p.1 ∉ ch:=fun z=>(hch p.1 z).2.2.2 p hp rfl
  exact ⟨keep p.1 p.2 ne nf nch e n,free p.1 p.2 nch e n,ne,nf,d⟩
theorem Inv.un {t':Nat} (I:Inv X pins σ H s) (u:Un X.fs [] H H' s.heap h') (hok:HOk X.prog X.w H' h'):Inv X pins σ H' { s with heap:=h',toks:=t' }:=by
 obtain ⟨m,⟨o,es,ep,ho,r⟩,_⟩:=id I.loc
 obtain ⟨sl,hL⟩:=u.any ho I.free (by simp)
 exact I.step (g':=s.gens) (d':=s.drawn) (ch:=[]) (fun _ z=>nomatch z) (fun b o _ hb _ e n=>u.keep b o e n hb (by simp)) (fun b o _ hb _ e n=>u.slot b o e n hb (by simp)) (fun b o _ e n=>u.free b o e n (by simp)) (fun b o _ e=>u.there b o e (by simp)) u.tups u.frzs u.tbls (fun m' hm=>by
  obtain ⟨o',es',ep',ho',r'⟩:=hm
  rw[ho] at ho';cases ho'
  exact ⟨_,es',ep',hL,r'⟩) hok I.bare
theorem Inv.call {g':Array GenState} {t':Nat} {d':Drawn} {ch:List Addr} (I:Inv X pins σ H s) (u:Un (frs X.stack) ch H H' s.heap h') (hok:HOk X.prog X.w H' h') (hg:AllBare g')
  (hch: ∀ b∈ch,(b∈X.ex\/X.s₀.heap.objs.size<=b)/\b≠X.env.locals/\(∀ x c,X.env.cells.lookup x=some c->c≠b)/\ ∀ p∈X.pn ++ pins,p.1≠b):
  Inv X pins σ H' { s with heap:=h',gens:=g',drawn:=d',toks:=t' }:=by
 obtain ⟨m,⟨o,es,ep,ho,r⟩,_⟩:=id I.loc
 obtain ⟨sl,hL⟩:=u.any ho I.free fun z=>(hch _ z).2.1 rfl
 exact I.step (ch:=ch) hch (fun b o hL hb hc e n=>u.keep b o e n (fun z=>(List.mem_cons.mp (I.stkSub b z)).elim hL hb) hc) (fun b o _ _ hc e n=>u.any e n hc) (fun b o hc e n=>u.free b o e n hc) (fun b o hc e=>u.there b o e hc) u.tups u.frzs u.tbls (fun m' hm=>by
  obtain ⟨o',es',ep',ho',r'⟩:=hm
  rw[ho] at ho';cases ho'
  exact ⟨_,es',ep',hL,r'⟩) hok hg
theorem Inv.turned {t':Nat} {it:Addr} (I:Inv X pins σ H s) (k: ∀ b o,b≠it->s.heap.get? b=some o->h'.get? b=some o) (hn:H it=none) (hL:it≠X.env.locals)
  (h1:it∈X.ex\/X.s₀.heap.objs.size<=it) (h2: ∀ x c,X.env.cells.lookup x=some c->c≠it) (h3: ∀ p∈X.pn ++ pins,p.1≠it):Inv X pins σ H { s with heap:=h',toks:=t' }:=by
 have nit: ∀ b u,H b=some u->b≠it:=fun b u e z=>by rw[z,hn] at e;cases e
 refine I.step (g':=s.gens) (d':=s.drawn) (ch:=[it]) (fun b hb=> ?_) (fun b o _ _ hc e _=>k b o (fun z=>hc (by simp[z])) e) (fun b o _ _ hc e _=>⟨o.slots,k b o (fun z=>hc (by simp[z])) e⟩) (fun _ _ _ _ n=>n)
  (fun b o hc e=>⟨o,k b o (fun z=>hc (by simp[z])) e⟩) (fun _ _ e=>e) (fun _ _ _ e=>e) (fun b ps e=>⟨#[],by rw[e];simp⟩) (fun m hm=> ?_) (fun b u e=> ?_) I.bare
 ·have e:b=it:=by simpa using hb
  subst e
  exact ⟨h1,hL,h2,h3⟩
 ·obtain ⟨o,es,ep,ho,r⟩:=hm
  exact ⟨o,es,ep,k _ o (Ne.symm hL) ho,r⟩
 ·refine (I.hok b u e).stay (fun c v hc q=>k c v ?_ q) (fun _ q=>q) fun _ _ q=>q
  rcases hc with z | z
  ·rw[z];exact nit b u e
  ·exact nit c _ z
theorem Inv.tok (I:Inv X pins σ H s) (t:Nat):Inv X pins σ H { s with toks:=t }:=I.un (h':=s.heap) (t':=t) Un.refl I.hok
theorem Inv.kept {t':Nat} (I:Inv X pins σ H s) (k: ∀ b u,s.heap.get? b=some u->h'.get? b=some u):Inv X pins σ H { s with heap:=h',toks:=t' }:=I.un (Un.kept k) (I.hok.kept k)
theorem Inv.laid {a:Addr} {o:HO} {t':Nat} (I:Inv X pins σ H s) (k: ∀ b u,s.heap.get? b=some u->h'.get? b=some u) (hp:s.heap.objs.size<=a) (new:Za9 X.prog X.w (upd H a o) h' a o):
  Inv X pins σ (upd H a o) { s with heap:=h',toks:=t' }:=I.un (Un.laid k hp (I.hok.fresh hp)) (I.hok.laid k hp new)
theorem Inv.write {x e:Addr} {o:HO} {t':Nat} (I:Inv X pins σ H s) (mu:Mut (H x)) (he:e=x\/H e=some (.own x)) (k: ∀ b u,b≠e->s.heap.get? b=some u->h'.get? b=some u) (heo: ∃ u,h'.get? e=some u)
  (new:Za9 X.prog X.w (upd H x o) h' x o):Inv X pins σ (upd H x o) { s with heap:=h',toks:=t' }:=I.un (Un.write mu he k heo) (I.hok.write mu he k heo new)
theorem Inv.pins_of {pins':List (Addr × Obj)} (I:Inv X pins σ H s) (h: ∀ p∈pins',s.heap.get? p.1=some p.2/\H p.1=none/\p.1≠X.env.locals/\p.1 ∉ X.fs/\ ∀ v,p.2.data≠ .cell v):Inv X pins' σ H s:=
 ⟨I.ok,I.os,I.bare,I.base,I.loc,I.cell,I.free,I.freeC,fun p hp=>(List.mem_append.mp hp).elim (fun z=>I.pin p (List.mem_append_left _ z)) (h p),I.hok,I.len,I.qd⟩
theorem Zfy {N:List Str} (hN:N.Nodup) {i j:Nat} {x:Str} (a:N[i]?=some x) (b:N[j]?=some x):i=j:=by
 obtain ⟨h1,e1⟩:=List.getElem?_eq_some_iff.mp a
 obtain ⟨h2,e2⟩:=List.getElem?_eq_some_iff.mp b
 exact (List.getElem_inj hN).mp (e1.trans e2.symm)
theorem Zd8 {M:Model} {A:Around} {E:Value->Shared->Prop} {i:Nat} {x:Str} {v:V} {u:Value} {Q:Unit->Shared->Prop} (I:Inv X pins σ H s) (hN:X.N.Nodup) (hi:X.N[i]?=some x) (hx:Loc X.env.scope x) (r:ZS v u)
  (h: ∀ s',Inv X pins (σ.set i (some v)) H s'->(∃ a,Heap.SameBut a s.heap s'.heap/\(a=X.env.locals\/X.env.cells.lookup x=some a))->Q () s') (hf:X.fn x=true\/X.env.scope.names.lookup x=some .local:=by first | exact .inl rfl | exact .inr rfl | assumption):wpAny M A (storeName X.env x u) Q E s:=by
 obtain ⟨m,hn,hl⟩:=id I.loc
 have hcls:(X.env.scope.kind == .class || (X.env.scope.kind == .module && X.env.locals != X.env.globals))=false:=by rw[I.ok.kind];rfl
 have hiσ:i < σ.length:=by rw[I.len];exact (List.getElem?_eq_some_iff.mp hi).1
 have cne:=I.cne
 have tracked: ∀ {a:Addr} {h':Heap},(∃ o,s.heap.get? a=some o/\H a=none)->Heap.SameBut a s.heap h'->HOk X.prog X.w H h':=fun {a h'} ha hs b ob e=>by
  obtain ⟨_,_,hfree⟩:=ha
  refine (I.hok b ob e).stay (fun c w' hc q=>(hs.2 c ?_).trans q) (fun _ q=>q) fun _ _ q=>q
  rintro rfl
  rcases hc with rfl | hc
  ·rw[hfree] at e;cases e
  ·rw[hfree] at hc;cases hc
 rcases hx with hk | hk
 ·refine wpAny_storeName_local hk hn (fun h' hn' hs=> ?_) hcls
  obtain ⟨oL,_,_,hoL,_⟩:=id hn
  refine h _ ⟨I.ok,I.os,I.bare,⟨fun b o e n hb hx=> ?_,fun b o e n hb hx=> ?_,I.base.free,fun b o e hx=> ?_,I.base.tups,I.base.frzs,I.base.tbls⟩,⟨_,hn',fun j y v' e1 e2 e3=> ?_⟩,fun y c e=> ?_,I.free,I.freeC,fun p hp=> ?_,tracked ⟨oL,hoL,I.free⟩ hs,by simpa using I.len,I.qd⟩ ⟨_,hs,.inl rfl⟩
  ·exact (hs.2 b (Nat.ne_of_lt (Nat.lt_of_lt_of_le (Heap.lt_size e) I.ok.above))).trans (I.base.keep b o e n hb hx)
  ·obtain ⟨sl,e1⟩:=I.base.slot b o e n hb hx
   exact ⟨sl,(hs.2 b (Nat.ne_of_lt (Nat.lt_of_lt_of_le (Heap.lt_size e) I.ok.above))).trans e1⟩
  ·obtain ⟨o',e1⟩:=I.base.there b o e hx
   exact ⟨o',(hs.2 b (Nat.ne_of_lt (Nat.lt_of_lt_of_le (Heap.lt_size e) I.ok.above))).trans e1⟩
  ·by_cases hj:j=i
   ·subst hj
    rw[hi] at e1;cases e1
    rw[List.getElem?_set_self hiσ] at e2
    cases e2
    exact ⟨u,r,.inl ⟨hk,by simp⟩⟩
   ·rw[List.getElem?_set_ne (Ne.symm hj)] at e2
    obtain ⟨u',r',q⟩:=hl j y v' e1 e2 e3
    refine ⟨u',r',?_⟩
    rcases q with ⟨k,e⟩ | ⟨k,c,e,z⟩
    ·refine .inl ⟨k,?_⟩
     have:y≠x:=fun e=>hj (Zfy hN e1 (e ▸ hi))
     simp[this,e]
    ·exact .inr ⟨k,c,e,z.sameBut hs (cne y c e)⟩
  ·obtain ⟨w',z⟩:=I.cell y c e
   exact ⟨w',z.sameBut hs (cne y c e)⟩
  ·obtain ⟨e,n,ne,nf,d⟩:=I.pin p hp
   exact ⟨(hs.2 p.1 ne).trans e,n,ne,nf,d⟩
 ·have hfn:X.fn x=true:=by
   rcases hf with z | z
   ·exact z
   ·rw[z] at hk;cases hk
  obtain ⟨c,hc⟩:=I.ok.has x (.inl hk)
  obtain ⟨w',z⟩:=I.cell x c hc
  refine wpAny_storeName_cell I.ok.kind hk hc z (fun h' hc' hs=> ?_)
  obtain ⟨oc,hoc,hocd⟩:=id z
  refine h { s with heap:=h' } ⟨I.ok,I.os,I.bare,⟨fun b o e n hb hx=> ?_,fun b o e n hb hx=> ?_,I.base.free,fun b o e hx=> ?_,I.base.tups,I.base.frzs,I.base.tbls⟩,⟨m,hn.sameBut hs (Ne.symm (cne x c hc)),fun j y v' e1 e2 e3=> ?_⟩,fun y c' e=> ?_,I.free,I.freeC,fun p hp=> ?_,tracked ⟨oc,hoc,I.freeC x c hc⟩ hs,by simpa using I.len,I.qd⟩ ⟨c,hs,.inr hc⟩
  ·exact (hs.2 b (Nat.ne_of_lt (Nat.lt_of_lt_of_le (Heap.lt_size e) (I.ok.cab x c hfn hc)))).trans (I.base.keep b o e n hb hx)
  ·obtain ⟨sl,e1⟩:=I.base.slot b o e n hb hx
   exact ⟨sl,(hs.2 b (Nat.ne_of_lt (Nat.lt_of_lt_of_le (Heap.lt_size e) (I.ok.cab x c hfn hc)))).trans e1⟩
  ·obtain ⟨o',e1⟩:=I.base.there b o e hx
   exact ⟨o',(hs.2 b (Nat.ne_of_lt (Nat.lt_of_lt_of_le (Heap.lt_size e) (I.ok.cab x c hfn hc)))).trans e1⟩
  ·by_cases hj:j=i
   ·subst hj
    rw[hi] at e1;cases e1
    rw[List.getElem?_set_self hiσ] at e2
    cases e2
    exact ⟨u,r,.inr ⟨.inl hk,c,hc,hc'⟩⟩
   ·rw[List.getElem?_set_ne (Ne.symm hj)] at e2
    obtain ⟨u',r',q⟩:=hl j y v' e1 e2 e3
    refine ⟨u',r',?_⟩
    rcases q with q | ⟨k,c',e,z'⟩
    ·exact .inl q
    ·refine .inr ⟨k,c',e,z'.sameBut hs ?_⟩
     rintro rfl
     exact hj (Zfy hN e1 (I.ok.inj _ _ _ e hc ▸ hi))
  ·by_cases hcc:c'=c
   ·subst hcc;exact ⟨_,hc'⟩
   ·obtain ⟨w2,z2⟩:=I.cell y c' e
    exact ⟨w2,z2.sameBut hs hcc⟩
  ·obtain ⟨e,n,ne,nf,d⟩:=I.pin p hp
   refine ⟨(hs.2 p.1 ?_).trans e,n,ne,nf,d⟩
   intro q
   rw[q,hoc] at e
   have q':oc=p.2:=Option.some.inj e
   exact d w' (by rw[<- q'];exact hocd)
theorem ZcE {M:Model} {A:Around} {E:Value->Shared->Prop} {i:Nat} {x:Str} {v:V} {u:Value} {Q:Unit->Shared->Prop} (I:Inv X pins σ H s) (hN:X.N.Nodup) (hi:X.N[i]?=some x) (hx:Loc X.env.scope x) (r:ZS v u)
  (h: ∀ s',Inv X pins (σ.set i (some v)) H s'->Q () s') (hf:X.fn x=true\/X.env.scope.names.lookup x=some .local:=by first | exact .inl rfl | exact .inr rfl | assumption):wpAny M A (storeName X.env x u) Q E s:=
 Zd8 I hN hi hx r (fun s' I' _=>h s' I') hf
theorem Inv.call' {s':Shared} {ch:List Addr} (I:Inv X pins σ H s) (ho:s'.os=s.os) (u:Un (frs X.stack) ch H H' s.heap s'.heap) (hok:HOk X.prog X.w H' s'.heap) (hg:AllBare s'.gens)
  (hch: ∀ b∈ch,(b∈X.ex\/X.s₀.heap.objs.size<=b)/\b≠X.env.locals/\(∀ x c,X.env.cells.lookup x=some c->c≠b)/\ ∀ p∈X.pn ++ pins,p.1≠b):Inv X pins σ H' s':=by
 obtain ⟨h',g',d',t',o'⟩:=s'
 have e:o'=s.os:=ho
 subst e
 exact I.call (g':=g') (t':=t') (d':=d') u hok hg hch
end
noncomputable abbrev XK:=Value->Option Addr->Hp->Prop
noncomputable abbrev St:=List (Option V)
noncomputable abbrev VK:=V->Hp->Prop
noncomputable abbrev TE:=St->Hp->VK->Prop
noncomputable abbrev TT:=St->Hp->(Bool->Hp->Prop)->Prop
noncomputable abbrev TA:=St->Hp->(List V->Hp->Prop)->Prop
structure Ends where
 nx:St->Hp->Prop
 rt:VK
 bk:St->Hp->Prop:=fun _ _=>False
 ct:St->Hp->Prop:=fun _ _=>False
noncomputable abbrev TS:=Ends->St->Hp->Prop
noncomputable def EP (X:Cx) (pins:List (Addr × Obj)) (σ:St) (Q:VK) (u:Value) (s':Shared):Prop:= ∃ v H',Inv X pins σ H' s'/\ZS v u/\Q v H'
noncomputable def TP (X:Cx) (pins:List (Addr × Obj)) (σ:St) (Q:Bool->Hp->Prop) (b:Bool) (s':Shared):Prop:= ∃ H',Inv X pins σ H' s'/\Q b H'
noncomputable def AP (X:Cx) (pins:List (Addr × Obj)) (σ:St) (Q:List V->Hp->Prop) (us:List Value) (s':Shared):Prop:= ∃ vs H',Inv X pins σ H' s'/\ZW vs us/\Q vs H'
noncomputable def SP (X:Cx) (pins:List (Addr × Obj)) (D:Ends) (f:Flow) (s':Shared):Prop:=
 match f with
 | .next=> ∃ σ' H',Inv X pins σ' H' s'/\D.nx σ' H'
 | .brk=> ∃ σ' H',Inv X pins σ' H' s'/\D.bk σ' H'
 | .cont=> ∃ σ' H',Inv X pins σ' H' s'/\D.ct σ' H'
 | .ret u=> ∃ v σ' H',Inv X pins σ' H' s'/\ZS v u/\D.rt v H'
noncomputable def PE (X:Cx) (e:Expr) (t:TE):Prop:=
 ∀ (pins:List (Addr × Obj)) (s:Shared) (σ:St) (H:Hp) (Q:VK),Inv X pins σ H s->t σ H Q->wpAny (model X.prog X.w) X.A (eval e X.env) (EP X pins σ Q) X.xe s
noncomputable def PT (X:Cx) (e:Expr) (t:TT):Prop:=
 ∀ (pins:List (Addr × Obj)) (s:Shared) (σ:St) (H:Hp) (Q:Bool->Hp->Prop),Inv X pins σ H s->t σ H Q->wpAny (model X.prog X.w) X.A (isTrue e X.env (eval e X.env)) (TP X pins σ Q) X.xe s
noncomputable def PW (X:Cx) (e:Expr) (t:TT):Prop:=
 ∀ (whole:Sem Value) (pins:List (Addr × Obj)) (s:Shared) (σ:St) (H:Hp) (Q:Bool->Hp->Prop),Inv X pins σ H s->t σ H Q->wpAny (model X.prog X.w) X.A (isTrue e X.env whole) (TP X pins σ Q) X.xe s
theorem PW.pt {X:Cx} {e:Expr} {t:TT} (h:PW X e t):PT X e t:=h _
noncomputable def PA (X:Cx) (es:List Expr) (t:TA):Prop:=
 ∀ (pos:Pos) (pins:List (Addr × Obj)) (s:Shared) (σ:St) (H:Hp) (Q:List V->Hp->Prop),Inv X pins σ H s->t σ H Q->wpAny (model X.prog X.w) X.A (spliced (backTo pos (starEach es X.env))) (AP X pins σ Q) X.xe s
noncomputable def PS (X:Cx) (st:Stmt) (t:TS):Prop:=
 ∀ (pins:List (Addr × Obj)) (s:Shared) (σ:St) (H:Hp) (D:Ends),Inv X pins σ H s->t D σ H->wpAny (model X.prog X.w) X.A (exec st X.env) (SP X pins D) X.xe s
noncomputable def PSs (X:Cx) (st:List Stmt) (t:TS):Prop:=
 ∀ (pins:List (Addr × Obj)) (s:Shared) (σ:St) (H:Hp) (D:Ends),Inv X pins σ H s->t D σ H->wpAny (model X.prog X.w) X.A (execs st X.env) (SP X pins D) X.xe s
theorem thn {α:Type} {t:Sem α} {Q Q':α->Shared->Prop} {M:Model} {A:Around} {E:Value->Shared->Prop} {s:Shared} (h:wpAny M A t Q E s) (hQ: ∀ a s,Q a s->Q' a s):wpAny M A t Q' E s:=wpAny_mono h hQ fun _ _ x=>x
end L2
namespace L2
open PySem PySem.Spec PyProof.Rows
section
variable {X:Cx}
theorem bin {a b:Expr} {ta tb:TE} (ha:PE X a ta) (hb:PE X b tb) {pins:List (Addr × Obj)} {s:Shared} {σ:St} {H:Hp} {R:V->V->Hp->Prop} (I:Inv X pins σ H s) (h:ta σ H fun x H1=>tb σ H1 fun y H2=>R x y H2)
  {α:Type} {Q:α->Shared->Prop} {f:Value->Value->Sem α}
  (hf: ∀ v u s2 x y H2,Inv X pins σ H2 s2->ZS x v->ZS y u->R x y H2->wpAny (model X.prog X.w) X.A (f v u) Q X.xe s2):
  wpAny (model X.prog X.w) X.A (eval a X.env) (fun v s₁=>wpAny (model X.prog X.w) X.A (eval b X.env) (fun u s₂=>wpAny (model X.prog X.w) X.A (f v u) Q X.xe s₂) X.xe s₁) X.xe s:=by
 refine thn (ha pins s σ H _ I h) fun v s1 ⟨x,H1,I1,r1,q1⟩=> ?_
 refine thn (hb pins s1 σ H1 _ I1 q1) fun u s2 ⟨y,H2,I2,r2,q2⟩=> ?_
 exact hf v u s2 x y H2 I2 r1 r2 q2
noncomputable def Zq2 (i:Nat):TE:=fun σ H Q=> ∃ v,σ[i]?=some (some v)/\Q v H
noncomputable def tC (v:V):TE:=fun _ H Q=>Q v H
theorem Zjh {i:Nat} {x:Str} {pos:Pos} (hN:X.N[i]?=some x) (hv:Vis X.env.scope x) (hd:(x == ("__debug__":Str))=false:=by decide) (hcd:(x == ("__classdict__":Str))=false:=by decide):PE X (.Name x pos) (Zq2 i):=by
 intro pins s σ H Q I h
 obtain ⟨v,e,h⟩:=h
 obtain ⟨m,hn,hl⟩:=I.loc
 obtain ⟨u,r,l⟩:=hl i x v hN e hv
 have fin:EP X pins σ Q u s:=⟨v,H,I,r,h⟩
 rcases l with ⟨hk,hm⟩ | ⟨hk,c,hc,hcell⟩
 ·exact wpAny_Name (wpAny_loadName_local I.ok.kind hk hn hm fin) hd
 ·rcases hk with hk | hk
  ·exact wpAny_Name (wpAny_loadName_cell I.ok.kind hk hc hcell fin) hd
  ·exact wpAny_Name (wpAny_loadName_free I.ok.kind hk hc hcell fin hcd) hd
theorem Zfz {i j pos}:PE X (.Constant (.int i) j pos) (tC (.int i)):=fun _ _ _ H _ I h=>wpAny_Constant_int ⟨.int i,H,I.tok _,⟨_,rfl⟩,h⟩
theorem ZoT {b j pos}:PE X (.Constant (.bool b) j pos) (tC (.bl b)):=fun _ _ _ H _ I h=>Constant_bool ⟨.bl b,H,I,rfl,h⟩
theorem ZlL {j pos}:PE X (.Constant .none j pos) (tC .non):=fun _ _ _ H _ I h=>Constant_none ⟨.non,H,I,rfl,h⟩
theorem ZlM {x j pos}:PE X (.Constant (.str x) j pos) (tC (.str x)):=fun _ _ _ H _ I h=>Calls.Constant_str ⟨.str x,H,I.tok _,⟨_,rfl⟩,h⟩
noncomputable def Gl (X:Cx) (x:Str):Prop:=X.env.kindOf x=some .globalImplicit
theorem ZgF {E:Value->Shared->Prop} {pins:List (Addr × Obj)} {s:Shared} {σ:St} {H:Hp} {x:Str} {u:Value} {pos:Pos} {Q:Value->Shared->Prop} (I:Inv X pins σ H s) (hg:Gl X x) (hm:X.mg x=some u) (h:Q u s)
  (hd:(x == ("__debug__":Str))=false:=by decide):wpAny (model X.prog X.w) X.A (eval (.Name x pos) X.env) Q E s:=
 Calls.Name_function_global I.ok.kind hg (Calls.loadGlobal_global (by rw[I.ok.glob];exact I.mod.glob.keeps I.bk) hm h) hd
theorem Zcu {E:Value->Shared->Prop} {pins:List (Addr × Obj)} {s:Shared} {σ:St} {H:Hp} {x:Str} {u:Value} {pos:Pos} {Q:Value->Shared->Prop} (I:Inv X pins σ H s) (hg:Gl X x) (hm:X.mg x=none) (hv:bootBuiltins x=some u) (h:Q u s)
  (hn:x≠"__name__":=by decide) (hd:(x == ("__debug__":Str))=false:=by decide):wpAny (model X.prog X.w) X.A (eval (.Name x pos) X.env) Q E s:=by
 obtain ⟨mb,h1,h2⟩:=I.mod.blt
 exact Calls.Name_function_global I.ok.kind hg (Calls.loadGlobal_builtin (by rw[I.ok.glob];exact I.mod.glob.keeps I.bk) hm (by rw[I.ok.blt];exact h1.keeps I.bk) ((h2 x hn).trans hv) h) hd
theorem ZjY {x:Str} {v:V} {u:Value} {pos:Pos} (hg:Gl X x) (hm:X.mg x=none) (hv:bootBuiltins x=some u) (r:ZS v u) (hn:x≠"__name__":=by decide) (hd:(x == ("__debug__":Str))=false:=by decide):PE X (.Name x pos) (tC v):=
 fun _ _ _ H _ I h=>Zcu I hg hm hv ⟨v,H,I,r,h⟩ hn hd
variable {a b:Expr} {ta tb:TE} {pos:Pos}
noncomputable def PC (X:Cx) (op:CmpOp) (a b:Expr) (t:TE):Prop:=
 ∀ (pins:List (Addr × Obj)) (s:Shared) (σ:St) (H:Hp) (Q:VK),Inv X pins σ H s->t σ H Q->
  wpAny (model X.prog X.w) X.A (eval a X.env) (fun v s₁=>wpAny (model X.prog X.w) X.A (eval b X.env) (fun u s₂=>wpAny (model X.prog X.w) X.A (compareOp op v u) (EP X pins σ Q) X.xe s₂) X.xe s₁) X.xe s
theorem Zii (b:Expr) {op:CmpOp} (h:op≠ .In) (h2:op≠ .NotIn):behindInMarks op b=false:=by
 have e1:(op == CmpOp.In)=false:=by cases op<;>first | rfl | exact absurd rfl h
 have e2:(op == CmpOp.NotIn)=false:=by cases op<;>first | rfl | exact absurd rfl h2
 cases b<;>simp[behindInMarks,e1,e2]
noncomputable def tB (t:TE):TT:=fun σ H Q=>t σ H fun x H1=> ∃ c,x= .bl c/\Q c H1
theorem Zq3 {op:CmpOp} {t:TE} (h:PC X op a b t) (h1:behindInMarks op b=false:=by first | exact Zii _ (by decide) (by decide) | rfl):PT X (.Compare a [op] [b] pos) (tB t):=by
 intro pins s σ H Q I hw
 refine wpAny_isTrue_Compare1 (thn (h pins s σ H _ I hw) fun v s1 h1=>thn h1 fun u s2 h2=>thn h2 fun c s3 ⟨x,H1,I1,r1,q1⟩=> ?_) h1
 obtain ⟨d,rfl,q⟩:=q1
 cases r1
 exact wpAny_truthy_bool ⟨H1,I1,q⟩
theorem ZlN {e:Expr} {t:TE} (h:PE X e t) (he: ∀ whole,isTrue e X.env whole=(do let v <- whole;standAt e.pos;holding [v] (truthy v)):=by intro _;rfl):PT X e (tB t):=by
 intro pins s σ H Q I hw
 refine isTrue_plain (thn (h pins s σ H _ I hw) fun v s1 ⟨x,H1,I1,r1,q1⟩=> ?_) (he _)
 obtain ⟨d,rfl,q⟩:=q1
 cases r1
 exact wpAny_truthy_bool ⟨H1,I1,q⟩
variable {tA tB':TT} {rest:List Expr}
noncomputable def Zr8 (t u:TT):TT:=fun σ H Q=>t σ H fun c H1=>if c=true then u σ H1 Q else Q false H1
noncomputable def tOr (t u:TT):TT:=fun σ H Q=>t σ H fun c H1=>if c=true then Q true H1 else u σ H1 Q
noncomputable def Zr9 (t:TT):TT:=fun σ H Q=>t σ H fun c H1=>Q (!c) H1
theorem pw_and1 (ha:PT X a tA):PW X (.BoolOp .And [a] pos) tA:=by
 intro wh pins s σ H Q I h
 refine isTrue_and (thn (ha pins s σ H Q I h) fun c s1 e=> ?_)
 cases c with
 |true=>exact isTrue_and_nil e
 |false=>exact e
theorem pw_or1 (ha:PT X a tA):PW X (.BoolOp .Or [a] pos) tA:=by
 intro wh pins s σ H Q I h
 refine isTrue_or (thn (ha pins s σ H Q I h) fun c s1 e=> ?_)
 cases c with
 |false=>exact isTrue_or_nil e
 |true=>exact e
theorem pw_and (ha:PT X a tA) (hb:PW X (.BoolOp .And (b :: rest) pos) tB'):PW X (.BoolOp .And (a :: b :: rest) pos) (Zr8 tA tB'):=by
 intro wh pins s σ H Q I h
 refine isTrue_and (thn (ha pins s σ H _ I h) fun c s1 ⟨H1,I1,q1⟩=> ?_)
 cases c with
 |true=>exact hb wh pins s1 σ H1 Q I1 q1
 |false=>exact ⟨H1,I1,q1⟩
theorem pw_or (ha:PT X a tA) (hb:PW X (.BoolOp .Or (b :: rest) pos) tB'):PW X (.BoolOp .Or (a :: b :: rest) pos) (tOr tA tB'):=by
 intro wh pins s σ H Q I h
 refine isTrue_or (thn (ha pins s σ H _ I h) fun c s1 ⟨H1,I1,q1⟩=> ?_)
 cases c with
 |true=>exact ⟨H1,I1,q1⟩
 |false=>exact hb wh pins s1 σ H1 Q I1 q1
theorem ZlO (ha:PT X a tA):PT X (.UnaryOp .Not a pos) (Zr9 tA):=by
 intro pins s σ H Q I h
 exact isTrue_not (ha pins s σ H (fun c H1=>Q (!c) H1) I h)
noncomputable def tIf (t:TT) (ta tb:TE):TE:=fun σ H Q=>t σ H fun c H1=>if c=true then ta σ H1 Q else tb σ H1 Q
theorem Zij {c:Expr} (hc:PT X c tA) (ha:PE X a ta) (hb:PE X b tb):PE X (.IfExp c a b pos) (tIf tA ta tb):=by
 intro pins s σ H Q I h
 refine wpAny_IfExp (thn (hc pins s σ H _ I h) fun d s1 ⟨H1,I1,q1⟩=> ?_)
 cases d with
 |true=>exact ha pins s1 σ H1 Q I1 q1
 |false=>exact hb pins s1 σ H1 Q I1 q1
end
end L2
namespace L2
open PySem PySem.Spec PyProof.Rows
noncomputable def SqL (K:PySem.W.Frag) (H:Hp) (a:Addr) (xs:List V):Prop:=
 Rd H a (.lst xs)\/
  ∃ (o:Obj) (its:Array Value) (n:Nat),K.lookup a=some o/\o.cls= .type "list"/\o.dict=none/\o.data= .seq its n/\its.size<=sizeLine/\ZW xs its.toList
noncomputable def SqT (K:PySem.W.Frag) (H:Hp) (a:Addr) (xs:List V):Prop:=
 Rd H a (.tup xs)\/
  ∃ (o:Obj) (its:Array Value) (n:Nat),K.lookup a=some o/\o.cls= .type "tuple"/\o.data= .seq its n/\its.size<=sizeLine/\ZW xs its.toList
noncomputable def Zsa:Value->Option V
 | .none=>some .non
 | .bool b=>some (.bl b)
 | .int i _=>some (.int i)
 | .str x _=>some (.str x)
 | .bytes b _=>some (.byt b)
 | .float b _=>some (.flt b)
 | .ref a=>some (.ref a)
 | .type n=>some (.ty n)
 |_=>none
theorem ZS.abs {x:V} {u:Value} (r:ZS x u):Zsa u=some x:=by
 cases x with
 |non=>cases r;rfl
 |bl _=>cases r;rfl
 |int _=>obtain ⟨t,rfl⟩:=r;rfl
 |str _=>obtain ⟨t,rfl⟩:=r;rfl
 |byt _=>obtain ⟨t,rfl⟩:=r;rfl
 |flt _=>obtain ⟨t,rfl⟩:=r;rfl
 |ref _=>cases r;rfl
 |ty _=>cases r;rfl
theorem ZS.inj {x y:V} {u:Value} (r:ZS x u) (q:ZS y u):x=y:=Option.some.inj (r.abs.symm.trans q.abs)
theorem ZW.inj: ∀ {xs ys:List V} {us:List Value},ZW xs us->ZW ys us->xs=ys
 |_,_,_,.nil,.nil=>rfl
 |_,_,_,.cons r t,.cons r' t'=>by rw[r.inj r',ZW.inj t t']
section
variable {X:Cx} {pins:List (Addr × Obj)} {σ:St} {H:Hp} {s:Shared} {a:Addr} {xs ys:List V}
theorem SqL.of {K:PySem.W.Frag} (h:H a=some (.lst xs)):SqL K H a xs:= .inl (.inl h)
theorem SqT.of {K:PySem.W.Frag} (h:H a=some (.tup xs)):SqT K H a xs:= .inl (.inl h)
theorem Inv.list (I:Inv X pins σ H s) (h:SqL X.K H a xs): ∃ its:List Value,ZW xs its/\PlainL s.heap a its.toArray/\xs.length<=sizeLine:=by
 rcases h with h | ⟨o,its,n,hk,hc,hd,hs,hz,r⟩
 ·obtain ⟨z,its,n,r,e⟩:=h.ok I.hok
  exact ⟨its,r,⟨_,n,e,rfl,rfl,rfl⟩,z⟩
 ·refine ⟨its.toList,r,⟨o,n,I.kIn a o hk,hc,hd,by simpa using hs⟩,?_⟩
  have e:=r.length
  simp only[Array.length_toList] at e
  omega
theorem Inv.tuple (I:Inv X pins σ H s) (h:SqT X.K H a xs): ∃ its:List Value,ZW xs its/\IsTup s.heap a its.toArray/\xs.length<=sizeLine:=by
 rcases h with h | ⟨o,its,n,hk,hc,hs,hz,r⟩
 ·obtain ⟨z,its,r,p⟩:=h.ok I.hok
  exact ⟨its,r,p,z⟩
 ·refine ⟨its.toList,r,⟨o,I.kIn a o hk,hc,n,by simpa using hs⟩,?_⟩
  have e:=r.length
  simp only[Array.length_toList] at e
  omega
theorem Inv.list_inj (I:Inv X pins σ H s) (h:SqL X.K H a xs) (h':SqL X.K H a ys):xs=ys:=by
 obtain ⟨its,r,⟨o,n,e,_,_,d⟩,_⟩:=I.list h
 obtain ⟨its',r',⟨o',n',e',_,_,d'⟩,_⟩:=I.list h'
 rw[e] at e';cases e'
 rw[d] at d'
 injection d' with d1 _
 have:its=its':=by simpa using congrArg Array.toList d1
 subst this
 exact r.inj r'
theorem Inv.tuple_inj (I:Inv X pins σ H s) (h:SqT X.K H a xs) (h':SqT X.K H a ys):xs=ys:=by
 obtain ⟨its,r,⟨o,e,_,n,d⟩,_⟩:=I.tuple h
 obtain ⟨its',r',⟨o',e',_,n',d'⟩,_⟩:=I.tuple h'
 rw[e] at e';cases e'
 rw[d] at d'
 injection d' with d1 _
 have:its=its':=by simpa using congrArg Array.toList d1
 subst this
 exact r.inj r'
end
section
variable {X:Cx} {pins:List (Addr × Obj)} {σ:St} {H:Hp} {s:Shared} {E:Value->Shared->Prop}
end
section
variable {X:Cx} {st:Stmt} {rest:List Stmt} {t u:TS} {e:Expr} {te:TE} {pos:Pos}
noncomputable def tNext:TS:=fun D σ H=>D.nx σ H
noncomputable def Zsb (t u:TS):TS:=fun D σ H=>t { D with nx:=u D } σ H
theorem ZjZ:PSs X [] tNext:=fun _ _ σ H _ I h=>wpAny_execs_nil ⟨σ,H,I,h⟩
theorem Zik (h1:PS X st t) (h2:PSs X rest u):PSs X (st :: rest) (Zsb t u):=by
 intro pins s σ H D I h
 refine wpAny_execs_cons (thn (h1 pins s σ H { D with nx:=u D } I h) fun f s1 q=> ?_)
 cases f with
 |next=>
  obtain ⟨σ',H',I',q⟩:=q
  exact h2 pins s1 σ' H' D I' q
 |ret v=>exact q
 |brk=>exact q
 |cont=>exact q
theorem Zj0 (h1:PS X st t):PSs X [st] t:=by
 intro pins s σ H D I h
 refine wpAny_execs_cons (thn (h1 pins s σ H D I h) fun f s1 q=> ?_)
 cases f with
 |next=>exact wpAny_execs_nil q
 |ret v=>exact q
 |brk=>exact q
 |cont=>exact q
theorem Inv.quiet {pins:List (Addr × Obj)} {σ:St} {H:Hp} {s:Shared} (I:Inv X pins σ H s):interactive X.env=false:=by simp[interactive,I.ok.kind]
noncomputable def ZoU (te:TE):TS:=fun D σ H=>te σ H fun _ H1=>D.nx σ H1
theorem Zj1 (he:PE X e te) (hs:swapsWith e none pos.line X.env=pure false:=by rfl):PS X (.Expr e pos) (ZoU te):=by
 intro pins s σ H D I h
 exact wpAny_Expr_any (thn (he pins s σ H _ I h) fun v s1 ⟨x,H1,I1,r1,q1⟩=>⟨σ,H1,I1,q1⟩) I.quiet hs
noncomputable def Zsc (te:TE):TS:=fun D σ H=>te σ H D.rt
theorem ZlP (he:PE X e te):PS X (.Return (some e) pos) (Zsc te):=by
 intro pins s σ H D I h
 exact wpAny_Return_some (thn (he pins s σ H _ I h) fun v s1 ⟨x,H1,I1,r1,q1⟩=>⟨x,σ,H1,I1,r1,q1⟩)
noncomputable def Zsd (c:TT) (t u:TS):TS:=fun D σ H=>c σ H fun b H1=>if b=true then t D σ H1 else u D σ H1
theorem ZoV {c:Expr} {a b:List Stmt} {tc:TT} (hc:PT X c tc) (ha:PSs X a t) (hb:PSs X b u):PS X (.If c a b pos) (Zsd tc t u):=by
 intro pins s σ H D I h
 refine wpAny_If (thn (hc pins s σ H _ I h) fun d s1 ⟨H1,I1,q1⟩=> ?_)
 cases d with
 |true=>exact ha pins s1 σ H1 D I1 q1
 |false=>exact hb pins s1 σ H1 D I1 q1
end
noncomputable abbrev TG:=V->St->Hp->(St->Hp->Prop)->Prop
noncomputable abbrev TGs:=List V->St->Hp->(St->Hp->Prop)->Prop
noncomputable def PG (X:Cx) (target:Expr) (t:TG):Prop:=
 ∀ (pins:List (Addr × Obj)) (s:Shared) (σ:St) (H:Hp) (v:V) (u:Value) (Q:St->Hp->Prop),Inv X pins σ H s->ZS v u->t v σ H Q->
  wpAny (model X.prog X.w) X.A (assign target X.env u) (fun _ s'=> ∃ σ' H',Inv X pins σ' H' s'/\Q σ' H') X.xe s
noncomputable def PGs (X:Cx) (ts:List Expr) (t:TGs):Prop:=
 ∀ (pins:List (Addr × Obj)) (s:Shared) (σ:St) (H:Hp) (vs:List V) (us:List Value) (Q:St->Hp->Prop),Inv X pins σ H s->ZW vs us->t vs σ H Q->
  wpAny (model X.prog X.w) X.A (assignInOrder ((assignEach ts X.env).map (·.2)) us) (fun _ s'=> ∃ σ' H',Inv X pins σ' H' s'/\Q σ' H') X.xe s
noncomputable abbrev ZoW:=V->V->V->Hp->(Hp->Prop)->Prop
noncomputable def Zq4 (X:Cx) (t:ZoW):Prop:=
 ∀ (pins:List (Addr × Obj)) (s:Shared) (σ:St) (H:Hp) (o i v:V) (ov iv u:Value) (Q:Hp->Prop),Inv X pins σ H s->ZS o ov->ZS i iv->ZS v u->t o i v H Q->
  wpAny (model X.prog X.w) X.A (setItem ov iv u) (fun _ s'=> ∃ H',Inv X pins σ H' s'/\Q H') X.xe s
section
variable {X:Cx} {pos:Pos}
noncomputable def ZlQ (i:Nat):TG:=fun v σ H Q=>Q (σ.set i (some v)) H
theorem Zj2 {i:Nat} {x:Str} (hN:X.N.Nodup) (hi:X.N[i]?=some x) (hx:Loc X.env.scope x) (hf:X.fn x=true\/X.env.scope.names.lookup x=some .local:=by first | exact .inl rfl | exact .inr rfl | assumption):PG X (.Name x pos) (ZlQ i):=by
 intro pins s σ H v u Q I r h
 exact wpAny_assign_Name (ZcE I hN hi hx r (fun s' I'=>⟨_,H,I',h⟩) hf)
noncomputable def gNil:TGs:=fun vs σ H Q=>vs=[]/\Q σ H
noncomputable def ZoX (t:TG) (u:TGs):TGs:=fun vs σ H Q=> ∃ v r,vs=v :: r/\t v σ H fun σ' H'=>u r σ' H' Q
theorem Zj3:PGs X [] gNil:=by
 intro pins s σ H vs us Q I r h
 obtain ⟨e,h⟩:=h
 subst e
 cases r
 exact assignInOrder_nil ⟨σ,H,I,h⟩
theorem Zil {e:Expr} {es:List Expr} {t:TG} {u:TGs} (h1:PG X e t) (h2:PGs X es u)
  (hs:(assignEach (e :: es) X.env).map (·.2)=assign e X.env :: (assignEach es X.env).map (·.2):=by rfl):PGs X (e :: es) (ZoX t u):=by
 intro pins s σ H vs us Q I r h
 obtain ⟨v,vr,e1,h⟩:=h
 subst e1
 cases r with
 |cons r rr=>
  rw[hs]
  refine assignInOrder_cons (thn (h1 pins s σ H _ _ _ I r h) fun _ s1 ⟨σ1,H1,I1,q1⟩=> ?_)
  exact h2 pins s1 σ1 H1 _ _ Q I1 rr q1
noncomputable def Zse (K:PySem.W.Frag) (n:Nat) (t:TGs):TG:=fun v σ H Q=> ∃ a xs,v= .ref a/\SqT K H a xs/\xs.length=n/\t xs σ H Q
theorem ZlR {es:List Expr} {k:Nat} {t:TGs} {n:Nat} (hc:X.calm=true) (h:PGs X es t)
  (hn:(assignEach es X.env).length=n:=by rfl) (hst:(assignEach es X.env).findIdx? (·.1)=none:=by rfl):PG X (.Tuple es k pos) (Zse X.K n t):=by
 intro pins s σ H v u Q I r hw
 obtain ⟨a,xs,e1,hq,hl,hw⟩:=hw
 subst e1
 cases r
 obtain ⟨its,rv,ht,hz⟩:=I.tuple hq
 refine assign_Tuple_tuple (I.ok.hd hc) ht (by simp[hn,<- hl,rv.length]) hst fun h' hx=> ?_
 have I1:Inv X pins σ H { s with heap:=h' }:=I.kept (t':=s.toks) fun b o e=>hx b o (Nat.ne_of_lt (Heap.lt_size e)) e
 exact h pins _ σ H xs _ Q I1 (by simpa using rv) hw
noncomputable def Zsf (to ti:TE) (t:ZoW):TG:=fun v σ H Q=>to σ H fun o H1=>ti σ H1 fun i H2=>t o i v H2 fun H3=>Q σ H3
theorem ZlS {o i:Expr} {to ti:TE} {t:ZoW} (ho:PE X o to) (hi:PE X i ti) (hs:Zq4 X t)
  (ha: ∀ v,assign (.Subscript o i pos) X.env v=(do
   let ov <- holding [v] (eval o X.env)
   let iv <- holding [v,ov] (eval i X.env)
   standAt pos
   holding [v,ov,iv] (setItem ov iv v)
   release [v,ov,iv] []):=by intro _;rfl):PG X (.Subscript o i pos) (Zsf to ti t):=by
 intro pins s σ H v u Q I r h
 rw[ha]
 refine wpAny_bind (wpAny_holding (thn (ho pins s σ H _ I h) fun ov s1 ⟨x,H1,I1,r1,q1⟩=> ?_))
 refine wpAny_bind (wpAny_holding (thn (hi pins s1 σ H1 _ I1 q1) fun iv s2 ⟨y,H2,I2,r2,q2⟩=> ?_))
 refine wpAny_bind (wpAny_standAt (wpAny_bind (wpAny_holding (thn (hs pins s2 σ H2 x y v ov iv u _ I2 r1 r2 r q2) fun _ s3 ⟨H3,I3,q3⟩=> ?_))))
 exact wpAny_release ⟨σ,H3,I3,q3⟩
noncomputable def Zq5 (te:TE) (g:TG):TS:=fun D σ H=>te σ H fun x H1=>g x σ H1 D.nx
theorem Zji {tg e:Expr} {te:TE} {g:TG} (he:PE X e te) (hg:PG X tg g) (hs:swapsWithSole [tg] e pos.line X.env=pure false:=by rfl) (hw:swappedStores [tg] e X.env=pure none:=by rfl)
  (h1:(assignEach [tg] X.env).map (·.2)=[assign tg X.env]:=by rfl):PS X (.Assign [tg] e pos) (Zq5 te g):=by
 intro pins s σ H D I h
 refine wpAny_Assign_stores (thn (he pins s σ H _ I h) fun v s1 ⟨x,H1,I1,r1,q1⟩=> ?_) hs hw
 rw[h1]
 exact thn (hg pins s1 σ H1 x v _ I1 r1 q1) fun _ s2 q=>q
theorem ZlT {i:Nat} {x:Str} {e:Expr} {te:TE} {pos':Pos} (hN:X.N.Nodup) (hi:X.N[i]?=some x) (hx:Loc X.env.scope x) (he:PE X e te) (hs:swapsWith e (some (.Name x pos')) pos.line X.env=pure false:=by rfl) (hf:X.fn x=true\/X.env.scope.names.lookup x=some .local:=by first | exact .inl rfl | exact .inr rfl | assumption):
  PS X (.Assign [.Name x pos'] e pos) (Zq5 te (ZlQ i)):=by
 intro pins s σ H D I h
 refine wpAny_Assign_Name (thn (he pins s σ H _ I h) fun v s1 ⟨y,H1,I1,r1,q1⟩=> ?_) hs
 exact ZcE I1 hN hi hx r1 (fun s2 I2=>⟨_,H1,I2,q1⟩) hf
noncomputable def Zsg (i j:Nat) (ta:TA):TS:=fun D σ H=>ta σ H fun vs H1=> ∃ v w,vs=[v,w]/\D.nx ((σ.set i (some v)).set j (some w)) H1
theorem ZlU {i j:Nat} {x y:Str} {a b:Expr} {ta:TA} {px py pt:Pos} {kt k2 pt2} (hc:X.calm=true) (hN:X.N.Nodup) (hi:X.N[i]?=some x) (hj:X.N[j]?=some y) (hij:i≠j)
  (hx:X.env.scope.names.lookup x=some .local) (hy:X.env.scope.names.lookup y=some .local) (ha:PA X [a,b] ta)
  (hw:swappedStores [.Tuple [.Name x px,.Name y py] kt pt] (.Tuple [a,b] k2 pt2) X.env=pure (some [x,y]))
  (hs:swapsWithSole [.Tuple [.Name x px,.Name y py] kt pt] (.Tuple [a,b] k2 pt2) pos.line X.env=pure false:=by rfl):
  PS X (.Assign [.Tuple [.Name x px,.Name y py] kt pt] (.Tuple [a,b] k2 pt2) pos) (Zsg i j ta):=by
 intro pins s σ H D I h
 rw[exec_Assign_arm]
 refine wpAny_bind (wpAny_standAt ?_)
 rw[hs]
 refine wpAny_bind (wpAny_pure ?_)
 rw[if_neg (by decide)]
 refine wpAny_bind (Tuple_ (thn (ha _ pins s σ H _ I h) fun us s1 ⟨vs,H1,I1,r1,q1⟩=> ?_))
 obtain ⟨v,w,e1,q1⟩:=q1
 subst e1
 obtain ⟨u1,u2,rfl,rv,rw'⟩: ∃ u1 u2,us=[u1,u2]/\ZS v u1/\ZS w u2:=by
  cases r1 with
  |cons p q=>
   cases q with
   |cons p' q'=>
    cases q'
    exact ⟨_,_,rfl,p,p'⟩
 refine wpAny_newObj_type ?_ (by show 2<=sizeLine;decide)
 have I2:Inv X pins σ H1 { s1 with heap:=s1.heap.push { cls:= .type "tuple",data:= .seq [u1,u2].toArray } }:=I1.kept (t':=s1.toks) fun b o e=>Heap.get?_push_of_some _ e
 rw[hw]
 refine wpAny_bind (wpAny_pure ?_)
 show wpAny (model X.prog X.w) X.A (do rule "assign.swapped-stores";let items <- unpackItems (.ref s1.heap.objs.size) 2 none;assignInOrder [fun v=>bindName X.env y v,fun v=>bindName X.env x v] items.reverse;pure Flow.next) _ _ _
 refine wpAny_bind (wpAny_rule (wpAny_bind (unpackItems_tuple (items:= #[u1,u2]) (I.ok.hd hc) (IsTup.new s1.heap _) fun h' hx'=> ?_)))
 have I3:=I2.kept (h':=h') (t':=s1.toks) fun b o e=>hx' b o (Nat.ne_of_lt (Heap.lt_size e)) e
 show wpAny _ _ (assignInOrder [fun v=>bindName X.env y v,fun v=>bindName X.env x v] [u2,u1] >>= fun _=>pure Flow.next) _ _ _
 refine wpAny_bind (assignInOrder_cons (wpAny_bindName (ZcE I3 hN hj (.inl hy) rw' (fun s2 I4=> ?_) (.inr hy))))
 refine assignInOrder_cons (wpAny_bindName (ZcE I4 hN hi (.inl hx) rv (fun s3 I5=>assignInOrder_nil (wpAny_pure ?_)) (.inr hx)))
 rw[List.set_comm _ _ (Ne.symm hij)] at I5
 exact ⟨_,H1,I5,q1⟩
end
section
variable {X:Cx} {pos:Pos}
noncomputable def ZlV (c:TT) (tb:TS):TS:=fun D σ H=> ∃ W:Nat->St->Hp->Prop,(∃ m,W m σ H)/\ ∀ m σ H,W m σ H->
 c σ H fun b H1=>if b=true then ∃ N:St->Hp->Prop,(∀ σ' H',N σ' H'-> ∃ m',m' < m/\W m' σ' H')/\tb { D with nx:=N,ct:=N,bk:=D.nx } σ H1 else D.nx σ H1
theorem Zim {c:Expr} {body:List Stmt} {tc:TT} {tb:TS} (hp:PassesOwn (model X.prog X.w) X.A X.env X.xe) (hc:PT X c tc) (hb:PSs X body tb):PS X (.While c body [] pos) (ZlV tc tb):=by
 intro pins s σ H D I h
 obtain ⟨W,⟨m0,w0⟩,turn⟩:=h
 refine wpAny_While (codeAny_whileLoop (fun n s'=> ∃ σ' H',Inv X pins σ' H' s'/\W n σ' H') ?_ m0 ⟨σ,H,I,w0⟩)
 rintro n s1 ⟨σ1,H1,I1,w1⟩
 refine wpAny_passesOwn hp (thn (hc pins s1 σ1 H1 _ I1 (turn n σ1 H1 w1)) fun b s2 ⟨H2,I2,q2⟩=> ?_)
 cases b with
 |true=>
  obtain ⟨N,hN,q2⟩:=q2
  rw[if_pos rfl]
  refine wpAny_passesOwn hp (thn (hb pins s2 σ1 H2 _ I2 q2) fun f s3 q3=> ?_)
  cases f with
  |next=>
   obtain ⟨σ3,H3,I3,n3⟩:=q3
   obtain ⟨m',hm,w3⟩:=hN σ3 H3 n3
   exact ⟨m',hm,σ3,H3,I3,w3⟩
  |cont=>
   obtain ⟨σ3,H3,I3,n3⟩:=q3
   obtain ⟨m',hm,w3⟩:=hN σ3 H3 n3
   exact ⟨m',hm,σ3,H3,I3,w3⟩
  |brk=>exact q3
  |ret v=>exact q3
 |false=>
  rw[if_neg Bool.false_ne_true]
  exact wpAny_execs_nil ⟨σ1,H2,I2,q2⟩
end
structure It where
 go:Nat->Hp->Prop
 yld:Nat->Hp->V->Hp->Prop
 stop:Nat->Hp->Prop
noncomputable def Zd9 (X:Cx) (pins:List (Addr × Obj)) (H:Hp) (b:Addr):Prop:=
 H b=none/\b≠X.env.locals/\b ∉ X.fs/\(b∈X.ex\/X.s₀.heap.objs.size<=b)/\(∀ x c,X.env.cells.lookup x=some c->c≠b)/\ ∀ p∈X.pn ++ pins,p.1≠b
theorem Inv.fpOk {X:Cx} {pins:List (Addr × Obj)} {σ:St} {H H':Hp} {s:Shared} {b:Addr} (I:Inv X pins σ H s) (hb:s.heap.objs.size<=b) (hn:H' b=none):Zd9 X pins H' b:=by
 refine ⟨hn,Nat.ne_of_gt (Nat.lt_of_lt_of_le I.lt hb),I.nofs hb,.inr (Nat.le_trans I.sz hb),fun x c e z=> ?_,fun p hp z=> ?_⟩
 ·obtain ⟨v,q⟩:=I.cell x c e
  exact absurd (Nat.lt_of_lt_of_le q.lt (by rw[z];exact hb)) (Nat.lt_irrefl _)
 ·exact absurd (Nat.lt_of_lt_of_le (Heap.lt_size (I.pin p hp).1) (by rw[z];exact hb)) (Nat.lt_irrefl _)
structure Turn (P:Program) (w:World) (K:PySem.W.Frag) (B:Around) (tg:Expr) (J:It) (fp:List Addr) (it:Addr) (tn:Nat->Heap->Prop):Prop where
 mem:it∈fp
 obj: ∀ i h,tn i h-> ∀ b∈fp,∃ o,h.get? b=some o/\ ∀ v,o.data≠ .cell v
 keep: ∀ i h h',tn i h->(∀ b∈fp,∀ o,h.get? b=some o->h'.get? b=some o)->tn i h'
 item: ∀ (X:Cx),X.prog=P->X.w=w->X.K=K->X.A=B-> ∀ (i:Nat) (pins:List (Addr × Obj)) (s:Shared) (σ:St) (H:Hp) (E:Value->Shared->Prop),Inv X pins σ H s->(∀ b∈fp,Zd9 X pins H b)->tn i s.heap->J.go i H->
  wpAny (model P w) X.A (pyNext (.ref it)) (fun r s1=> ∃ u,r=some u/\
   wpAny (model P w) X.A (letOwnedTupleGo tg (.ref it) u) (fun _ s2=> ∃ x H',Inv X pins σ H' s2/\ZS x u/\J.yld i H x H'/\tn (i + 1) s2.heap/\ ∀ b∈fp,H' b=none) E s1) E s
 done: ∀ (X:Cx),X.prog=P->X.w=w->X.K=K->X.A=B-> ∀ (i:Nat) (pins:List (Addr × Obj)) (s:Shared) (σ:St) (H:Hp) (E:Value->Shared->Prop),Inv X pins σ H s->(∀ b∈fp,Zd9 X pins H b)->tn i s.heap->J.stop i H->
  wpAny (model P w) X.A (pyNext (.ref it)) (fun r s1=>r=none/\Inv X pins σ H s1) E s
 self: ∀ (A:Around) (i:Nat) (s:Shared) (Q:Value->Shared->Prop) (E:Value->Shared->Prop),tn i s.heap->Q (.ref it) s->wpAny (model P w) A (pyIter (.ref it)) Q E s
noncomputable abbrev TI:=St->Hp->(It->Hp->Prop)->Prop
noncomputable def PIE (X:Cx) (pins:List (Addr × Obj)) (σ:St) (tg:Expr) (R:It->Hp->Prop) (itv:Value) (s2:Shared):Prop:=
 ∃ (it:Addr) (fp:List Addr) (tn:Nat->Heap->Prop) (J:It) (H':Hp),itv= .ref it/\Inv X pins σ H' s2/\Turn X.prog X.w X.K X.A tg J fp it tn/\tn 0 s2.heap/\(∀ b∈fp,Zd9 X pins H' b)/\R J H'
noncomputable def PI (X:Cx) (tg iter:Expr) (wi:TI):Prop:=
 ∀ (pins:List (Addr × Obj)) (s:Shared) (σ:St) (H:Hp) (R:It->Hp->Prop),Inv X pins σ H s->wi σ H R->
  wpAny (model X.prog X.w) X.A (eval iter X.env) (fun v s1=>wpAny (model X.prog X.w) X.A (pyIter v) (PIE X pins σ tg R) X.xe s1) X.xe s
theorem Zin {M:Model} {A:Around} {E:Value->Shared->Prop} {s:Shared} {tg:Expr} {it:Addr} {u:Value} {o:Obj} {n:String} {vs:Array Value} {Q:Unit->Shared->Prop} (ho:s.heap.get? it=some o) (hc:o.cls= .type n) (hd:o.data= .fields vs)
  (hn:["enumerate","zip","dict_itemiterator","dict_reverseitemiterator","odict_iterator","itertools.zip_longest","itertools.pairwise"].contains n=false) (hQ:Q () s):wpAny M A (letOwnedTupleGo tg (.ref it) u) Q E s:=by
 unfold letOwnedTupleGo
 cases tg<;>first
  |exact wpAny_pure hQ
  | (cases u<;>first
    |exact wpAny_pure hQ
    | (refine wpAny_bind (wpAny_load ho ?_)
       rw[hc,hd]
       show wpAny M A (if (["enumerate","zip","dict_itemiterator","dict_reverseitemiterator","odict_iterator","itertools.zip_longest","itertools.pairwise"].contains n && vs[0]? == some (rawInt _))=true then _ else _) Q E s
       rw[if_neg (by intro h;rw[hn,Bool.false_and] at h;cases h)]
       exact wpAny_pure hQ))
noncomputable def Itl (K:PySem.W.Frag) (a:Addr):It:=
 ⟨fun i H=> ∃ xs x,SqL K H a xs/\xs[i]?=some x,fun i H x H'=>H'=H/\ ∀ xs,SqL K H a xs->xs[i]?=some x,fun i H=> ∃ xs,SqL K H a xs/\xs.length<=i⟩
noncomputable def Itt (K:PySem.W.Frag) (a:Addr):It:=
 ⟨fun i H=> ∃ xs x,SqT K H a xs/\xs[i]?=some x,fun i H x H'=>H'=H/\ ∀ xs,SqT K H a xs->xs[i]?=some x,fun i H=> ∃ xs,SqT K H a xs/\xs.length<=i⟩
noncomputable def Itr (lo:Int) (n:Nat):It:=⟨fun i _=>i < n,fun i H x H'=>H'=H/\x= .int (lo + i),fun i _=>n<=i⟩
theorem ZgG {P:Program} {w:World} {K:PySem.W.Frag} {B:Around} {tg:Expr} (a it:Addr):Turn P w K B tg (Itl K a) [it] it (fun i h=>h.IsListIter it a i) where
 mem:=by simp
 obj:=fun i h st b hb=>by
  have e:b=it:=by simpa using hb
  subst e
  obtain ⟨o,e,c,d⟩:=st
  exact ⟨o,e,fun v z=>by rw[d] at z;cases z⟩
 keep:=fun i h h' st k=>st.at fun o e=>k it (by simp) o e
 item:=by
  intro X hP hw hK hB i pins s σ H E I hf st hg
  subst hP hw hK
  obtain ⟨xs,x,hq,hx⟩:=hg
  obtain ⟨its,rv,p,hz⟩:=I.list hq
  obtain ⟨u,hu,ru⟩:=rv.get hx
  obtain ⟨f0,f1,f2,f3,f4,f5⟩:=hf it (by simp)
  refine wpAny_pyNext_list_item st p.isList (x:=u) (by simpa using hu) fun h' st' sb=> ?_
  have I1:Inv X pins σ H { s with heap:=h' }:=I.turned (t':=s.toks) (fun b o hb e=>(sb.2 b hb).trans e) f0 f1 f3 f4 f5
  obtain ⟨o,e,c,d⟩:=id st'
  exact ⟨u,rfl,Zin (s:={ s with heap:=h' }) e c d (by decide) ⟨x,H,I1,ru,⟨rfl,fun ys hy=>by rw[I.list_inj hy hq];exact hx⟩,st',fun b hb=>(hf b hb).1⟩⟩
 done:=by
  intro X hP hw hK hB i pins s σ H E I hf st hg
  subst hP hw hK
  obtain ⟨xs,hq,hx⟩:=hg
  obtain ⟨its,rv,p,hz⟩:=I.list hq
  obtain ⟨f0,f1,f2,f3,f4,f5⟩:=hf it (by simp)
  have hl:=rv.length
  exact DQ.Zih I.qh st p.isList (by simp;omega) fun h' eb=>⟨rfl,I.turned (t':=s.toks) (fun b o hb e=>eb b o hb e) f0 f1 f3 f4 f5⟩
 self:=fun _ _ _ _ _ st h=>wpAny_pyIter_listiter st h
theorem Zf1 {P:Program} {w:World} {K:PySem.W.Frag} {B:Around} {tg:Expr} (a it:Addr):Turn P w K B tg (Itt K a) [it] it (fun i h=>h.IsTupleIter it a i) where
 mem:=by simp
 obj:=fun i h st b hb=>by
  have e:b=it:=by simpa using hb
  subst e
  obtain ⟨o,e,c,d⟩:=st
  exact ⟨o,e,fun v z=>by rw[d] at z;cases z⟩
 keep:=fun i h h' st k=>st.at fun o e=>k it (by simp) o e
 item:=by
  intro X hP hw hK hB i pins s σ H E I hf st hg
  subst hP hw hK
  obtain ⟨xs,x,hq,hx⟩:=hg
  obtain ⟨its,rv,p,hz⟩:=I.tuple hq
  obtain ⟨u,hu,ru⟩:=rv.get hx
  obtain ⟨f0,f1,f2,f3,f4,f5⟩:=hf it (by simp)
  refine wpAny_pyNext_tuple_item st (show s.heap.IsTuple a its.toArray from p) (x:=u) (by simpa using hu) fun h' st' sb=> ?_
  have I1:Inv X pins σ H { s with heap:=h' }:=I.turned (t':=s.toks) (fun b o hb e=>(sb.2 b hb).trans e) f0 f1 f3 f4 f5
  obtain ⟨o,e,c,d⟩:=id st'
  exact ⟨u,rfl,Zin (s:={ s with heap:=h' }) e c d (by decide) ⟨x,H,I1,ru,⟨rfl,fun ys hy=>by rw[I.tuple_inj hy hq];exact hx⟩,st',fun b hb=>(hf b hb).1⟩⟩
 done:=by
  intro X hP hw hK hB i pins s σ H E I hf st hg
  subst hP hw hK
  obtain ⟨xs,hq,hx⟩:=hg
  obtain ⟨its,rv,p,hz⟩:=I.tuple hq
  obtain ⟨f0,f1,f2,f3,f4,f5⟩:=hf it (by simp)
  have hl:=rv.length
  exact DQ.ZgA I.qh st (show s.heap.IsTuple a its.toArray from p) (by simp;omega) fun h' eb=>⟨rfl,I.turned (t':=s.toks) (fun b o hb e=>eb b o hb e) f0 f1 f3 f4 f5⟩
 self:=fun _ _ _ _ _ st h=>wpAny_pyIter_tupleiter st h
theorem Zf2 {P:Program} {w:World} {K:PySem.W.Frag} {B:Around} {tg:Expr} (it:Addr) (lo:Int) (n:Nat):Turn P w K B tg (Itr lo n) [it] it (fun i h=>IsRangeIter h it (lo + (i:Nat) * 1) ((n:Int) - (i:Nat)) 1) where
 mem:=by simp
 obj:=fun i h st b hb=>by
  have e:b=it:=by simpa using hb
  subst e
  exact ⟨_,st,fun v z=>by
   have z':Data.fields _=Data.cell v:=z
   cases z'⟩
 keep:=fun i h h' st k=>k it (by simp) _ st
 item:=by
  intro X hP hw hK hB i pins s σ H E I hf st hg
  subst hP hw hK
  obtain ⟨f0,f1,f2,f3,f4,f5⟩:=hf it (by simp)
  have hlt:i < n:=hg
  refine wpAny_pyNext_range_item st (by omega) fun h' st' sb=> ?_
  have I1:Inv X pins σ H { s with heap:=h',toks:=s.toks + 1 }:=I.turned (fun b o hb e=>(sb.2 b hb).trans e) f0 f1 f3 f4 f5
  have st2:IsRangeIter h' it (lo + ((i + 1:Nat):Int) * 1) ((n:Int) - ((i + 1:Nat):Int)) 1:=by
   have e1:lo + ((i + 1:Nat):Int) * 1=lo + (i:Nat) * 1 + 1:=by omega
   have e2:(n:Int) - ((i + 1:Nat):Int)=(n:Int) - (i:Nat) - 1:=by omega
   rw[e1,e2]
   exact st'
  refine ⟨_,rfl,Zin (s:={ s with heap:=h',toks:=s.toks + 1 }) (n:="range_iterator") st2 rfl rfl (by decide) ⟨.int (lo + i),H,I1,⟨s.toks,?_⟩,⟨rfl,rfl⟩,st2,fun b hb=>(hf b hb).1⟩⟩
  rw[Int.mul_one]
 done:=by
  intro X hP hw hK hB i pins s σ H E I hf st hg
  subst hP hw hK
  obtain ⟨f0,f1,f2,f3,f4,f5⟩:=hf it (by simp)
  exact DQ.Zgz I.qh st (by have:n<=i:=hg;omega) fun h' eb=>⟨rfl,I.turned (t':=s.toks) (fun b o hb e=>eb b o hb e) f0 f1 f3 f4 f5⟩
 self:=fun _ _ _ _ _ st h=>wpAny_pyIter_rangeiter st h
end L2
namespace L2
open PySem PySem.Spec PyProof.Rows
section
variable {X:Cx} {tg:Expr}
theorem Zio {pins:List (Addr × Obj)} {σ:St} {H:Hp} {s:Shared} {R:It->Hp->Prop} {E:Value->Shared->Prop} {lo hi:Int} {t u v:Tok} {tk:Nat} (I:Inv X pins σ H s) (h1: -(2 ^ 62)<=lo) (h2:lo < 2 ^ 62) (h3: -(2 ^ 62)<=hi) (h4:hi < 2 ^ 62)
  (q:R (Itr lo (hi - lo).toNat) H):wpAny (model X.prog X.w) X.A (pyIter (.ref s.heap.objs.size)) (PIE X pins σ tg R) E { s with heap:=s.heap.push { cls:= .type "range",data:= .fields #[.int lo t,.int hi u,.int 1 v] },toks:=tk }:=by
 refine wpAny_pyIter_range (IsRange.new ..) (small_one h1 h2 h3 h4) ?_
 have I1:Inv X pins σ H { s with heap:=s.heap.push { cls:= .type "range",data:= .fields #[.int lo t,.int hi u,.int 1 v] },toks:=tk }:=I.kept fun b o e=>Heap.get?_push_of_some _ e
 refine ⟨(s.heap.push { cls:= .type "range",data:= .fields #[.int lo t,.int hi u,.int 1 v] }).objs.size,[(s.heap.push { cls:= .type "range",data:= .fields #[.int lo t,.int hi u,.int 1 v] }).objs.size],_,_,H,rfl,
  I1.kept (t':=tk) fun b o e=>Heap.get?_push_of_some _ e,Zf2 _ lo (hi - lo).toNat,?_,fun b hb=> ?_,q⟩
 ·have e1:lo + ((0:Nat):Int) * 1=lo:=by simp
  have e2:(((hi - lo).toNat:Nat):Int) - ((0:Nat):Int)=Builtin.Range.rangeSize lo hi 1:=by rw[rangeSize_one];split<;>omega
  show IsRangeIter _ _ (lo + ((0:Nat):Int) * 1) ((((hi - lo).toNat:Nat):Int) - ((0:Nat):Int)) 1
  rw[e1,e2]
  exact Heap.get?_push_size _ rfl
 ·have e:b=(s.heap.push { cls:= .type "range",data:= .fields #[.int lo t,.int hi u,.int 1 v] }).objs.size:=by simpa using hb
  subst e
  exact I1.fpOk (Nat.le_refl _) (I1.hok.fresh (Nat.le_refl _))
noncomputable def ZoY (ta:TA):TI:=fun σ H R=>ta σ H fun vs H1=> ∃ j:Int,vs=[.int j]/\ -(2 ^ 62)<=j/\j < 2 ^ 62/\R (Itr 0 j.toNat) H1
theorem Zea {a:Expr} {ta:TA} {p pos:Pos} (hg:Gl X "range") (hm:X.mg "range"=none) (ha:PA X [a] ta) (hs:starEach [a] X.env=[(false,eval a X.env)]:=by rfl):PI X tg (.Call (.Name "range" p) [a] [] pos) (ZoY ta):=by
 intro pins s σ H R I h
 refine Call_ (Zcu I hg hm boot_range (PyProof.Rows.callWith_type1 (thn (ha pos pins s σ H _ I h) fun us s1 ⟨vs,H1,I1,r1,q1⟩=> ?_) hs rfl))
 obtain ⟨j,e,q1,q2,q⟩:=q1
 subst e
 cases r1 with
 |cons r rr=>
  cases rr
  obtain ⟨t,rfl⟩:=r
  exact call_range_1 (Zio I1 (by omega) (by omega) q1 q2 (by simpa using q))
noncomputable def Zsh (wi:TI) (g:TG) (tb:TS):TS:=fun D σ H=>wi σ H fun J H1=> ∃ W:Nat->Nat->St->Hp->Prop,(∃ m,W 0 m σ H1)/\ ∀ i m σ H,W i m σ H->
 (J.stop i H/\D.nx σ H)\/(J.go i H/\ ∃ N:St->Hp->Prop,(∀ σ' H',N σ' H'-> ∃ m',m' < m/\W (i + 1) m' σ' H')/\ ∀ x H',J.yld i H x H'->g x σ H' fun σ2 H2=>tb { D with nx:=N,ct:=N,bk:=D.nx } σ2 H2)
noncomputable def Zbz (fp:List Addr) (h:Heap):List (Addr × Obj):=fp.filterMap fun b=>(h.get? b).map fun o=>(b,o)
theorem Z8 {fp:List Addr} {h:Heap} {b:Addr} {o:Obj} (hb:b∈fp) (e:h.get? b=some o):(b,o)∈Zbz fp h:=List.mem_filterMap.mpr ⟨b,hb,by rw[e];rfl⟩
theorem ZgH {fp:List Addr} {h:Heap} {p:Addr × Obj} (hp:p∈Zbz fp h):p.1∈fp/\h.get? p.1=some p.2:=by
 obtain ⟨b,hb,e⟩:=List.mem_filterMap.mp hp
 cases q:h.get? b with
 |none=>rw[q] at e;cases e
 |some o=>
  rw[q] at e
  have e':(b,o)=p:=Option.some.inj e
  subst e'
  exact ⟨hb,q⟩
theorem Inv.pinned {pins:List (Addr × Obj)} {σ:St} {H:Hp} {s:Shared} {fp:List Addr} (I:Inv X pins σ H s) (hf: ∀ b∈fp,Zd9 X pins H b) (ho: ∀ b∈fp,∃ o,s.heap.get? b=some o/\ ∀ v,o.data≠ .cell v):Inv X (pins ++ Zbz fp s.heap) σ H s:=
 I.pins_of fun p hp=>(List.mem_append.mp hp).elim (fun z=>I.pin p (List.mem_append_right _ z)) fun z=>by
  obtain ⟨hb,e⟩:=ZgH z
  obtain ⟨f0,f1,f2,_⟩:=hf p.1 hb
  obtain ⟨o,e',d⟩:=ho p.1 hb
  rw[e] at e';cases e'
  exact ⟨e,f0,f1,f2,d⟩
theorem Inv.unpinned {pins pl:List (Addr × Obj)} {σ:St} {H:Hp} {s:Shared} (I:Inv X (pins ++ pl) σ H s):Inv X pins σ H s:=I.pins_of fun p hp=>I.pin p (List.mem_append_right _ (List.mem_append_left _ hp))
theorem ZgI {iter:Expr} {body:List Stmt} {wi:TI} {g:TG} {tb:TS} {pos:Pos} (hp:PassesOwn (model X.prog X.w) X.A X.env X.xe) (hi:PI X tg iter wi) (hg:PG X tg g) (hb:PSs X body tb)
  (hs: ∀ x,foldedSetIterable iter X.env x=pure x:=by intro _;rfl):PS X (.For tg iter body [] pos) (Zsh wi g tb):=by
 intro pins s σ H D I h
 refine wpAny_For (thn (hi pins s σ H _ I h) fun v s1 h1=>thn h1 fun itv s2 h2=> ?_) hs
 obtain ⟨it,fp,tn,J,H2,e,I2,T,st2,f2,W,⟨m0,w0⟩,turn⟩:=h2
 subst e
 have stat: ∀ {H':Hp},(∀ b∈fp,H' b=none)-> ∀ b∈fp,Zd9 X pins H' b:=fun hn b hb=>⟨hn b hb,(f2 b hb).2⟩
 refine codeAny_forLoop_any (fun n s'=> ∃ i σ' H',Inv X pins σ' H' s'/\tn i s'.heap/\(∀ b∈fp,H' b=none)/\W i n σ' H') ?_ m0 ⟨0,σ,H2,I2,st2,fun b hb=>(f2 b hb).1,w0⟩
 rintro n s3 ⟨i,σ3,H3,I3,st3,fr3,w3⟩
 rcases turn i n σ3 H3 w3 with ⟨stop,qn⟩ | ⟨go,N,hN,step⟩
 ·refine wpAny_passesOwn hp (thn (T.done X rfl rfl rfl rfl i pins s3 σ3 H3 X.xe I3 (stat fr3) st3 stop) fun r s4 ⟨hr,I4⟩=> ?_)
  subst hr
  exact wpAny_execs_nil ⟨σ3,H3,I4,qn⟩
 ·refine wpAny_passesOwn hp (thn (T.item X rfl rfl rfl rfl i pins s3 σ3 H3 X.xe I3 (stat fr3) st3 go) fun r s4 ⟨u,hr,h4⟩=> ?_)
  subst hr
  refine wpAny_passesOwn hp (thn h4 fun _ s5 ⟨x,H5,I5,r5,y5,st5,fr5⟩=> ?_)
  have I5':=I5.pinned (stat fr5) (T.obj _ _ st5)
  refine wpAny_passesOwn hp (thn (hg _ s5 σ3 H5 x u _ I5' r5 (step x H5 y5)) fun _ s6 ⟨σ6,H6,I6,q6⟩=> ?_)
  refine wpAny_passesOwn hp (thn (hb _ s6 σ6 H6 _ I6 q6) fun f s7 q7=> ?_)
  have again: ∀ {σ7:St} {H7:Hp},Inv X (pins ++ Zbz fp s5.heap) σ7 H7 s7->N σ7 H7-> ∃ m,m < n/\ ∃ i σ' H',Inv X pins σ' H' s7/\tn i s7.heap/\(∀ b∈fp,H' b=none)/\W i m σ' H':=fun {σ7 H7} I7 n7=>by
   obtain ⟨m',hm,w7⟩:=hN σ7 H7 n7
   refine ⟨m',hm,i + 1,σ7,H7,I7.unpinned,T.keep _ _ _ st5 fun b hb o e=>(I7.pin (b,o) (List.mem_append_right _ (List.mem_append_right _ (Z8 hb e)))).1,fun b hb=> ?_,w7⟩
   obtain ⟨o,e,d⟩:=T.obj _ _ st5 b hb
   exact (I7.pin (b,o) (List.mem_append_right _ (List.mem_append_right _ (Z8 hb e)))).2.1
  cases f with
  |next=>obtain ⟨σ7,H7,I7,n7⟩:=q7;exact again I7 n7
  |cont=>obtain ⟨σ7,H7,I7,n7⟩:=q7;exact again I7 n7
  |brk=>obtain ⟨σ7,H7,I7,q7⟩:=q7;exact ⟨σ7,H7,I7.unpinned,q7⟩
  |ret v=>obtain ⟨x7,σ7,H7,I7,r7,q7⟩:=q7;exact ⟨x7,σ7,H7,I7.unpinned,r7,q7⟩
end
theorem Zip {K:PySem.W.Frag} {a:Addr} {xs:List V} {g:TG} {tb:TS} {D:Ends} {σ:St} {H:Hp} (Pv:Nat->St->Hp->Prop) (h0:Pv 0 σ H) (hl: ∀ i σ H,i<=xs.length->Pv i σ H->SqL K H a xs)
  (hs: ∀ i x σ H,xs[i]?=some x->Pv i σ H->g x σ H fun σ2 H2=>tb { D with nx:=Pv (i + 1),ct:=Pv (i + 1),bk:=D.nx } σ2 H2) (hd: ∀ σ H,Pv xs.length σ H->D.nx σ H):
  ∃ W:Nat->Nat->St->Hp->Prop,(∃ m,W 0 m σ H)/\ ∀ i m σ H,W i m σ H->
   ((Itl K a).stop i H/\D.nx σ H)\/((Itl K a).go i H/\ ∃ N:St->Hp->Prop,(∀ σ' H',N σ' H'-> ∃ m',m' < m/\W (i + 1) m' σ' H')/\ ∀ x H',(Itl K a).yld i H x H'->g x σ H' fun σ2 H2=>tb { D with nx:=N,ct:=N,bk:=D.nx } σ2 H2):=by
 refine ⟨fun i m σ H=>m=xs.length - i/\i<=xs.length/\Pv i σ H,⟨xs.length,by simp,Nat.zero_le _,h0⟩,?_⟩
 rintro i m σ H ⟨rfl,hi,p⟩
 have q:=hl i σ H hi p
 by_cases hlt:i < xs.length
 ·refine .inr ⟨⟨xs,xs[i],q,by simp[hlt]⟩,Pv (i + 1),fun σ' H' p'=>⟨xs.length - (i + 1),by omega,rfl,hlt,p'⟩,fun x H' y=> ?_⟩
  obtain ⟨e,y⟩:=y
  subst e
  exact hs i x σ _ (y xs q) p
 ·have e:i=xs.length:=by omega
  subst e
  exact .inl ⟨⟨xs,q,Nat.le_refl _⟩,hd σ H p⟩
theorem Zj4 {K:PySem.W.Frag} {a:Addr} {xs:List V} {g:TG} {tb:TS} {D:Ends} {σ:St} {H:Hp} (Pv:Nat->St->Hp->Prop) (h0:Pv 0 σ H) (hl: ∀ i σ H,i<=xs.length->Pv i σ H->SqT K H a xs)
  (hs: ∀ i x σ H,xs[i]?=some x->Pv i σ H->g x σ H fun σ2 H2=>tb { D with nx:=Pv (i + 1),ct:=Pv (i + 1),bk:=D.nx } σ2 H2) (hd: ∀ σ H,Pv xs.length σ H->D.nx σ H):
  ∃ W:Nat->Nat->St->Hp->Prop,(∃ m,W 0 m σ H)/\ ∀ i m σ H,W i m σ H->
   ((Itt K a).stop i H/\D.nx σ H)\/((Itt K a).go i H/\ ∃ N:St->Hp->Prop,(∀ σ' H',N σ' H'-> ∃ m',m' < m/\W (i + 1) m' σ' H')/\ ∀ x H',(Itt K a).yld i H x H'->g x σ H' fun σ2 H2=>tb { D with nx:=N,ct:=N,bk:=D.nx } σ2 H2):=by
 refine ⟨fun i m σ H=>m=xs.length - i/\i<=xs.length/\Pv i σ H,⟨xs.length,by simp,Nat.zero_le _,h0⟩,?_⟩
 rintro i m σ H ⟨rfl,hi,p⟩
 have q:=hl i σ H hi p
 by_cases hlt:i < xs.length
 ·refine .inr ⟨⟨xs,xs[i],q,by simp[hlt]⟩,Pv (i + 1),fun σ' H' p'=>⟨xs.length - (i + 1),by omega,rfl,hlt,p'⟩,fun x H' y=> ?_⟩
  obtain ⟨e,y⟩:=y
  subst e
  exact hs i x σ _ (y xs q) p
 ·have e:i=xs.length:=by omega
  subst e
  exact .inl ⟨⟨xs,q,Nat.le_refl _⟩,hd σ H p⟩
theorem ZgJ {lo:Int} {n:Nat} {g:TG} {tb:TS} {D:Ends} {σ:St} {H:Hp} (Pv:Nat->St->Hp->Prop) (h0:Pv 0 σ H)
  (hs: ∀ i σ H,i < n->Pv i σ H->g (.int (lo + i)) σ H fun σ2 H2=>tb { D with nx:=Pv (i + 1),ct:=Pv (i + 1),bk:=D.nx } σ2 H2) (hd: ∀ σ H,Pv n σ H->D.nx σ H):
  ∃ W:Nat->Nat->St->Hp->Prop,(∃ m,W 0 m σ H)/\ ∀ i m σ H,W i m σ H->
   ((Itr lo n).stop i H/\D.nx σ H)\/((Itr lo n).go i H/\ ∃ N:St->Hp->Prop,(∀ σ' H',N σ' H'-> ∃ m',m' < m/\W (i + 1) m' σ' H')/\ ∀ x H',(Itr lo n).yld i H x H'->g x σ H' fun σ2 H2=>tb { D with nx:=N,ct:=N,bk:=D.nx } σ2 H2):=by
 refine ⟨fun i m σ H=>m=n - i/\i<=n/\Pv i σ H,⟨n,by simp,Nat.zero_le _,h0⟩,?_⟩
 rintro i m σ H ⟨rfl,hi,p⟩
 by_cases hlt:i < n
 ·refine .inr ⟨hlt,Pv (i + 1),fun σ' H' p'=>⟨n - (i + 1),by omega,rfl,hlt,p'⟩,fun x H' y=> ?_⟩
  obtain ⟨e,y⟩:=y
  subst e y
  exact hs i σ _ hlt p
 ·have e:i=n:=by omega
  subst e
  exact .inl ⟨Nat.le_refl _,hd σ H p⟩
end L2
namespace L2
open PySem PySem.Spec PyProof.Rows
noncomputable abbrev R2:=V->V->Hp->VK->Prop
noncomputable def OpR (X:Cx) (f:Value->Value->Sem Value) (r:R2):Prop:=
 ∀ (pins:List (Addr × Obj)) (s:Shared) (σ:St) (H:Hp) (x y:V) (v u:Value) (Q:VK),Inv X pins σ H s->ZS x v->ZS y u->r x y H Q->
  wpAny (model X.prog X.w) X.A (f v u) (EP X pins σ Q) X.xe s
noncomputable def UnR (X:Cx) (f:Value->Sem Value) (r:V->Hp->VK->Prop):Prop:=
 ∀ (pins:List (Addr × Obj)) (s:Shared) (σ:St) (H:Hp) (x:V) (v:Value) (Q:VK),Inv X pins σ H s->ZS x v->r x H Q->
  wpAny (model X.prog X.w) X.A (f v) (EP X pins σ Q) X.xe s
noncomputable def Zb7 (X:Cx) (f:Value) (r:List V->Hp->VK->Prop):Prop:=
 ∀ (pins:List (Addr × Obj)) (s:Shared) (σ:St) (H:Hp) (xs:List V) (us:List Value) (Q:VK),Inv X pins σ H s->ZW xs us->r xs H Q->
  wpAny (model X.prog X.w) X.A (call f us) (EP X pins σ Q) X.xe s
noncomputable def tOp (r:R2) (ta tb:TE):TE:=fun σ H Q=>ta σ H fun x H1=>tb σ H1 fun y H2=>r x y H2 Q
noncomputable def tUn (r:V->Hp->VK->Prop) (ta:TE):TE:=fun σ H Q=>ta σ H fun x H1=>r x H1 Q
noncomputable def rI (C:Int->Int->Prop) (g:Int->Int->V):R2:=fun x y H Q=> ∃ i j,x= .int i/\y= .int j/\C i j/\Q (g i j) H
noncomputable def rI0 (g:Int->Int->V):R2:=fun x y H Q=> ∃ i j,x= .int i/\y= .int j/\Q (g i j) H
noncomputable def rU (g:Int->V):V->Hp->VK->Prop:=fun x H Q=> ∃ i,x= .int i/\Q (g i) H
section
variable {X:Cx} {a b c:Expr} {ta tb tc:TE} {pos:Pos}
theorem ZoZ (ha:PE X a ta) (hb:PE X b tb) {pins:List (Addr × Obj)} {s:Shared} {σ:St} {H:Hp} {R:V->V->Hp->Prop} (I:Inv X pins σ H s)
  (h:ta σ H fun x H1=>tb σ H1 fun y H2=>R x y H2) {Q:Value->Shared->Prop} {f:Value->Value->Sem Value}
  (hf: ∀ v u s2 x y H2,Inv X pins σ H2 s2->ZS x v->ZS y u->R x y H2->wpAny (model X.prog X.w) X.A (f v u) Q X.xe s2):
  wpAny (model X.prog X.w) X.A (eval a X.env) (fun v s₁=>wpAny (model X.prog X.w) X.A (eval b X.env) (fun u s₂=>wpAny (model X.prog X.w) X.A (f v u) Q X.xe s₂) X.xe s₁) X.xe s:=by
 refine thn (ha pins s σ H _ I h) fun v s1 ⟨x,H1,I1,r1,q1⟩=> ?_
 refine thn (hb pins s1 σ H1 _ I1 q1) fun u s2 ⟨y,H2,I2,r2,q2⟩=> ?_
 exact hf v u s2 x y H2 I2 r1 r2 q2
theorem Zo0 {op:Operator} {r:R2} (ho:OpR X (binaryOp op) r) (ha:PE X a ta) (hb:PE X b tb):PE X (.BinOp a op b pos) (tOp r ta tb):=by
 intro pins s σ H Q I h
 exact wpAny_BinOp (ZoZ ha hb I h fun v u s2 x y H2 I2 rx ry q=>ho pins s2 σ H2 x y v u Q I2 rx ry q)
theorem Zj5 {op:UnaryOp} {r:V->Hp->VK->Prop} (ho:UnR X (unaryOp op) r) (ha:PE X a ta):PE X (.UnaryOp op a pos) (tUn r ta):=by
 intro pins s σ H Q I h
 exact UnaryOp_ (thn (ha pins s σ H _ I h) fun v s1 ⟨x,H1,I1,r1,q1⟩=>ho pins s1 σ H1 x v Q I1 r1 q1)
theorem opI {f:Value->Value->Sem Value} {C:Int->Int->Prop} {g:Int->Int->Int}
  (rule: ∀ (i j:Int) (t u:Tok) (s:Shared) (Q:Value->Shared->Prop) (E:Value->Shared->Prop),C i j->Q (.int (g i j) s.toks) { s with toks:=s.toks + 1 }->wpAny (model X.prog X.w) X.A (f (.int i t) (.int j u)) Q E s):
  OpR X f (rI C fun i j=> .int (g i j)):=by
 intro pins s σ H x y v u Q I rx ry h
 obtain ⟨i,j,rfl,rfl,hc,q⟩:=h
 obtain ⟨t,rfl⟩:=rx
 obtain ⟨t',rfl⟩:=ry
 exact rule i j t t' s _ _ hc ⟨.int (g i j),H,I.tok _,⟨_,rfl⟩,q⟩
theorem Zq6 {f:Value->Value->Sem Value} {g:Int->Int->Int}
  (rule: ∀ (i j:Int) (t u:Tok) (s:Shared) (Q:Value->Shared->Prop) (E:Value->Shared->Prop),Q (.int (g i j) s.toks) { s with toks:=s.toks + 1 }->wpAny (model X.prog X.w) X.A (f (.int i t) (.int j u)) Q E s):
  OpR X f (rI0 fun i j=> .int (g i j)):=by
 intro pins s σ H x y v u Q I rx ry h
 obtain ⟨i,j,rfl,rfl,q⟩:=h
 obtain ⟨t,rfl⟩:=rx
 obtain ⟨t',rfl⟩:=ry
 exact rule i j t t' s _ _ ⟨.int (g i j),H,I.tok _,⟨_,rfl⟩,q⟩
theorem ZoG {f:Value->Value->Sem Value} {g:Int->Int->Bool}
  (rule: ∀ (i j:Int) (t u:Tok) (s:Shared) (Q:Value->Shared->Prop) (E:Value->Shared->Prop),Q (.bool (g i j)) s->wpAny (model X.prog X.w) X.A (f (.int i t) (.int j u)) Q E s):
  OpR X f (rI0 fun i j=> .bl (g i j)):=by
 intro pins s σ H x y v u Q I rx ry h
 obtain ⟨i,j,rfl,rfl,q⟩:=h
 obtain ⟨t,rfl⟩:=rx
 obtain ⟨t',rfl⟩:=ry
 exact rule i j t t' s _ _ ⟨.bl (g i j),H,I,rfl,q⟩
noncomputable def Zq7 (i j:Int):Prop:=0<=j/\j<=1000000/\i.natAbs < 2 ^ 64
theorem ZlW:OpR X (binaryOp .Add) (rI0 fun i j=> .int (i + j)):=Zq6 fun _ _ _ _ _ _ _ q=>add_int q
theorem ZlX:OpR X (binaryOp .Sub) (rI0 fun i j=> .int (i - j)):=Zq6 fun _ _ _ _ _ _ _ q=>sub_int q
theorem Zj6:OpR X (binaryOp .Mod) (rI (fun _ j=>j≠0) fun i j=> .int (i.fmod j)):=opI fun _ _ _ _ _ _ _ hc q=>mod_int' hc q
theorem ZlY:OpR X (binaryOp .Pow) (rI Zq7 fun i j=> .int (i ^ j.toNat)):=opI fun _ _ _ _ _ _ _ hc q=>pow_int_small hc.1 hc.2.1 hc.2.2 q
theorem unI {f:Value->Sem Value} {g:Int->Int}
  (rule: ∀ (i:Int) (t:Tok) (s:Shared) (Q:Value->Shared->Prop) (E:Value->Shared->Prop),Q (.int (g i) s.toks) { s with toks:=s.toks + 1 }->wpAny (model X.prog X.w) X.A (f (.int i t)) Q E s):
  UnR X f (rU fun i=> .int (g i)):=by
 intro pins s σ H x v Q I rx h
 obtain ⟨i,rfl,q⟩:=h
 obtain ⟨t,rfl⟩:=rx
 exact rule i t s _ _ ⟨.int (g i),H,I.tok _,⟨_,rfl⟩,q⟩
theorem ZgK:UnR X (unaryOp .USub) (rU fun i=> .int (-i)):=unI fun _ _ _ _ _ q=>neg_int q
end
section
variable {X:Cx} {a b c:Expr} {ta tb tc:TE} {pos:Pos}
theorem ZlZ:OpR X (compareOp .Lt) (rI0 fun i j=> .bl (decide (i < j))):=ZoG fun _ _ _ _ _ _ _ q=>lt_int q
theorem Zl0:OpR X (compareOp .LtE) (rI0 fun i j=> .bl (decide (i<=j))):=ZoG fun _ _ _ _ _ _ _ q=>le_int q
theorem Zeb:OpR X (compareOp .Gt) (rI0 fun i j=> .bl (decide (j < i))):=ZoG fun _ _ _ _ _ _ _ q=>gt_int q
theorem Zo1:OpR X (compareOp .GtE) (rI0 fun i j=> .bl (decide (j<=i))):=ZoG fun _ _ _ _ _ _ _ q=>ge_int q
theorem OpR.or {f:Value->Value->Sem Value} {r r':R2} (h:OpR X f r) (h':OpR X f r'):OpR X f (fun x y H Q=>r x y H Q\/r' x y H Q):=by
 intro pins s σ H x y v u Q I rx ry q
 rcases q with q | q
 ·exact h pins s σ H x y v u Q I rx ry q
 ·exact h' pins s σ H x y v u Q I rx ry q
theorem Zjj (b:Expr) {op:CmpOp} (h:op≠ .In:=by decide) (h2:op≠ .NotIn:=by decide):behindInMarks op b=false:=by
 have e1:(op == CmpOp.In)=false:=by cases op<;>first | rfl | exact absurd rfl h
 have e2:(op == CmpOp.NotIn)=false:=by cases op<;>first | rfl | exact absurd rfl h2
 cases b<;>simp[behindInMarks,e1,e2]
theorem Zj7 {op:CmpOp} {r:R2} (ho:OpR X (compareOp op) r) (ha:PE X a ta) (hb:PE X b tb) (hm:behindInMarks op b=false):PE X (.Compare a [op] [b] pos) (tOp r ta tb):=by
 intro pins s σ H Q I h
 exact wpAny_Compare1 (ZoZ ha hb I h fun v u s2 x y H2 I2 rx ry q=>ho pins s2 σ H2 x y v u Q I2 rx ry q) hm
noncomputable def Zl1 (t:TE):TT:=fun σ H Q=>t σ H fun x H'=> ∃ k,x= .bl k/\Q k H'
theorem Zj8 {op:CmpOp} {r:R2} (ho:OpR X (compareOp op) r) (ha:PE X a ta) (hb:PE X b tb) (hm:behindInMarks op b=false):PT X (.Compare a [op] [b] pos) (Zl1 (tOp r ta tb)):=by
 intro pins s σ H Q I h
 refine wpAny_isTrue_Compare1 (thn (ha pins s σ H _ I h) fun v s1 ⟨x,H1,I1,r1,q1⟩=>thn (hb pins s1 σ H1 _ I1 q1) fun u s2 ⟨y,H2,I2,r2,q2⟩=>
  thn (ho pins s2 σ H2 x y v u _ I2 r1 r2 q2) fun c s3 ⟨z,H3,I3,r3,k,e,q3⟩=> ?_) hm
 subst e
 cases r3
 exact wpAny_truthy_bool ⟨H3,I3,q3⟩
theorem ZfA:(sizeLine:Nat) < 2 ^ 63:=by rw[sizeLine_eq];decide
theorem Zf3:OpR X (binaryOp .Add) (fun x y H Q=> ∃ i j,x= .str i/\y= .str j/\i.length + j.length<=sizeLine/\Q (.str (i ++ j)) H):=by
 intro pins s σ H x y v u Q I rx ry h
 obtain ⟨i,j,rfl,rfl,hz,q⟩:=h
 obtain ⟨t,rfl⟩:=rx
 obtain ⟨t',rfl⟩:=ry
 exact add_str (fun t' tk=>⟨.str (i ++ j),H,I.tok _,⟨_,rfl⟩,q⟩) hz
theorem Zdc {x:V} {us:List Value} (r:ZW [x] us): ∃ u,us=[u]/\ZS x u:=by
 cases r with
 |cons r1 r2=>cases r2;exact ⟨_,rfl,r1⟩
theorem ZgL {x y:V} {us:List Value} (r:ZW [x,y] us): ∃ u w',us=[u,w']/\ZS x u/\ZS y w':=by
 cases r with
 |cons r1 r2=>
  cases r2 with
  |cons r3 r4=>cases r4;exact ⟨_,_,rfl,r1,r3⟩
theorem ZbM:Zb7 X (.builtin "abs") (fun xs H Q=> ∃ i,xs=[.int i]/\Q (.int (if i < 0 then -i else i)) H):=by
 intro pins s σ H xs us Q I r h
 obtain ⟨i,rfl,q⟩:=h
 obtain ⟨u,rfl,t,rfl⟩:=Zdc r
 exact call_abs_int fun u tk=>⟨.int (if i < 0 then -i else i),H,I.tok _,⟨_,rfl⟩,q⟩
theorem ZcK (hc:X.calm=true):Zb7 X (.builtin "max") (fun xs H Q=> ∃ i j,xs=[.int i,.int j]/\Q (.int (if j > i then j else i)) H):=by
 intro pins s σ H xs us Q I r h
 obtain ⟨i,j,rfl,q⟩:=h
 obtain ⟨u,w',rfl,⟨t,rfl⟩,⟨t',rfl⟩⟩:=ZgL r
 refine max_two_ints (I.ok.hd hc) fun h' tk k=>⟨_,H,I.kept k,?_,q⟩
 by_cases hj:j > i
 ·rw[if_pos hj,if_pos hj];exact ⟨_,rfl⟩
 ·rw[if_neg hj,if_neg hj];exact ⟨_,rfl⟩
theorem ZgM (hc:X.calm=true):Zb7 X (.builtin "min") (fun xs H Q=> ∃ i j,xs=[.int i,.int j]/\Q (.int (if j < i then j else i)) H):=by
 intro pins s σ H xs us Q I r h
 obtain ⟨i,j,rfl,q⟩:=h
 obtain ⟨u,w',rfl,⟨t,rfl⟩,⟨t',rfl⟩⟩:=ZgL r
 refine min_two_ints (I.ok.hd hc) fun h' tk k=>⟨_,H,I.kept k,?_,q⟩
 by_cases hj:j < i
 ·rw[if_pos hj,if_pos hj];exact ⟨_,rfl⟩
 ·rw[if_neg hj,if_neg hj];exact ⟨_,rfl⟩
theorem ZaQ:Zb7 X (.type "int") (fun xs H Q=>(∃ i,xs=[.int i]/\Q (.int i) H)\/ ∃ k,xs=[.bl k]/\Q (.int (if k then 1 else 0)) H):=by
 intro pins s σ H xs us Q I r h
 rcases h with ⟨i,rfl,q⟩ | ⟨k,rfl,q⟩
 ·obtain ⟨u,rfl,t,rfl⟩:=Zdc r
  exact call_int_int ⟨.int i,H,I,⟨_,rfl⟩,q⟩
 ·obtain ⟨u,rfl,r1⟩:=Zdc r
  cases r1
  exact call_int_bool ⟨.int (if k then 1 else 0),H,I.tok _,⟨_,rfl⟩,q⟩
end
end L2
namespace L2
open PySem PySem.Spec PyProof.Rows
section
variable {prog:Program} {w:World} {A:Around} {E:Value->Shared->Prop} {s:Shared} {K:PySem.W.Frag} {x dx C f:Addr} {mA:Str->Option Value} {name:Str} {v:Value}
end
section
variable {P:Program} {w:World} {H H':Hp} {h h':Heap} {a C dx:Addr} {fs fs':List (Str × V)}
end
section
variable {X:Cx} {pins:List (Addr × Obj)} {σ:St} {H:Hp} {s:Shared} {a C dx:Addr} {fs:List (Str × V)} {f:Str} {v:V} {A:Around} {E:Value->Shared->Prop}
end
section
variable {X:Cx} {o e value:Expr} {f:Str} {pos pos' tpos:Pos} {ta tv:TE}
end
section
variable {X:Cx} {pins:List (Addr × Obj)} {σ:St} {H:Hp} {s:Shared} {A:Around} {E:Value->Shared->Prop} {Q:Value->Shared->Prop} {c:Value} {b:Bool}
end
end L2
namespace L2
open PySem PySem.Spec PyProof.Rows
structure Room (k:Nat) (A:Around):Prop where
 hd:100<=k->A.handled=none
 dp:A.depth + 3 * k + 5 < recursionLimit
 un:A.units + 16 * k + 200 < cLine
theorem Room.mono {j k:Nat} {A:Around} (r:Room k A) (h:j<=k):Room j A:=⟨fun z=>r.hd (Nat.le_trans z h),by have:=r.dp;omega,by have:=r.un;omega⟩
theorem Room.deeper {k:Nat} {A:Around} (r:Room (k + 1) A) (env:Env):Room k (A.deeper env):=
 ⟨fun z=>r.hd (Nat.le_succ_of_le z),by have:=r.dp;show A.depth + 1 + 3 * k + 5 < _;omega,by have:=r.un;show A.units + 3 + 16 * k + 200 < _;omega⟩
theorem Room.depth {k:Nat} {A:Around} (r:Room k A):A.depth < recursionLimit:=by have:=r.dp;omega
theorem Room.units {k:Nat} {A:Around} (r:Room k A):A.units + 64 < cLine:=by have:=r.un;omega
noncomputable def tNil:TA:=fun _ H Q=>Q [] H
noncomputable def Zo2 (ta:TE) (tr:TA):TA:=fun σ H Q=>ta σ H fun x H1=>tr σ H1 fun xs H2=>Q (x :: xs) H2
section
variable {X:Cx} {e:Expr} {es:List Expr} {te:TE} {t:TA} {pos:Pos}
theorem Zjk:PA X [] tNil:=fun _ _ _ _ H Q I h=>Calls.spliced_nil ⟨[],H,I,.nil,h⟩
theorem ZeW (ha:PE X e te) (hr:PA X es t) (hs:starEach (e :: es) X.env=(false,eval e X.env) :: starEach es X.env:=by rfl):PA X (e :: es) (Zo2 te t):=by
 intro pos pins s σ H Q I h
 rw[hs]
 show wpAny _ _ (spliced ((false,eval e X.env) :: backTo pos (starEach es X.env))) _ _ s
 refine Calls.spliced_cons (thn (ha pins s σ H _ I h) fun u s1 ⟨x,H1,I1,r1,q1⟩=> ?_)
 exact thn (hr pos pins s1 σ H1 _ I1 q1) fun us s2 ⟨xs,H2,I2,r2,q2⟩=>⟨x :: xs,H2,I2,.cons r1 r2,q2⟩
noncomputable def Zsi (t:TA):TE:=fun σ H Q=>t σ H fun xs H1=>xs.length<=sizeLine/\ ∀ p,H1 p=none->Q (.ref p) (upd H1 p (.tup xs))
noncomputable def Zsj (t:TA):TE:=fun σ H Q=>t σ H fun xs H1=>xs.length<=sizeLine/\ ∀ p,H1 p=none->Q (.ref p) (upd H1 p (.lst xs))
theorem Zl2 {x1} (h:PA X es t):PE X (.Tuple es x1 pos) (Zsi t):=by
 intro pins s σ H Q I hq
 refine wpAny_Tuple_spliced (thn (h pos pins s σ H _ I hq) fun us s1 ⟨xs,H1,I1,r,z,q⟩=>⟨by rw[<- r.length];exact z,?_⟩)
 have hf:H1 s1.heap.objs.size=none:=I1.hok.fresh (Nat.le_refl _)
 refine ⟨.ref s1.heap.objs.size,upd H1 s1.heap.objs.size (.tup xs),I1.laid (t':=s1.toks) (fun b u e=>Heap.get?_push_of_some _ e) (Nat.le_refl _) ?_,rfl,q _ hf⟩
 exact ⟨z,us,r,⟨_,Heap.get?_push_size _ rfl,rfl,_,rfl⟩⟩
theorem Zl3 (h:PA X es t):PE X (.List es pos) (Zsj t):=by
 intro pins s σ H Q I hq
 refine wpAny_List_spliced (thn (h pos pins s σ H _ I hq) fun us s1 ⟨xs,H1,I1,r,z,q⟩=>⟨by rw[<- r.length];exact z,?_⟩)
 have hf:H1 s1.heap.objs.size=none:=I1.hok.fresh (Nat.le_refl _)
 refine ⟨.ref s1.heap.objs.size,upd H1 s1.heap.objs.size (.lst xs),I1.laid (t':=s1.toks) (fun b u e=>Heap.get?_push_of_some _ e) (Nat.le_refl _) ?_,rfl,q _ hf⟩
 exact ⟨z,us,0,r,Heap.get?_push_size _ rfl⟩
end
noncomputable abbrev Sp:=List V->Hp->VK->XK->Prop
noncomputable abbrev CXT:=List Env->Hp->Shared->XK->Value->Shared->Prop
structure Env0 (P:Program) (w:World) (K:PySem.W.Frag) (mg:Str->Option Value) (base:Heap) (A:Around) (outer:List Env) (s:Shared) (H:Hp):Prop where
 frames:A.frames=some outer
 mod:Mod K mg base
 bs: ∀ b o,base.get? b=some o->s.heap.get? b=some o/\H b=none
 bsz:base.objs.size<=s.heap.objs.size
 funs:s.heap.FunFrames base outer
 frf: ∀ b∈frs outer,H b=none
 hok:HOk P w H s.heap
 bare:AllBare s.gens
 qd:Qd A H
noncomputable def CE (outer:List Env) (P:Program) (w:World) (H:Hp) (s:Shared) (Q:VK) (u:Value) (s':Shared):Prop:=
 ∃ v H',s'.os=s.os/\AllBare s'.gens/\Un (frs outer) [] H H' s.heap s'.heap/\HOk P w H' s'.heap/\ZS v u/\Q v H'
noncomputable def CR (CX:CXT) (outer:List Env) (P:Program) (w:World) (H:Hp) (s:Shared) (Q:VK) (E:XK) (r:Result) (s':Shared):Prop:=
 match r with
 | .ok (.ret u)=>CE outer P w H s Q u s'
 | .ok _=>False
 | .error e=>CX outer H s E e s'
structure FnOk (P:Program) (w:World) (K:PySem.W.Frag) (mg:Str->Option Value) (base:Heap) (CX:CXT) (k:Nat) (f:Addr) (fd:FuncData) (ps:List Str) (sp:Sp):Prop where
 len: ∀ vs H Q E,sp vs H Q E->vs.length=ps.length
 run: ∀ (A:Around) (outer:List Env) (s:Shared) (H:Hp) (args:Args) (us:List Value) (vs:List V) (Q:VK) (E:XK),Room k A->Env0 P w K mg base A outer s H->BindsTo s fd args (ps.zip us)->ZW vs us->sp vs H Q E->
  codeAny (model P w) A (.call (.ref f) args) (CR CX outer P w H s Q E) s
section
variable {X:Cx} {pins:List (Addr × Obj)} {σ:St} {H:Hp} {s s':Shared}
theorem Inv.env0 (I:Inv X pins σ H s):Env0 X.prog X.w X.K X.mg X.base X.A X.stack s H:=
 ⟨I.ok.frames,I.ok.mod,I.bs,Nat.le_trans I.ok.bsz I.sz,I.stack,I.stkFree,I.hok,I.bare,I.qd⟩
theorem Inv.after {Q:VK} {u:Value} (I:Inv X pins σ H s) (h:CE X.stack X.prog X.w H s Q u s'):EP X pins σ Q u s':=by
 obtain ⟨v,H',os,bare,un,hok,r,q⟩:=h
 obtain ⟨hh,g,d,t,os'⟩:=s'
 obtain rfl:os'=s.os:=os
 exact ⟨v,H',I.call (h':=hh) (g':=g) (d':=d) (t':=t) (ch:=[]) un hok bare (fun b z=>absurd z (by simp)),r,q⟩
end
noncomputable def Zo3 (sp:Sp) (dvs:List V) (E:XK) (t:TA):TE:=fun σ H Q=>t σ H fun vs H1=>sp (vs ++ dvs) H1 Q E
noncomputable def ZeX (K:PySem.W.Frag) (fd:FuncData) (ps:List Str) (ds:List Value):Prop:=
 ∀ (s:Shared) (us:List Value),K.In s.heap->(us ++ ds).length=ps.length->BindsTo s fd ⟨us,[]⟩ (ps.zip (us ++ ds))
theorem ZeX.all {K:PySem.W.Frag} {fd:FuncData} {ps:List Str} (h: ∀ us:List Value,us.length=ps.length->bindArgs fd ⟨us,[]⟩=pure (ps.zip us)):ZeX K fd ps []:=fun s us _ hl=>by
 rw[List.append_nil] at hl ⊢
 exact .of_eq (h us hl)
noncomputable def ZgN (CX:CXT) (X:Cx) (E:XK):Prop:= ∀ (pins:List (Addr × Obj)) (σ:St) (H:Hp) (s:Shared) (e:Value) (s':Shared),Inv X pins σ H s->CX X.stack H s E e s'->X.xe e s'
section
variable {X:Cx} {CX:CXT} {k:Nat} {f C:Addr} {fd:FuncData} {ps:List Str} {sp:Sp} {dvs:List V} {ds:List Value} {E:XK} {x m:Str} {p pos apos:Pos} {e o:Expr} {es:List Expr} {ta:TE} {t:TA}
theorem Zl4 {pins:List (Addr × Obj)} {σ:St} {H:Hp} {s:Shared} {Q:VK} {us:List Value} {vs:List V} (F:FnOk X.prog X.w X.K X.mg X.base CX k f fd ps sp) (hr:Room k X.A) (hb:ZeX X.K fd ps ds) (hd:ZW dvs ds) (hx:ZgN CX X E)
  (I:Inv X pins σ H s) (r:ZW vs us) (h:sp (vs ++ dvs) H Q E):wpAny (model X.prog X.w) X.A (call (.ref f) us) (EP X pins σ Q) X.xe s:=by
 have r2:ZW (vs ++ dvs) (us ++ ds):=r.append hd
 have hl:(us ++ ds).length=ps.length:=by rw[<- r2.length];exact F.len _ _ _ _ h
 refine wpAny_call (codeAny_mono (F.run X.A X.stack s H ⟨us,[]⟩ (us ++ ds) (vs ++ dvs) Q E hr I.env0 (hb s us I.kIn hl) r2 h) fun r s' hq=> ?_)
 cases r with
 |error e=>exact hx pins σ H s e s' I hq
 |ok fl=>
  cases fl with
  |ret u=>exact I.after hq
  |next=>exact False.elim hq
  |brk=>exact False.elim hq
  |cont=>exact False.elim hq
theorem Zj9 (F:FnOk X.prog X.w X.K X.mg X.base CX k f fd ps sp) (hr:Room k X.A) (hg:Gl X x) (hm:X.mg x=some (.ref f)) (hk:PySem.W.keepIn X.K (.ref f)=true) (hb:ZeX X.K fd ps ds) (hd:ZW dvs ds) (hx:ZgN CX X E)
  (ha:PA X (e :: es) t) (hdb:(x == ("__debug__":Str))=false:=by decide) (he:starEach (e :: es) X.env=(false,eval e X.env) :: starEach es X.env:=by rfl) (hpl:(backTo pos (starEach es X.env)).any (·.1)=false:=by rfl):
  PE X (.Call (.Name x p) (e :: es) [] pos) (Zo3 sp dvs E t):=by
 intro pins s σ H Q I h
 refine wpAny_Call_Name_kw (ZgF I hg hm ?_ hdb)
 refine PySem.W.callWith_K (h₀:=X.base) I.ok.mod.kin hk (thn (ha pos pins s σ H _ I h) fun us s1 ⟨vs,H1,I1,r,q⟩=>⟨I1.kIn,?_⟩) he hpl
 exact Zl4 F hr hb hd hx I1 r q
end
section
variable {X:Cx} {CX:CXT} {k:Nat} {f C:Addr} {fd:FuncData} {ps ks:List Str} {sp:Sp} {E:XK} {x m:Str} {p pos apos kpos:Pos} {e o:Expr} {es:List Expr} {kws:List Keyword} {te ta:TE} {t tk:TA} {nm:Option Str}
variable {g:List Value->List Value->List Value} {gV:List V->List V->List V}
end
structure FnScope (N P:List Str) (sc:Scope):Prop where
 kind:sc.kind= .function
 co:sc.isCoroutine=false
 gen:sc.isGenerator=false
 nd:N.Nodup
 pre:N.take P.length=P
 par: ∀ x∈P,sc.names.lookup x=some .local\/sc.names.lookup x=some .cell
 nofree: ∀ y∈sc.names,y.2≠ .free
theorem Zec {kindOf:Str->Option NameKind} {x:Str}: ∀ {binds:List (Str × Value)} {m:Str->Option Value},(∀ v,(x,v) ∉ binds)->bindL kindOf binds m x=m x
 | [],_,_=>rfl
 | (n,v) :: r,m,h=>by
  unfold bindL
  rw[Zec fun w hw=>h w (List.mem_cons_of_mem _ hw)]
  split
  ·have:x≠n:=by rintro rfl;exact h v List.mem_cons_self
   simp[this]
  ·rfl
theorem Zed {kindOf:Str->Option NameKind} {x:Str}: ∀ {binds:List (Str × Value)} {m:Str->Option Value},(∀ v,(x,v) ∉ binds)->bindC kindOf binds m x=m x
 | [],_,_=>rfl
 | (n,v) :: r,m,h=>by
  unfold bindC
  rw[Zed fun w hw=>h w (List.mem_cons_of_mem _ hw)]
  split
  ·rfl
  ·have:x≠n:=by rintro rfl;exact h v List.mem_cons_self
   simp[this]
theorem Zee {kindOf:Str->Option NameKind} {x:Str} {v:Value}: ∀ {P:List Str} {vs:List Value} {i:Nat} {m:Str->Option Value},P.Nodup->P[i]?=some x->vs[i]?=some v->kindOf x=some .local->
  bindL kindOf (P.zip vs) m x=some v
 | [],_,_,_,_,h,_,_=>by simp at h
 |_ :: _,[],_,_,_,_,h,_=>by simp at h
 |p :: P,w :: vs,0,m,nd,h1,h2,hk=>by
  simp at h1 h2;subst h1;subst h2
  show bindL kindOf ((p,w) :: P.zip vs) m p=_
  unfold bindL
  rw[Zec fun v hv=>(List.nodup_cons.mp nd).1 (List.of_mem_zip hv).1,if_pos hk]
  simp
 |p :: P,w :: vs,i + 1,m,nd,h1,h2,hk=>by
  show bindL kindOf ((p,w) :: P.zip vs) m x=_
  unfold bindL
  exact Zee (i:=i) (List.nodup_cons.mp nd).2 (by simpa using h1) (by simpa using h2) hk
theorem Zef {kindOf:Str->Option NameKind} {x:Str} {v:Value}: ∀ {P:List Str} {vs:List Value} {i:Nat} {m:Str->Option Value},P.Nodup->P[i]?=some x->vs[i]?=some v->kindOf x≠some .local->
  bindC kindOf (P.zip vs) m x=some v
 | [],_,_,_,_,h,_,_=>by simp at h
 |_ :: _,[],_,_,_,_,h,_=>by simp at h
 |p :: P,w :: vs,0,m,nd,h1,h2,hk=>by
  simp at h1 h2;subst h1;subst h2
  show bindC kindOf ((p,w) :: P.zip vs) m p=_
  unfold bindC
  rw[Zed fun v hv=>(List.nodup_cons.mp nd).1 (List.of_mem_zip hv).1,if_neg hk]
  simp
 |p :: P,w :: vs,i + 1,m,nd,h1,h2,hk=>by
  show bindC kindOf ((p,w) :: P.zip vs) m x=_
  unfold bindC
  exact Zef (i:=i) (List.nodup_cons.mp nd).2 (by simpa using h1) (by simpa using h2) hk
noncomputable def start (N:List Str) (vs:List V):St:=vs.map some ++ List.replicate (N.length - vs.length) none
noncomputable def ZeQ (CX:CXT) (P:Program) (w:World) (K:PySem.W.Frag) (mg:Str->Option Value) (base:Heap) (N:List Str) (qual:Str) (scope:Scope) (f:Addr) (cd:Value) (A:Around) (outer:List Env) (s:Shared) (H:Hp) (E:XK):Cx where
 prog:=P
 w:=w
 K:=K
 mg:=mg
 base:=base
 A:=A.deeper (envOfC qual scope s.heap.objs.size f cd)
 N:=N
 s₀:=s
 H₀:=H
 env:=envOfC qual scope s.heap.objs.size f cd
 outer:=outer
 stack:=envOfC qual scope s.heap.objs.size f cd :: outer
 ex:=[]
 calm:=A.handled.isNone
 fn:=fun _=>true
 pn:=[]
 xe:=fun e s'=>wpAny (model P w) (A.deeper (envOfC qual scope s.heap.objs.size f cd)) (leaving (envOfC qual scope s.heap.objs.size f cd) e) (fun _ s''=>CX outer H s E e s'') (fun e' s''=>CX outer H s E e' s'') s'
theorem ZfB {sc:Scope} {n:Nat} {x:Str} (h:sc.names.lookup x=some .cell): ∃ c,(cellsFrom n sc.names []).lookup x=some c:=by
 have q:=PySem.W.cellsFrom_some sc.names n [] (.inl h)
 exact Option.isSome_iff_exists.mp q
theorem ZgO {CX:CXT} {P:Program} {w:World} {K:PySem.W.Frag} {mg:Str->Option Value} {base:Heap} {N ps:List Str} {qual:Str} {scope:Scope} {f:Addr} {cd:Value} {A:Around} {outer:List Env} {s s1:Shared} {H:Hp} {E:XK} {us:List Value} {vs:List V}
  (S:FnScope N ps scope) (e0:Env0 P w K mg base A outer s H) (hl:vs.length=ps.length) (r:ZW vs us)
  (x:InCallC s s.heap.objs.size (bindL (envOfC qual scope s.heap.objs.size f cd).kindOf (ps.zip us) fun _=>none) (cellsFrom (s.heap.objs.size + 1) scope.names []) (bindC (envOfC qual scope s.heap.objs.size f cd).kindOf (ps.zip us) fun _=>none) s1):
  Inv (ZeQ CX P w K mg base N qual scope f cd A outer s H E) [] (start N vs) H s1:=by
 have hpl:ps.length<=N.length:=by have:=congrArg List.length S.pre;rw[List.length_take] at this;omega
 obtain ⟨h1,tk,rfl,hk⟩:=x.done
 have noA: ∀ b:Addr,b ∉ (ZeQ CX P w K mg base N qual scope f cd A outer s H E).ex:=fun b z=>absurd (show b∈([]:List Addr) from z) (by simp)
 refine ⟨⟨e0.mod,S.kind,rfl,rfl,Nat.le_refl _,fun y z c h1 h2=> ?_,fun y hy=> ?_,fun y c _ h=> ?_,fun z=>Option.isNone_iff_eq_none.mp z,Around.frames_deeper e0.frames,.inr ⟨rfl,rfl⟩,fun b z=>absurd z (noA b),e0.bs,e0.bsz,fun b _ _=>noA b,fun b z=>absurd z (noA b),e0.funs,e0.frf⟩,
  rfl,e0.bare,Un.kept hk,⟨_,x.toInCall.ns,fun i y v h1 h2 h3=> ?_⟩,fun y c h=>⟨_,x.cell y c h⟩,e0.hok.fresh (Nat.le_refl _),fun y c h=> ?_,fun p hp=>absurd (show p∈([]:List (Addr × Obj)) from hp) (by simp),e0.hok.kept hk,?_,e0.qd⟩
 ·exact name_of_addr x.apart (PySem.mem_of_lookup h1) (PySem.mem_of_lookup h2)
 ·have hy:scope.names.lookup y=some .cell\/scope.names.lookup y=some .free:=hy
  rcases hy with hy | hy
  ·exact ZfB hy
  ·exact absurd rfl (S.nofree _ (PySem.mem_of_lookup hy))
 ·exact Nat.le_of_lt (x.above y c (PySem.mem_of_lookup h))
 ·have hi:i < vs.length:=by
   unfold start at h2
   by_cases hi:i < vs.length
   ·exact hi
   ·rw[List.getElem?_append_right (by simpa using hi)] at h2
    rw[List.getElem?_replicate] at h2
    split at h2<;>cases h2
  have ha:vs[i]?=some v:=by
   unfold start at h2
   rw[List.getElem?_append_left (by simpa using hi),List.getElem?_map] at h2
   cases e:vs[i]? with
   |none=>rw[e] at h2;cases h2
   |some a=>rw[e] at h2;cases h2;rfl
  obtain ⟨u,hu,rv⟩:=r.get ha
  have hp:ps[i]?=some y:=by
   rw[<- S.pre,List.getElem?_take_of_lt (by omega)];exact h1
  have ndP:ps.Nodup:=by rw[<- S.pre];exact S.nd.sublist (List.take_sublist _ _)
  refine ⟨u,rv,?_⟩
  rcases S.par y (List.mem_of_getElem? hp) with k | k
  ·exact .inl ⟨k,Zee ndP hp hu k⟩
  ·obtain ⟨c,e⟩:=ZfB (n:=s.heap.objs.size + 1) k
   refine .inr ⟨.inl k,c,e,?_⟩
   have q:=x.cell y c e
   rw[Zef ndP hp hu (by show scope.names.lookup y≠_;rw[k];decide)] at q
   exact q
 ·exact e0.hok.fresh (Nat.le_of_lt (x.above y c (PySem.mem_of_lookup h)))
 ·unfold start
  show _=N.length
  rw[List.length_append,List.length_map,List.length_replicate]
  omega
theorem Zo4 {CX:CXT} {P:Program} {w:World} {K:PySem.W.Frag} {mg:Str->Option Value} {base:Heap} {k:Nat} {f:Addr} {name qual:Str} {params:Arguments} {body:List Stmt} {scope:Scope} {dV kV doc pm cdv ct oc:Value} {an od:Option Addr}
  {osl:Array (Option Value)} {N ps:List Str} {sp:Sp} (lk:K.lookup f=some ⟨oc,od,.func (PySem.W.fnOf name qual params body scope dV kV doc pm an cdv ct),osl⟩) (hcd:PySem.W.codeIn K cdv qual=true) (S:FnScope N ps scope)
  (len: ∀ vs H Q E,sp vs H Q E->vs.length=ps.length)
  (hbody: ∀ (A:Around) (outer:List Env) (s:Shared) (H:Hp) (vs:List V) (Q:VK) (E:XK),Room k (A.deeper (envOfC qual scope s.heap.objs.size f cdv))->sp vs H Q E->
   ∃ t,PSs (ZeQ CX P w K mg base N qual scope f cdv A outer s H E) body t/\t { nx:=fun _ H'=>Q .non H',rt:=Q } (start N vs) H):
  FnOk P w K mg base CX (k + 1) f (PySem.W.fnOf name qual params body scope dV kV doc pm an cdv ct) ps sp:=by
 refine ⟨len,fun A outer s H args us vs Q E hr e0 hb r hsp=> ?_⟩
 have hl:=len _ _ _ _ hsp
 have KX:K.In s.heap:=e0.mod.kin.keeps fun b o e=>(e0.bs b o e).1
 have lim:s.heap.NoLimit:=e0.mod.nolimit.keeps fun b o e=>(e0.bs b o e).1
 have hkind: ∀ y∈ps.zip us,scope.names.lookup y.1=some .local\/(scope.names.lookup y.1=some .cell/\((cellsFrom (s.heap.objs.size + 1) scope.names []).lookup y.1).isSome=true):=fun ⟨n,v⟩ hy=>by
  rcases S.par n (List.of_mem_zip hy).1 with q | q
  ·exact .inl q
  ·exact .inr ⟨q,PySem.W.cellsFrom_some _ _ _ (.inl q)⟩
 refine codeAny_call_function hr.depth (KX _ _ lk) rfl S.co S.gen rfl (PySem.W.codeRec_of KX hcd) (hb _ _ _ _ ?_)
 refine wpAny_newFunctionEnv_cells S.kind hkind fun env he s1 x=> ?_
 subst he
 refine ⟨lim.keeps x.toInCall.keep,codeAny_func ?_⟩
 obtain ⟨t,ht,hq⟩:=hbody A outer s H vs Q E (hr.deeper _) hsp
 have I:Inv (ZeQ CX P w K mg base N qual scope f cdv A outer s H E) [] (start N vs) H s1:=ZgO S e0 hl r x
 refine wpAny_mono (ht [] s1 (start N vs) H _ I hq) (fun fl s' hs=> ?_) fun e s' hs=>hs
 have fin: ∀ {σ':St} {H':Hp} {v:V} {u:Value},Inv (ZeQ CX P w K mg base N qual scope f cdv A outer s H E) [] σ' H' s'->ZS v u->Q v H'->CE outer P w H s Q u s':=
  fun {σ' H' v u} J rv q=>⟨v,H',J.os,J.bare,J.base,J.hok,rv,q⟩
 cases fl with
 |ret u=>
  obtain ⟨v,σ',H',J,rv,q⟩:=hs
  exact fin J rv q
 |next=>
  obtain ⟨σ',H',J,q⟩:=hs
  exact fin (v:=V.non) (u:=Value.none) J rfl q
 |brk=>
  obtain ⟨_,_,_,q⟩:=hs
  exact False.elim q
 |cont=>
  obtain ⟨_,_,_,q⟩:=hs
  exact False.elim q
end L2
namespace L2
open PySem PySem.Spec PyProof.Rows
section
variable {X:Cx} {x:Str} {p pos:Pos} {e:Expr} {es:List Expr} {t:TA} {id T:String} {r:List V->Hp->VK->Prop}
noncomputable def tCB (r:List V->Hp->VK->Prop) (t:TA):TE:=fun σ H Q=>t σ H fun vs H1=>r vs H1 Q
theorem ZfC (hc:Zb7 X (.builtin id) r) (hg:Gl X x) (hm:X.mg x=none) (hv:bootBuiltins x=some (.builtin id)) (ha:PA X (e :: es) t) (hn:x≠"__name__":=by decide) (hdb:(x == ("__debug__":Str))=false:=by decide)
  (he:starEach (e :: es) X.env=(false,eval e X.env) :: starEach es X.env:=by rfl) (hpl:(backTo pos (starEach es X.env)).any (·.1)=false:=by rfl):PE X (.Call (.Name x p) (e :: es) [] pos) (tCB r t):=by
 intro pins s σ H Q I h
 refine wpAny_Call_Name_kw (Zcu I hg hm hv ?_ hn hdb)
 exact PyProof.Rows.callWith_builtin1 (thn (ha pos pins s σ H _ I h) fun us s1 ⟨vs,H1,I1,r1,q1⟩=>hc pins s1 σ H1 vs us Q I1 r1 q1) he hpl
theorem ZgP (hc:Zb7 X (.type T) r) (hg:Gl X x) (hm:X.mg x=none) (hv:bootBuiltins x=some (.type T)) (ha:PA X (e :: es) t) (hn:x≠"__name__":=by decide) (hdb:(x == ("__debug__":Str))=false:=by decide)
  (he:starEach (e :: es) X.env=(false,eval e X.env) :: starEach es X.env:=by rfl) (hpl:(backTo pos (starEach es X.env)).any (·.1)=false:=by rfl):PE X (.Call (.Name x p) (e :: es) [] pos) (tCB r t):=by
 intro pins s σ H Q I h
 refine wpAny_Call_Name_kw (Zcu I hg hm hv ?_ hn hdb)
 exact PyProof.Rows.callWith_type1 (thn (ha pos pins s σ H _ I h) fun us s1 ⟨vs,H1,I1,r1,q1⟩=>hc pins s1 σ H1 vs us Q I1 r1 q1) he hpl
end
end L2
namespace HT
open PySem PyProof.Rows
noncomputable def ZbA:List Int->List Int->Bool
 | [],[]=>false
 | [],_ :: _=>true
 |_ :: _,[]=>false
 |x :: xs,y :: ys=>if x=y then ZbA xs ys else decide (x < y)
theorem Zcp (x y:Int) (xs ys:List Int):ZbA (x :: xs) (y :: ys)=if x=y then ZbA xs ys else decide (x < y):=rfl
theorem Zb8:ZbA [] []=false:=rfl
theorem Zdd (y:Int) (ys:List Int):ZbA [] (y :: ys)=true:=rfl
theorem Zde (x:Int) (xs:List Int):ZbA (x :: xs) []=false:=rfl
theorem ZfD (A:Around) (s:Shared) (a:Int) (t:Tok) (c:Int) (u:Tok): ∃ e,SeqAt.EqAt A s (.int a t) (.int c u) e/\(e=true ↔ a=c):=
 ⟨(a == c),SeqAt.EqAt.int_int a t c u,by simp⟩
theorem Ziq (A:Around) (s:Shared) (a:Int) (t:Tok) (c:Int) (u:Tok) (prog:Program) (w:World) (E:Value->Shared->Prop) (Q:Value->Shared->Prop) (h:Q (.bool (decide (a < c))) s):
  wpAny (model prog w) A (richCompare .Lt (.int a t) (.int c u)) Q E s:=
 (PyProof.Rows.lt_int h:wpAny (model prog w) A (compareOp .Lt (.int a t) (.int c u)) Q E s)
section
open PySem.SeqAt
open PySem.AutoSeq1 (wpAny_loadPart')
open PySem.MeetsSeq PySem.MeetsSeq2 PySem.MeetsSeq3
theorem ZdD (l b:Addr) (items items2:Array Value) (n n2:Nat) (dd dd2:Option Addr) (sl sl2:Array (Option Value)) (ns ms:List Int) (hi:IntsAre items.toList ns) (hj:IntsAre items2.toList ms):
  Meets (Builtin.«tuple.__lt__» ⟨[.ref l,.ref b],[]⟩)
   (fun _ R s=>s.heap.get? l=some { cls:= .type "tuple",dict:=dd,data:= .seq items n,slots:=sl }/\s.heap.get? b=some { cls:= .type "tuple",dict:=dd2,data:= .seq items2 n2,slots:=sl2 }/\
    R (.ok (.ret (.bool (ZbA ns ms)))) s):=
 .of_wp fun prog w A R s h=>by
  obtain ⟨hp,g,d,tk,os⟩:=s;obtain ⟨hl,hb,h⟩:=h
  have f2:=AutoSeq1.sub_tuple_tuple
  have z1:items.size=ns.length:=by rw[<- hi.length];simp
  have z2:items2.size=ms.length:=by rw[<- hj.length];simp
  wp_walk using wpAny_loadPart' hl,wpAny_loadPart' hb,wpAny_forIn_list _ (fun rest b s'=>b.1=none/\s'=⟨hp,g,d,tk,os⟩/\ ∃ (vs ws:List Value) (ns' ms':List Int),rest=vs.zip ws/\
   IntsAre vs ns'/\IntsAre ws ms'/\ns'.length + items2.size=ms'.length + items.size/\R (.ok (.ret (.bool (ZbA ns' ms')))) ⟨hp,g,d,tk,os⟩) _
  case turn=>
   rintro ⟨y,x⟩ rest b s' ⟨hb',rfl,vs,ws,ns',ms',hz,hvi,hwi,hlen,hR⟩
   cases hvi with
   |nil=>rw[List.zip_nil_left] at hz;cases hz
   |cons a t hvi'=>
    cases hwi with
    |nil=>rw[List.zip_nil_right] at hz;cases hz
    |cons c u hwi'=>
     rw[List.zip_cons_cons] at hz
     injection hz with hyx hrest
     injection hyx with hy hx
     subst hy hx
     rw[Zcp] at hR
     simp only[List.length_cons] at hlen
     obtain ⟨e,he,hiff⟩:=ZfD A.in1 ⟨hp,g,d,tk,os⟩ a t c u
     refine wpAny_bind (he prog w _ _ ?_)
     cases e with
     |true=>
      rw[if_pos (hiff.mp rfl)] at hR
      wp_walk
      exact ⟨rfl,rfl,_,_,_,_,hrest,hvi',hwi',by omega,hR⟩
     |false=>
      rw[if_neg (fun q=>absurd (hiff.mpr q) Bool.false_ne_true)] at hR
      have hri:=Ziq A.in1 ⟨hp,g,d,tk,os⟩ a t c u prog w
      wp_walk using hri
      exact ⟨_,rfl,by simpa using hR⟩
  case fin=>
   rintro ⟨b1,b2⟩ s' ⟨hb',rfl,vs,ws,ns',ms',hz,hvi,hwi,hlen,hR⟩
   simp only at hb'
   subst hb'
   have hv:ZbA ns' ms'=decide (items.size < items2.size):=by
    cases hvi with
    |nil=>
     cases hwi with
     |nil=>
      simp only[List.length_nil] at hlen
      rw[Zb8]
      exact (decide_eq_false (by omega)).symm
     |cons c u hw=>
      simp only[List.length_nil,List.length_cons] at hlen
      rw[Zdd]
      exact (decide_eq_true (by omega)).symm
    |cons a t hv=>
     cases hwi with
     |nil=>
      simp only[List.length_nil,List.length_cons] at hlen
      rw[Zde]
      exact (decide_eq_false (by omega)).symm
     |cons c u hw=>
      rw[List.zip_cons_cons] at hz
      cases hz
   rw[hv] at hR
   wp_walk
   exact ⟨_,rfl,by simpa [Builtin.Tuple.tupleCompareSizes] using hR⟩
  case h=>
   exact ⟨rfl,rfl,items.toList,items2.toList,ns,ms,rfl,hi,hj,by omega,h⟩
end
section
variable {prog:Program} {w:World} {A:Around} {E:Value->Shared->Prop} {s:Shared}
theorem Zf4 {l b:Addr} {items items2:Array Value} {ns ms:List Int} {Q:Value->Shared->Prop} (hl:IsTup s.heap l items) (hb:IsTup s.heap b items2) (hi:IntsAre items.toList ns) (hj:IntsAre items2.toList ms)
  (hu:A.units < cLine) (h:Q (.bool (ZbA ns ms)) s):wpAny (model prog w) A (compareOp .Lt (.ref l) (.ref b)) Q E s:=by
 obtain ⟨⟨cls,dd,data,sl⟩,ho,hc,n,hd⟩:=id hl
 obtain ⟨⟨cls2,dd2,data2,sl2⟩,ho2,hc2,n2,hd2⟩:=id hb
 simp only at hc hd hc2 hd2
 subst hc hd hc2 hd2
 exact richCompare_meets_room (op:= .Lt) ⟨_,ho,rfl⟩ ⟨_,ho2,rfl⟩ PySem.F.slot_tuple_lt PySem.F.entry_tuple_lt (PySem.F.args_tuple_lt_2 _ _) (ZdD l b items items2 n n2 dd dd2 sl sl2 ns ms hi hj)
  ⟨ho,ho2,show Value.bool (ZbA ns ms)≠Value.notImplemented/\Q (.bool (ZbA ns ms)) s from ⟨(fun x=>nomatch x),h⟩⟩ hu
theorem Zka {t b:Addr} {vs ws:List Value} {Q:Value->Shared->Prop} (ht:IsTup s.heap t vs.toArray) (hb:IsTup s.heap b ws.toArray) (hv:vs≠[])
  (h1:ws=[]->Q (.ref t) s) (h2:ws≠[]->Q (.ref s.heap.objs.size) { s with heap:=s.heap.push { cls:= .type "tuple",data:= .seq (vs ++ ws).toArray } })
  (hsz:vs.length + ws.length<=sizeLine):wpAny (model prog w) A (binaryOp .Add (.ref t) (.ref b)) Q E s:=by
 obtain ⟨⟨cls,dd,data,sl⟩,ho,hc,n,hd⟩:=id ht
 obtain ⟨⟨cls2,dd2,data2,sl2⟩,ho2,hc2,n2,hd2⟩:=id hb
 simp only at hc hd hc2 hd2
 subst hc hd hc2 hd2
 have e:vs.toArray ++ ws.toArray=(vs ++ ws).toArray:=by simp
 by_cases hw:ws=[]
 ·exact concat_meets ⟨_,ho,rfl⟩ ⟨_,ho2,rfl⟩ noFill_tuple_add seq_tuple_add PySem.F.slot_tuple_add PySem.F.entry_tuple_add (PySem.F.args_tuple_add_2 _ _)
   (tuple_addW1 t b vs.toArray ws.toArray n n2 dd dd2 sl sl2 (by simpa using hv) (by simp[hw])) ⟨ho,ho2,h1 hw⟩
 ·refine concat_meets ⟨_,ho,rfl⟩ ⟨_,ho2,rfl⟩ noFill_tuple_add seq_tuple_add PySem.F.slot_tuple_add PySem.F.entry_tuple_add (PySem.F.args_tuple_add_2 _ _)
   (tuple_addW2 t b vs.toArray ws.toArray n n2 dd dd2 sl sl2 (by simpa using hv) (by simpa using hw) (by rw[List.size_toArray,List.size_toArray];exact hsz)) ⟨ho,ho2,?_⟩
  rw[e]
  exact h2 hw
noncomputable def sIx (n d:Nat):Option Int->Nat
 |none=>d
 |some v=>if v < 0 then (v + (n:Int)).toNat else min v.toNat n
theorem Zl5 (n d:Nat) (hd:d<=n) (o:Option Int):sIx n d o<=n:=by
 cases o with
 |none=>exact hd
 |some v=>
  show (if v < 0 then (v + (n:Int)).toNat else min v.toNat n)<=n
  by_cases hv:v < 0
  ·rw[if_pos hv];omega
  ·rw[if_neg hv];exact Nat.min_le_right _ _
theorem ZgQ (v:Int) (n d:Nat):(if v < 0 then max (v + (n:Int)) 0 else min v (n:Int))=((sIx n d (some v):Nat):Int):=by
 show (if v < 0 then max (v + (n:Int)) 0 else min v (n:Int))=(((if v < 0 then (v + (n:Int)).toNat else min v.toNat n):Nat):Int)
 by_cases hv:v < 0
 ·simp only[if_pos hv];omega
 ·simp only[if_neg hv];omega
theorem Zf5 (lo hi:Option Int) (n:Nat):Builtin.Slice.sliceAdjust lo hi 1 (n:Int)=(((sIx n 0 lo:Nat):Int),((sIx n n hi:Nat):Int)):=by
 have h1: ¬ ((1:Int) < 0):=by omega
 unfold Builtin.Slice.sliceAdjust
 simp only[h1,if_false]
 refine Prod.ext ?_ ?_
 ·cases lo with
  |none=>rfl
  |some v=>exact ZgQ v n 0
 ·cases hi with
  |none=>rfl
  |some v=>exact ZgQ v n n
theorem Zf6 (i j:Nat):Builtin.Slice.slicePlaces (i:Int) (j:Int) 1=j - i:=by
 unfold Builtin.Slice.slicePlaces
 have h1:(1:Int) > 0:=by omega
 simp only[h1,if_true,Int.ediv_one]
 split<;>omega
theorem Zba {v:Value} {o:Option Int} {Q:Option Int->Shared->Prop} (p:IsPart v o) (h:Q o s):wpAny (model prog w) A (Builtin.Slice.slicePartIndex v) Q E s:=by
 cases p with
 |none=>exact slicePart_none h
 |int i t=>exact slicePart_int h
theorem ZcA {sl:Addr} {vl vu:Value} {lo hi:Option Int} {n:Nat} {Q:Int × Int × Nat->Shared->Prop} (hs:s.heap.IsSliceOf sl vl vu .none) (pl:IsPart vl lo) (pu:IsPart vu hi)
  (h:Q (((sIx n 0 lo:Nat):Int),1,sIx n n hi - sIx n 0 lo) s):wpAny (model prog w) A (Builtin.Slice.sliceApplied (.ref sl) (pure (n:Int))) Q E s:=by
 obtain ⟨os,hos,hcs,hds⟩:=id hs
 unfold Builtin.Slice.sliceApplied Builtin.Slice.sliceFields
 refine wpAny_bind (wpAny_bind (wpAny_field hos hds (x:=vl) rfl (wpAny_bind (wpAny_field hos hds (x:=vu) rfl (wpAny_bind (wpAny_field hos hds (x:= .none) rfl (wpAny_pure ?_)))))))
 refine wpAny_bind (slicePart_none ?_)
 show wpAny _ _ (if ((1:Int) == 0)=true then _ else _) _ _ s
 rw[if_neg (by decide)]
 refine wpAny_bind (Zba pl (wpAny_bind (Zba pu (wpAny_bind (wpAny_pure ?_)))))
 show wpAny _ _ (match Builtin.Slice.sliceAdjust lo hi 1 (n:Int) with | (lo,hi)=>pure (lo,(1:Int),Builtin.Slice.slicePlaces lo hi 1)) _ _ s
 rw[Zf5 lo hi n]
 show wpAny _ _ (pure (((sIx n 0 lo:Nat):Int),(1:Int),Builtin.Slice.slicePlaces ((sIx n 0 lo:Nat):Int) ((sIx n n hi:Nat):Int) 1)) _ _ s
 rw[Zf6]
 exact wpAny_pure h
theorem Zir (xs:Array Value) (i k:Nat):((List.range k).filterMap fun (m:Nat)=>xs[((i:Int) + (m:Int) * 1).toNat]?).toArray=((xs.toList.drop i).take k).toArray:=by
 have e:(fun (m:Nat)=>xs[((i:Int) + (m:Int) * 1).toNat]?)=fun m=>xs[i + m]?:=by
  funext m
  have:((i:Int) + (m:Int) * 1).toNat=i + m:=by omega
  rw[this]
 rw[e]
 have:=pick_run xs i k
 rw[List.filterMap_map] at this
 have e2:((fun x=>xs[x]?) ∘ fun x=>i + x)=fun m=>xs[i + m]?:=rfl
 rw[e2] at this
 rw[this]
theorem Zcq {t sl:Addr} {items:Array Value} {vl vu:Value} {lo hi:Option Int} {Q:Value->Shared->Prop} (ht:IsTup s.heap t items) (hs:s.heap.IsSliceOf sl vl vu .none) (pl:IsPart vl lo) (pu:IsPart vu hi)
  (hw: ¬ (sIx items.size 0 lo=0/\sIx items.size items.size hi=items.size))
  (h:Q (.ref s.heap.objs.size) { s with heap:=s.heap.push { cls:= .type "tuple",data:= .seq ((items.toList.drop (sIx items.size 0 lo)).take (sIx items.size items.size hi - sIx items.size 0 lo)).toArray } })
  (hsz:items.size<=sizeLine):wpAny (model prog w) A (getItem (.ref t) (.ref sl)) Q E s:=by
 have htake:sizeOk (.seq ((items.toList.drop (sIx items.size 0 lo)).take (sIx items.size items.size hi - sIx items.size 0 lo)).toArray):=by
  show ((items.toList.drop (sIx items.size 0 lo)).take (sIx items.size items.size hi - sIx items.size 0 lo)).toArray.size<=sizeLine
  rw[List.size_toArray,List.length_take,List.length_drop,Array.length_toList]
  omega
 have hj:sIx items.size items.size hi<=items.size:=Zl5 _ _ (Nat.le_refl _) hi
 obtain ⟨os,hos,hcs,hds⟩:=id hs
 have hTs:s.TypeIs (.ref sl) "slice":=⟨os,hos,hcs⟩
 unfold getItem
 try with_reducible refine wpAny_holding ?_
 first | refine wpAny_bind (wpAny_pure ?_) | skip
 refine wpAny_bind (wpAny_sequenceKey ht.typeIs (by decide) ?_)
 refine wpAny_bind (wpAny_callSpecial?_slot (name:=Str.ofString "__getitem__") ht.typeIs PyProof.Rows.slot_tuple_getitem
  (wpAny_call_entry PyProof.Rows.slot_tuple_getitem ht.typeIs entry_tuple_getitem ?_ (args_tuple_getitem _ _)))
 show wpAny _ _ (Builtin.Tuple.tupleItemsOf (.ref t) >>= _) _ _ s
 refine wpAny_bind (tupleItemsOf_ ht ?_)
 refine wpAny_bind (wpAny_typeOf hTs ?_)
 rw[if_pos (by decide)]
 refine wpAny_bind (ZcA hs pl pu ?_)
 have hno: ¬ ((((sIx items.size 0 lo:Nat):Int) == 0 && (1:Int) == 1 && (sIx items.size items.size hi - sIx items.size 0 lo) == items.size)=true):=by
  intro q
  rw[Bool.and_eq_true,Bool.and_eq_true] at q
  have q1:((sIx items.size 0 lo:Nat):Int)=0:=eq_of_beq q.1.1
  have q2:sIx items.size items.size hi - sIx items.size 0 lo=items.size:=eq_of_beq q.2
  exact hw ⟨by omega,by omega⟩
 show wpAny _ _ (if (((sIx items.size 0 lo:Nat):Int) == 0 && (1:Int) == 1 && (sIx items.size items.size hi - sIx items.size 0 lo) == items.size)=true then _ else _) _ _ s
 rw[if_neg hno,Zir]
 first
  |exact wpAny_bind (m:=Builtin.Tuple.tupleExact _) (wpAny_newObj_type (wpAny_pure ⟨_,rfl,wpAny_pure h⟩) htake)
  |exact wpAny_bind (m:=Builtin.Tuple.tupleExact _) (wpAny_newObj_type (wpAny_bind (wpAny_pure (wpAny_pure ⟨_,rfl,wpAny_pure h⟩))) htake)
  |exact wpAny_bind (wpAny_bind (m:=Builtin.Tuple.tupleExact _) (wpAny_newObj_type (wpAny_pure (wpAny_pure ⟨_,rfl,wpAny_pure h⟩)) htake))
  |exact wpAny_bind (wpAny_bind (m:=Builtin.Tuple.tupleExact _) (wpAny_newObj_type (wpAny_pure ⟨_,rfl,wpAny_pure h⟩) htake))
end
end HT
namespace L2
open PySem PySem.Spec PyProof.Rows
noncomputable abbrev TO:=St->Hp->(Option Int->Hp->Prop)->Prop
noncomputable def PO (X:Cx) (e:Option Expr) (t:TO):Prop:=
 ∀ (pins:List (Addr × Obj)) (s:Shared) (σ:St) (H:Hp) (Q:Option Int->Hp->Prop),Inv X pins σ H s->t σ H Q->
  wpAny (model X.prog X.w) X.A (evalPart e X.env) (fun u s'=> ∃ o H',Inv X pins σ H' s'/\IsPart u o/\Q o H') X.xe s
noncomputable def tNoPart:TO:=fun _ H Q=>Q none H
noncomputable def Zo5 (t:TE):TO:=fun σ H Q=>t σ H fun x H1=> ∃ i,x= .int i/\Q (some i) H1
theorem ZbN {ns:List Int}: ∀ {us:List Value},ZW (ns.map V.int) us->IntsAre us ns:=by
 induction ns with
 |nil=>intro us r;rw[List.map_nil] at r;cases r;exact .nil
 |cons n ns ih=>
  intro us r
  rw[List.map_cons] at r
  cases r with
  |cons r1 r2=>
   obtain ⟨t,e⟩:=r1
   subst e
   exact .cons n t (ih r2)
section
variable {X:Cx} {e:Expr} {te:TE} {lo hi:Option Expr} {tl th:TO} {pos p2:Pos}
theorem Zkb:PO X none tNoPart:=by
 intro pins s σ H Q I h
 rw[evalPart_none]
 exact wpAny_pure ⟨none,H,I,.none,h⟩
theorem Zkc (h:PE X e te):PO X (some e) (Zo5 te):=by
 intro pins s σ H Q I hw
 rw[evalPart_some]
 refine thn (h pins s σ H _ I hw) fun u s1 ⟨x,H1,I1,r1,q1⟩=> ?_
 obtain ⟨i,rfl,q⟩:=q1
 obtain ⟨t,rfl⟩:=r1
 exact ⟨some i,H1,I1,.int i t,q⟩
noncomputable def SlR (X:Cx) (r:V->Option Int->Option Int->Hp->VK->Prop):Prop:=
 ∀ (pins:List (Addr × Obj)) (s:Shared) (σ:St) (H:Hp) (x:V) (v vl vu:Value) (lo hi:Option Int) (sl:Addr) (Q:VK),Inv X pins σ H s->ZS x v->s.heap.IsSliceOf sl vl vu .none->IsPart vl lo->IsPart vu hi->r x lo hi H Q->
  ∃ T id,typeLookup (.type T) "__getitem__"=pure (some (.builtin id))/\s.TypeIs v T/\wpAny (model X.prog X.w) X.A (getItem v (.ref sl)) (EP X pins σ Q) X.xe s
theorem SlR.or {r r':V->Option Int->Option Int->Hp->VK->Prop} (h:SlR X r) (h':SlR X r'):SlR X (fun x lo hi H Q=>r x lo hi H Q\/r' x lo hi H Q):=by
 intro pins s σ H x v vl vu lo hi sl Q I rx hs pl pu q
 rcases q with q | q
 ·exact h pins s σ H x v vl vu lo hi sl Q I rx hs pl pu q
 ·exact h' pins s σ H x v vl vu lo hi sl Q I rx hs pl pu q
noncomputable def tSl (r:V->Option Int->Option Int->Hp->VK->Prop) (te:TE) (tl th:TO):TE:=fun σ H Q=>te σ H fun x H1=>tl σ H1 fun l H2=>th σ H2 fun u H3=>r x l u H3 Q
theorem Zis {r:V->Option Int->Option Int->Hp->VK->Prop} (hr:SlR X r) (he:PE X e te) (hl:PO X lo tl) (hu:PO X hi th):PE X (.Subscript e (.Slice lo hi none p2) pos) (tSl r te tl th):=by
 intro pins s σ H Q I h
 refine Subscript_ (thn (he pins s σ H _ I h) fun v s1 ⟨x,H1,I1,r1,q1⟩=> ?_)
 refine wpAny_Slice (thn (hl pins s1 σ H1 _ I1 q1) fun vl s2 ⟨l,H2,I2,pl,q2⟩=>thn (hu pins s2 σ H2 _ I2 q2) fun vu s3 ⟨u,H3,I3,pu,q3⟩=> ?_)
 rw[evalPart_none]
 refine wpAny_pure ?_
 have I4:Inv X pins σ H3 { s3 with heap:=s3.heap.push { cls:= .type "slice",data:= .fields #[vl,vu,.none] } }:=I3.kept (t':=s3.toks) fun b ob q=>Heap.get?_push_of_some _ q
 obtain ⟨T,id,hT,ht,hg⟩:=hr pins { s3 with heap:=s3.heap.push { cls:= .type "slice",data:= .fields #[vl,vu,.none] } } σ H3 x v vl vu l u s3.heap.objs.size Q I4 r1 (Heap.IsSliceOf.new ..) pl pu q3
 show wpAny (model X.prog X.w) X.A (subscriptTail e (.Slice lo hi none p2) v (.ref s3.heap.objs.size)) (EP X pins σ Q) X.xe { s3 with heap:=s3.heap.push { cls:= .type "slice",data:= .fields #[vl,vu,.none] } }
 exact tail_any (ops:=[.ref s3.heap.objs.size,v]) ht hT hg (by with_unfolding_all rfl)
noncomputable def Zjl (xs:List V) (lo hi:Option Int):List V:=(xs.drop (HT.sIx xs.length 0 lo)).take (HT.sIx xs.length xs.length hi - HT.sIx xs.length 0 lo)
theorem ZcL (xs:List V) (lo hi:Option Int):(Zjl xs lo hi).length<=xs.length:=by
 unfold Zjl
 rw[List.length_take,List.length_drop]
 omega
noncomputable def Zsk (K:PySem.W.Frag):V->Option Int->Option Int->Hp->VK->Prop:=fun x lo hi H Q=> ∃ a xs,x= .ref a/\SqT K H a xs/\
 ¬ (HT.sIx xs.length 0 lo=0/\HT.sIx xs.length xs.length hi=xs.length)/\ ∀ p,H p=none->Q (.ref p) (upd H p (.tup (Zjl xs lo hi)))
theorem Zl6:SlR X (Zsk X.K):=by
 intro pins s σ H x v vl vu lo hi sl Q I rx hs pl pu h
 obtain ⟨a,xs,rfl,hx,hw,q⟩:=h
 cases rx
 obtain ⟨its,r,ht,hz⟩:=I.tuple hx
 have hlen:its.toArray.size=xs.length:=by rw[List.size_toArray];exact r.length.symm
 refine ⟨"tuple",_,PyProof.Rows.slot_tuple_getitem.lookup,ht.typeIs,?_⟩
 refine HT.Zcq ht hs pl pu (by rw[hlen];exact hw) ?_ (by rw[hlen];exact hz)
 rw[hlen]
 refine ⟨.ref s.heap.objs.size,_,I.laid (t':=s.toks) (o:= .tup (Zjl xs lo hi)) (fun b ob q=>Heap.get?_push_of_some _ q) (Nat.le_refl _) ?_,rfl,q _ (I.hok.fresh (Nat.le_refl _))⟩
 exact ⟨Nat.le_trans (ZcL xs lo hi) hz,_,(r.drop (HT.sIx xs.length 0 lo)).take (HT.sIx xs.length xs.length hi - HT.sIx xs.length 0 lo),IsTup.new _ _⟩
noncomputable def Zkd (K:PySem.W.Frag):R2:=fun x y H Q=> ∃ a b xs ys,x= .ref a/\y= .ref b/\SqT K H a xs/\SqT K H b ys/\xs≠[]/\xs.length + ys.length<=sizeLine/\
 (ys=[]->Q (.ref a) H)/\(ys≠[]-> ∀ p,H p=none->Q (.ref p) (upd H p (.tup (xs ++ ys))))
theorem ZW.nil_iff {xs:List V} {us:List Value} (r:ZW xs us):us=[] ↔ xs=[]:=by
 cases r with
 |nil=>simp
 |cons _ _=>simp
theorem Zke:OpR X (binaryOp .Add) (Zkd X.K):=by
 intro pins s σ H x y v u Q I rx ry h
 obtain ⟨a,b,xs,ys,rfl,rfl,ha,hb,hx,hz,q1,q2⟩:=h
 cases rx
 cases ry
 obtain ⟨its,r1,p1,_⟩:=I.tuple ha
 obtain ⟨its2,r2,p2,_⟩:=I.tuple hb
 refine HT.Zka p1 p2 (fun z=>hx (r1.nil_iff.mp z)) (fun z=>⟨.ref a,H,I,rfl,q1 (r2.nil_iff.mp z)⟩) (fun z=> ?_) (by rw[<- r1.length,<- r2.length];exact hz)
 refine ⟨.ref s.heap.objs.size,_,I.laid (t':=s.toks) (o:= .tup (xs ++ ys)) (fun b ob q=>Heap.get?_push_of_some _ q) (Nat.le_refl _) ?_,rfl,q2 (fun w=>z (r2.nil_iff.mpr w)) _ (I.hok.fresh (Nat.le_refl _))⟩
 exact ⟨by rw[List.length_append];exact hz,_,r1.append r2,IsTup.new _ _⟩
end
end L2
namespace L2
open PySem PySem.Spec PyProof.Rows
noncomputable def ixN (n:Nat) (i:Int):Option Nat:=if 0<=i then (if i < n then some i.toNat else none) else if -(n:Int)<=i then some (i + n).toNat else none
noncomputable def atI {α:Type} (xs:List α) (i:Int):Option α:=(ixN xs.length i).bind fun j=>xs[j]?
theorem ZgR {n:Nat} {i:Int} {j:Nat} (h:ixN n i=some j):seqIndex? i n=some j/\j < n/\ -(n:Int)<=i/\i < n:=by
 unfold ixN at h
 by_cases h0:0<=i
 ·rw[if_pos h0] at h
  by_cases h1:i < n
  ·rw[if_pos h1] at h
   have e:i.toNat=j:=Option.some.inj h
   exact ⟨by rw[seqIndex_of h0 h1,e],by omega,by omega,h1⟩
  ·rw[if_neg h1] at h;cases h
 ·rw[if_neg h0] at h
  by_cases h1: -(n:Int)<=i
  ·rw[if_pos h1] at h
   have e:(i + n).toNat=j:=Option.some.inj h
   exact ⟨by rw[seqIndex_neg (by omega) h1,e],by omega,h1,by omega⟩
  ·rw[if_neg h1] at h;cases h
theorem ZgS {α:Type} {xs:List α} {i:Int} {v:α} (h:atI xs i=some v): ∃ j,seqIndex? i xs.length=some j/\xs[j]?=some v/\j < xs.length/\ -(xs.length:Int)<=i/\i < xs.length:=by
 unfold atI at h
 cases e:ixN xs.length i with
 |none=>rw[e] at h;cases h
 |some j=>
  rw[e] at h
  obtain ⟨h1,h2,h3,h4⟩:=ZgR e
  exact ⟨j,h1,h,h2,h3,h4⟩
theorem Zkf {α:Type} {xs:List α} {j:Nat} {v:α} (h:xs[j]?=some v):atI xs (j:Int)=some v:=by
 have hj:j < xs.length:=(List.getElem?_eq_some_iff.mp h).1
 have e:ixN xs.length (j:Int)=some j:=by
  unfold ixN
  rw[if_pos (by omega),if_pos (by omega)];simp
 unfold atI;rw[e];exact h
noncomputable def ZgT (b:Expr):Prop:= ∀ o i,subscripted b false o i=operate [o,i] (getItem o i)
noncomputable def IxR (X:Cx) (r:R2):Prop:=
 ∀ (value slice:Expr) (pins:List (Addr × Obj)) (s:Shared) (σ:St) (H:Hp) (x y:V) (v u:Value) (Q:VK),Inv X pins σ H s->ZS x v->ZS y u->r x y H Q->
  subscripted slice false v u=operate [v,u] (getItem v u)->wpAny (model X.prog X.w) X.A (subscriptTail value slice v u) (EP X pins σ Q) X.xe s
noncomputable def MtR (X:Cx) (id:String) (r:V->List V->Hp->VK->Prop):Prop:=
 ∀ (pins:List (Addr × Obj)) (s:Shared) (σ:St) (H:Hp) (x:V) (xs:List V) (v:Value) (us:List Value) (Q:VK),Inv X pins σ H s->ZS x v->ZW xs us->r x xs H Q->
  wpAny (model X.prog X.w) X.A (call (.builtin id) (v :: us)) (EP X pins σ Q) X.xe s
section
variable {X:Cx} {a b:Expr} {ta tb:TE} {pos:Pos}
theorem IxR.or {r r':R2} (h:IxR X r) (h':IxR X r'):IxR X (fun x y H Q=>r x y H Q\/r' x y H Q):=by
 intro value slice pins s σ H x y v u Q I rx ry q hs
 rcases q with q | q
 ·exact h value slice pins s σ H x y v u Q I rx ry q hs
 ·exact h' value slice pins s σ H x y v u Q I rx ry q hs
theorem Zo6 {r:R2} (hr:IxR X r) (ha:PE X a ta) (hb:PE X b tb) (hs:ZgT b):PE X (.Subscript a b pos) (tOp r ta tb):=by
 intro pins s σ H Q I h
 exact Subscript_ (ZoZ ha hb I h fun v u s2 x y H2 I2 rx ry q=>hr a b pins s2 σ H2 x y v u Q I2 rx ry q (hs _ _))
noncomputable def Zq8 (K:PySem.W.Frag):R2:=fun x y H Q=> ∃ p xs i v,x= .ref p/\y= .int i/\SqL K H p xs/\atI xs i=some v/\Q v H
noncomputable def Zq9 (K:PySem.W.Frag):R2:=fun x y H Q=> ∃ p xs i v,x= .ref p/\y= .int i/\SqT K H p xs/\atI xs i=some v/\Q v H
theorem Zkg:IxR X (Zq8 X.K):=by
 intro value slice pins s σ H x y v u Q I rx ry h hs
 obtain ⟨p,xs,i,z,rfl,rfl,hq,he,q⟩:=h
 cases rx
 obtain ⟨t,rfl⟩:=ry
 obtain ⟨its,r,pl,hz⟩:=I.list hq
 obtain ⟨j,h1,h2,h3,h4,h5⟩:=ZgS he
 obtain ⟨w,ew,rw'⟩:=r.get h2
 have hl:=r.length
 have hn:=ZfA
 have fin:EP X pins σ Q w s:=⟨z,H,I,rw',q⟩
 by_cases h0:0<=i
 ·have hj:i.toNat=j:=by
   rw[seqIndex_of h0 h5] at h1
   exact Option.some.inj h1
  exact item_listR pl.isList h0 (by omega) (by rw[hj];simpa using ew) fin hs
 ·have hj:(i + (its.toArray.size:Int)).toNat=j:=by
   rw[seqIndex_neg (by omega) h4] at h1
   rw[List.size_toArray,<- hl]
   exact Option.some.inj h1
  exact subscriptTail_builtinR (x:=w) pl.isList.typeIs slot_list_getitem.lookup
   (wpAny_getItem_list_neg (Q:=fun r s'=>r=w/\EP X pins σ Q r s') pl.isList (by omega) (by rw[List.size_toArray]<;>omega) (by omega) (by rw[hj];simpa using ew) ⟨rfl,fin⟩) hs
theorem Zl7:IxR X (Zq9 X.K):=by
 intro value slice pins s σ H x y v u Q I rx ry h hs
 obtain ⟨p,xs,i,z,rfl,rfl,hq,he,q⟩:=h
 cases rx
 obtain ⟨t,rfl⟩:=ry
 obtain ⟨its,r,pl,hz⟩:=I.tuple hq
 obtain ⟨j,h1,h2,h3,h4,h5⟩:=ZgS he
 obtain ⟨w,ew,rw'⟩:=r.get h2
 have hl:=r.length
 have hn:=ZfA
 have fin:EP X pins σ Q w s:=⟨z,H,I,rw',q⟩
 exact subscriptTail_builtinR (x:=w) pl.typeIs slot_tuple_getitem.lookup
  (getItem_tuple (j:=j) (Q:=fun r s'=>r=w/\EP X pins σ Q r s') pl (by omega) (by omega) (by rw[List.size_toArray,<- hl];exact h1) (by simpa using ew) ⟨rfl,fin⟩) hs
theorem Zf7 (its:List Value) (n j:Nat) (u:Value):Obj.mapSeq (·.setIfInBounds j u) { cls:= .type "list",data:= .seq its.toArray n }={ cls:= .type "list",data:= .seq (its.set j u).toArray n }:=by
 simp[Obj.mapSeq]
theorem Inv.lst {pins:List (Addr × Obj)} {σ:St} {H:Hp} {s:Shared} {p:Addr} {xs:List V} (I:Inv X pins σ H s) (h:H p=some (.lst xs)):
  ∃ (its:List Value) (n:Nat),ZW xs its/\s.heap.get? p=some { cls:= .type "list",data:= .seq its.toArray n }/\xs.length<=sizeLine:=by
 obtain ⟨z,its,n,r,e⟩:=I.hok p _ h
 exact ⟨its,n,r,e,z⟩
theorem Inv.lstUpd {pins:List (Addr × Obj)} {σ:St} {H:Hp} {s:Shared} {p:Addr} {xs ys:List V} {its its':List Value} {n n':Nat} {f:Obj->Obj} (I:Inv X pins σ H s) (h:H p=some (.lst xs))
  (ho:s.heap.get? p=some { cls:= .type "list",data:= .seq its.toArray n }) (hf:f { cls:= .type "list",data:= .seq its.toArray n }={ cls:= .type "list",data:= .seq its'.toArray n' }) (r:ZW ys its') (hz:ys.length<=sizeLine) (t:Nat):
  Inv X pins σ (upd H p (.lst ys)) { s with heap:=s.heap.update p f,toks:=t }:=by
 have e:(s.heap.update p f).get? p=some { cls:= .type "list",data:= .seq its'.toArray n' }:=by
  rw[Heap.get?_update_self f ho (by rw[hf]<;>rfl),hf]
 refine I.write (x:=p) (e:=p) (by rw[h];trivial) (.inl rfl) (fun b u hb q=>(Heap.get?_update_other _ _ (Ne.symm hb)).trans q) ⟨_,e⟩ ?_
 exact ⟨hz,its',n',r,e⟩
noncomputable def rSetL:V->V->V->Hp->(Hp->Prop)->Prop:=fun o i v H Q=> ∃ p xs k j,o= .ref p/\i= .int k/\H p=some (.lst xs)/\ixN xs.length k=some j/\Q (upd H p (.lst (xs.set j v)))
theorem Zit:Zq4 X rSetL:=by
 intro pins s σ H o i v ov iv u Q I ro ri rv h
 obtain ⟨p,xs,k,j,rfl,rfl,hp,hj,q⟩:=h
 cases ro
 obtain ⟨t,rfl⟩:=ri
 obtain ⟨its,n,r,ho,hz⟩:=I.lst hp
 obtain ⟨h1,h2,h3,h4⟩:=ZgR hj
 have hl:=r.length
 have hn:=ZfA
 have I':Inv X pins σ (upd H p (.lst (xs.set j v))) { s with heap:=s.heap.update p (Obj.mapSeq (·.setIfInBounds j u)) }:=
  I.lstUpd hp ho (Zf7 its n j u) (r.set rv j) (by rw[List.length_set];exact hz) s.toks
 by_cases h0:0<=k
 ·have hk:k.toNat=j:=by
   rw[seqIndex_of h0 h4] at h1
   exact Option.some.inj h1
  exact PySem.W.ki_setAt ho h0 (by omega) (by rw[List.size_toArray,<- hl];exact h4) (by rw[hk];exact ⟨_,I',q⟩)
 ·have hk:(k + (its.toArray.size:Int)).toNat=j:=by
   rw[seqIndex_neg (by omega) h3] at h1
   rw[List.size_toArray,<- hl]
   exact Option.some.inj h1
  exact PySem.W.ki_setBack ho (by omega) (by rw[List.size_toArray,<- hl];exact h3) (by omega) (by rw[hk];exact ⟨_,I',q⟩)
theorem Zeg (lo hi:Option Int) (n:Nat):(sliceBounds lo hi none n).1=((HT.sIx n 0 lo:Nat):Int)/\(sliceBounds lo hi none n).2.1=((HT.sIx n n hi:Nat):Int)/\(sliceBounds lo hi none n).2.2=1:=by
 refine ⟨?_,?_,rfl⟩
 ·cases lo with
  |none=>simp[sliceBounds,HT.sIx]
  |some i=>
   simp only[sliceBounds,HT.sIx,Option.getD_none,show (1:Int) > 0 by decide,if_true]
   by_cases h:i < 0
   ·simp only[h,if_true]<;>omega
   ·simp only[h,if_false]<;>omega
 ·cases hi with
  |none=>simp[sliceBounds,HT.sIx]
  |some i=>
   simp only[sliceBounds,HT.sIx,Option.getD_none,show (1:Int) > 0 by decide,if_true]
   by_cases h:i < 0
   ·simp only[h,if_true]<;>omega
   ·simp only[h,if_false]<;>omega
theorem ZdE (its:List Value) (lo hi:Option Int):slicePick its.toArray lo hi none=((its.drop (HT.sIx its.length 0 lo)).take (HT.sIx its.length its.length hi - HT.sIx its.length 0 lo)).toArray:=by
 obtain ⟨h1,h2,h3⟩:=Zeg lo hi its.toArray.size
 unfold slicePick
 rw[h1,h2,h3]
 simp only[sliceRange_one,pick_run,List.size_toArray]<;>rfl
noncomputable def Zsl (K:PySem.W.Frag):V->Option Int->Option Int->Hp->VK->Prop:=fun x lo hi H Q=> ∃ a xs,x= .ref a/\SqL K H a xs/\ ∀ p,H p=none->Q (.ref p) (upd H p (.lst (Zjl xs lo hi)))
theorem Zkh:SlR X (Zsl X.K):=by
 intro pins s σ H x v vl vu lo hi sl Q I rx hs pl pu h
 obtain ⟨a,xs,rfl,hx,q⟩:=h
 cases rx
 obtain ⟨its,r,ht,hz⟩:=I.list hx
 have hlen:=r.length
 refine ⟨"list",_,slot_list_getitem.lookup,ht.isList.typeIs,?_⟩
 refine wpAny_getItem_list_slice ht.isList hs pl pu .none (by simp) ?_ (by rw[List.size_toArray]<;>omega)
 rw[ZdE,<- hlen]
 refine ⟨.ref s.heap.objs.size,_,I.laid (t':=s.toks) (o:= .lst (Zjl xs lo hi)) (fun b ob q=>Heap.get?_push_of_some _ q) (Nat.le_refl _) ?_,rfl,q _ (I.hok.fresh (Nat.le_refl _))⟩
 exact ⟨Nat.le_trans (ZcL xs lo hi) hz,_,0,(r.drop (HT.sIx xs.length 0 lo)).take (HT.sIx xs.length xs.length hi - HT.sIx xs.length 0 lo),Heap.get?_push_size _ rfl⟩
theorem Zw:Zb7 X (.builtin "len") (fun xs H Q=> ∃ p ys,xs=[.ref p]/\(SqL X.K H p ys\/SqT X.K H p ys)/\Q (.int ys.length) H):=by
 intro pins s σ H xs us Q I r h
 obtain ⟨p,ys,rfl,hq,q⟩:=h
 obtain ⟨u,rfl,rx⟩:=Zdc r
 cases rx
 have hn:=ZfA
 rcases hq with hq | hq
 ·obtain ⟨its,r',pl,hz⟩:=I.list hq
  have hlen:=r'.length
  exact Calls.call_len_list pl.isList (by simp only[List.size_toArray]<;>omega) ⟨.int ys.length,H,I.tok _,⟨s.toks + 1,by rw[List.size_toArray,hlen]⟩,q⟩
 ·obtain ⟨its,r',pl,hz⟩:=I.tuple hq
  have hlen:=r'.length
  exact len_tuple pl (by simp only[List.size_toArray]<;>omega) ⟨.int ys.length,H,I.tok _,⟨s.toks + 1,by rw[List.size_toArray,hlen]⟩,q⟩
theorem ZaX:Zb7 X (.type "list") (fun xs H Q=> ∃ p ys,xs=[.ref p]/\(SqL X.K H p ys\/SqT X.K H p ys)/\ ∀ l,H l=none->Q (.ref l) (upd H l (.lst ys))):=by
 intro pins s σ H xs us Q I r h
 obtain ⟨p,ys,rfl,hq,q⟩:=h
 obtain ⟨u,rfl,rx⟩:=Zdc r
 cases rx
 have fin: ∀ (its:List Value),ZW ys its->ys.length<=sizeLine-> ∀ (h':Heap) (c':Nat),(∀ b o',s.heap.get? b=some o'->h'.get? b=some o')->
   h'.get? s.heap.objs.size=some { cls:= .type "list",dict:=none,data:= .seq its.toArray c',slots:= #[] }->EP X pins σ Q (.ref s.heap.objs.size) { s with heap:=h' }:=fun its r' hz h' c' kp e=>
  ⟨.ref s.heap.objs.size,_,I.laid (t':=s.toks) kp (Nat.le_refl _) (show Za9 X.prog X.w _ h' _ (.lst ys) from ⟨hz,its,c',r',e⟩),rfl,q _ (I.hok.fresh (Nat.le_refl _))⟩
 rcases hq with hq | hq
 ·obtain ⟨its,r',pl,hz⟩:=I.list hq
  have hlen:=r'.length
  obtain ⟨o,ho,hc,n,hd⟩:=pl.isList
  exact call_list_seq p (.inl rfl) ho hc hd (fun h' c' kp e=>fin its r' hz h' c' kp e) (by simp only[List.size_toArray]<;>omega)
 ·obtain ⟨its,r',pl,hz⟩:=I.tuple hq
  have hlen:=r'.length
  obtain ⟨o,ho,hc,n,hd⟩:=pl
  exact call_list_seq p (.inr rfl) ho hc hd (fun h' c' kp e=>fin its r' hz h' c' kp e) (by simp only[List.size_toArray]<;>omega)
noncomputable def tyV (K:PySem.W.Frag) (T:String) (x:V) (H:Hp):Prop:=match x with
 | .str _=>T="str"
 | .int _=>T="int"
 | .ref p=>(T="list"/\ ∃ xs,SqL K H p xs)\/(T="tuple"/\ ∃ o,K.lookup p=some o/\o.cls= .type "tuple"/\o.dict=none)\/
   (T="dict"/\((∃ kvs,H p=some (.dK kvs))\/ ∃ kvs,H p=some (.dT kvs)))\/(T="set"/\ ∃ S n,H p=some (.set S n))
 |_=>False
theorem Zl8 {pins:List (Addr × Obj)} {σ:St} {H:Hp} {s:Shared} {T:String} {x:V} {v:Value} (I:Inv X pins σ H s) (r:ZS x v) (ty:tyV X.K T x H):
  s.TypeIs v T/\ ∀ a,v= .ref a-> ∃ ob,s.heap.get? a=some ob/\ob.dict=none:=by
 cases x with
 |str z=>
  obtain ⟨t,rfl⟩:=r
  cases (show T="str" from ty)
  exact ⟨typeIs_str s z t,fun _ e=>nomatch e⟩
 |int i=>
  obtain ⟨t,rfl⟩:=r
  cases (show T="int" from ty)
  exact ⟨typeIs_int s i t,fun _ e=>nomatch e⟩
 |ref p=>
  cases r
  rcases ty with ⟨rfl,xs,hq⟩ | ⟨rfl,o,hk,hc,hd⟩ | ⟨rfl,hk⟩ | ⟨rfl,S,n,hk⟩
  ·obtain ⟨its,_,pl,_⟩:=I.list hq
   refine ⟨pl.isList.typeIs,fun a e=> ?_⟩
   cases e
   obtain ⟨o,n,e,c,hd,_⟩:=pl
   exact ⟨o,e,hd⟩
  ·refine ⟨⟨o,I.kIn p o hk,hc⟩,fun a e=> ?_⟩
   cases e
   exact ⟨o,I.kIn _ o hk,hd⟩
  ·have z: ∃ o,s.heap.get? p=some o/\o.ExactDict:=by
    rcases hk with ⟨kvs,hk⟩ | ⟨kvs,hk⟩
    ·obtain ⟨_,_,_,_,o,_,_,e,ex,_⟩:=I.hok p _ hk
     exact ⟨o,e,ex⟩
    ·obtain ⟨_,_,_,_,o,_,_,e,ex,_⟩:=I.hok p _ hk
     exact ⟨o,e,ex⟩
   obtain ⟨o,e,ex⟩:=z
   refine ⟨⟨o,e,ex.1⟩,fun a e2=> ?_⟩
   cases e2
   exact ⟨o,e,ex.2.1⟩
  ·obtain ⟨o,_,_,_,e,ex,_⟩:=I.hok p _ hk
   refine ⟨⟨o,e,ex.1⟩,fun a e2=> ?_⟩
   cases e2
   exact ⟨o,e,ex.2.1⟩
 |_=>exact False.elim ty
noncomputable def tBM (K:PySem.W.Frag) (T:String) (r:V->List V->Hp->VK->Prop) (to:TE) (t:TA):TE:=fun σ H Q=>to σ H fun x H1=>tyV K T x H1/\t σ H1 fun xs H2=>r x xs H2 Q
variable {o e:Expr} {es:List Expr} {to:TE} {t:TA} {name:Str} {apos cpos:Pos} {T id:String} {r:V->List V->Hp->VK->Prop}
theorem Zo7 (pa:PlainAttrs T) (slot:Slot T name id) (hty:typeOf (.builtin id)=pure (.type "method_descriptor")) (hm:MtR X id r) (ho:PE X o to) (ha:PA X (e :: es) t)
  (hbase:attributeBase o name X.env (eval o X.env)=eval o X.env:=by rfl)
  (hfew:((backTo cpos (starEach (e :: es) X.env)).all (fun x=> !x.1) && (backToKw cpos (keywordEach [] X.env)).all (fun x=>x.1.isSome)
   && decide ((e :: es).length + ([]:List Keyword).length + (if ([]:List Keyword).isEmpty then 0 else 1) < 30))=true:=by rfl)
  (hline:(apos.endLine == cpos.line)=true:=by rfl) (hs:starEach (e :: es) X.env=(false,eval e X.env) :: starEach es X.env:=by rfl) (hplain:(backTo cpos (starEach es X.env)).any (·.1)=false:=by rfl):
  PE X (.Call (.Attribute o name apos) (e :: es) [] cpos) (tBM X.K T r to t):=by
 intro pins s σ H Q I h
 refine wpAny_Call_method_late hbase hfew hline rfl (thn (ho pins s σ H _ I h) fun v s1 ⟨x,H1,I1,r1,ty,q1⟩=> ?_)
 obtain ⟨h1,h2⟩:=Zl8 I1 r1 ty
 refine ⟨T,id,pa,slot,hty,h1,h2,?_⟩
 have hA:=ha cpos pins s1 σ H1 _ I1 q1
 rw[hs] at hA ⊢
 refine Calls.callWith_builtin (by show (false || (backTo cpos (starEach es X.env)).any (·.1))=false;rw[hplain]<;>rfl) (Calls.evalArgs_plain ?_)
 exact thn hA fun us s2 ⟨vs,H2,I2,r2,q2⟩=>hm pins s2 σ H2 x vs v us Q I2 r1 r2 q2
end
end L2
namespace L2
open PySem PySem.Spec PyProof.Rows
noncomputable def MtM (X:Cx) (id:String) (r:V->List V->Hp->VK->Prop):Prop:=
 ∀ (pins:List (Addr × Obj)) (s:Shared) (σ:St) (H:Hp) (x:V) (xs:List V) (v:Value) (us:List Value) (Q:VK),Inv X pins σ H s->ZS x v->ZW xs us->r x xs H Q->
  wpAny (model X.prog X.w) X.A (call (.builtin id) (v :: us)) (EP X pins σ Q) X.xe s
theorem ZW.one: ∀ {x:V} {us:List Value},ZW [x] us-> ∃ u,us=[u]/\ZS x u
 |_,_,.cons r .nil=>⟨_,rfl,r⟩
theorem ZW.reverse {xs:List V} {us:List Value} (h:ZW xs us):ZW xs.reverse us.reverse:=by
 induction h with
 |nil=>exact .nil
 |cons r t ih=>rw[List.reverse_cons,List.reverse_cons];exact ZW.append ih (.cons r .nil)
section
variable {X:Cx} {pins:List (Addr × Obj)} {σ:St} {H:Hp} {s:Shared} {l b:Addr} {xs ys zs:List V}
theorem Inv.lset {its its':List Value} {n:Nat} {f:Array Value->Array Value} {t':Nat} (I:Inv X pins σ H s) (hH:H l=some (.lst xs))
  (e:s.heap.get? l=some { cls:= .type "list",data:= .seq its.toArray n }) (hf:f its.toArray=its'.toArray) (hv:ZW ys its') (hz:ys.length<=sizeLine):
  Inv X pins σ (upd H l (.lst ys)) { s with heap:=s.heap.update l (Obj.mapSeq f),toks:=t' }:=by
 have q:=PySem.IsL.update e f
 rw[hf] at q
 refine I.write (x:=l) (e:=l) (by rw[hH];exact trivial) (.inl rfl) (fun b' u hb hu=>(Heap.get?_update_other s.heap (Obj.mapSeq f) (Ne.symm hb)).trans hu) ⟨_,q⟩ ?_
 exact ⟨hz,its',_,hv,q⟩
theorem Inv.lnew {its:List Value} {t':Nat} (I:Inv X pins σ H s) (hv:ZW ys its) (hz:ys.length<=sizeLine):
  Inv X pins σ (upd H s.heap.objs.size (.lst ys)) { s with heap:=s.heap.push { cls:= .type "list",data:= .seq its.toArray },toks:=t' }:=
 I.laid (fun _ _ q=>Heap.get?_push_of_some _ q) (Nat.le_refl _) ⟨hz,its,0,hv,Heap.get?_push_size _ rfl⟩
theorem Inv.fresh (I:Inv X pins σ H s):H s.heap.objs.size=none:=I.hok.fresh (Nat.le_refl _)
theorem Inv.lstM (I:Inv X pins σ H s) (hH:H l=some (.lst xs)):xs.length<=sizeLine/\ ∃ (its:List Value) (n:Nat),ZW xs its/\xs.length=its.length/\s.heap.get? l=some { cls:= .type "list",data:= .seq its.toArray n }:=by
 obtain ⟨z,its,n,r,e⟩:=I.hok l _ hH
 exact ⟨z,its,n,r,r.length,e⟩
theorem Ziu {n:Nat} (h:n<=sizeLine):Builtin.List.listTooLong n=false:=by
 unfold Builtin.List.listTooLong
 exact decide_eq_false (by omega)
end
section
variable {X:Cx}
noncomputable def rAppend:V->List V->Hp->VK->Prop:=fun x vs H Q=> ∃ l xs y,x= .ref l/\vs=[y]/\H l=some (.lst xs)/\xs.length < sizeLine/\Q .non (upd H l (.lst (xs ++ [y])))
theorem ZcM:MtM X "list.append" rAppend:=by
 intro pins s σ H x vs v us Q I rx rv h
 obtain ⟨l,xs,y,rfl,rfl,hH,hz,q⟩:=h
 cases rx
 obtain ⟨u,rfl,ru⟩:=rv.one
 obtain ⟨z,its,n,r,hl,e⟩:=I.lstM hH
 refine call_meets F.slot_list_append ⟨_,e,rfl⟩ F.entry_list_append (F.args_list_append_2 _ _) (PySem.list_append l its.toArray n u (by rw[List.size_toArray];omega)) ⟨e,?_⟩
 refine ⟨.non,_,I.lset (its':=its ++ [u]) hH e (by simp) (r.append (.cons ru .nil)) ?_,rfl,q⟩
 rw[List.length_append,List.length_singleton]
 omega
noncomputable def rExtend:V->List V->Hp->VK->Prop:=fun x vs H Q=> ∃ l b xs zs,x= .ref l/\vs=[.ref b]/\H l=some (.lst xs)/\H b=some (.lst zs)/\xs.length + zs.length<=sizeLine/\Q .non (upd H l (.lst (xs ++ zs)))
theorem ZgU:MtM X "list.extend" rExtend:=by
 intro pins s σ H x vs v us Q I rx rv h
 obtain ⟨l,b,xs,zs,rfl,rfl,hH,hB,hz,q⟩:=h
 cases rx
 obtain ⟨u,rfl,ru⟩:=rv.one
 cases ru
 obtain ⟨z,its,n,r,hl,e⟩:=I.lstM hH
 obtain ⟨z2,its2,n2,r2,hl2,e2⟩:=I.lstM hB
 have hsz:its.toArray.size + its2.toArray.size<=sizeLine:=by rw[List.size_toArray,List.size_toArray];omega
 have hlong: ¬ (!its.toArray.isEmpty && Builtin.List.listTooLong (its.toArray.size + its2.toArray.size))=true:=by
  rw[Ziu hsz,Bool.and_false]
  exact Bool.false_ne_true
 refine call_meets F.slot_list_extend ⟨_,e,rfl⟩ F.entry_list_extend (F.args_list_extend_2 _ _)
  (AutoSeq1.list_extend_list_list_0 l its.toArray n b its2.toArray n2 hlong (by rw[List.size_toArray];omega) (by omega)) ⟨e,e2,?_⟩
 refine ⟨.non,_,I.lset (its':=its ++ its2) hH e (by simp) (r.append r2) ?_,rfl,q⟩
 rw[List.length_append]
 omega
noncomputable def rCat:R2:=fun x y H Q=> ∃ l b xs zs,x= .ref l/\y= .ref b/\H l=some (.lst xs)/\H b=some (.lst zs)/\xs.length + zs.length<=sizeLine/\ ∀ p,H p=none->Q (.ref p) (upd H p (.lst (xs ++ zs)))
theorem Zl9:OpR X (binaryOp .Add) rCat:=by
 intro pins s σ H x y v u Q I rx ry h
 obtain ⟨l,b,xs,zs,rfl,rfl,hH,hB,hz,q⟩:=h
 cases rx
 cases ry
 obtain ⟨z,its,n,r,hl,e⟩:=I.lstM hH
 obtain ⟨z2,its2,n2,r2,hl2,e2⟩:=I.lstM hB
 refine PySem.P.add_list e e2 ?_ (by rw[List.size_toArray,List.size_toArray];omega)
 have ea:its.toArray ++ its2.toArray=(its ++ its2).toArray:=by simp
 rw[ea]
 exact ⟨.ref _,_,I.lnew (t':=s.toks) (r.append r2) (by rw[List.length_append];omega),rfl,q _ I.fresh⟩
end
section
variable {prog:Program} {w:World} {A:Around} {E:Value->Shared->Prop} {s:Shared}
end
section
variable {X:Cx}
end
end L2
namespace Att
open PySem PySem.W PySem.Calls PyProof.Rows
theorem ZcN {P:Params} {h:Heap}: ∀ (ns:List Int) (vs:List Value),WellAll P h vs (ns.map WData.int)->IntsAre vs ns:=by
 intro ns
 induction ns with
 |nil=>
  intro vs w
  rw[List.map_nil] at w
  cases w
  exact .nil
 |cons n ns ih=>
  intro vs w
  rw[List.map_cons] at w
  cases w with
  |cons a b=>
   cases a
   exact .cons _ _ (ih _ b)
theorem ZgV {l:OpenLaw} {n:Nat} (hn:l.most=some n) {P:Params} {h:Heap} {args:List WData} {vals:List Value}
  (hpre:l.row.toRowW.claim.pre args=true) (hwl:WellAll P h vals args):
  ∃ a vs ns,vals=[Value.ref a]/\args=[WData.list (ns.map WData.int)]/\h.get? a=some { cls:= .type "list",data:= .seq vs.toArray }/\IntsAre vs ns/\ns.length<=n:=by
 have hsh:WShape.hasAll [] args [.list .int]=true:=(pre_splitW hpre).1
 have hc:l.pre.holds [] { args:=args }=true:=(pre_splitW hpre).2
 obtain ⟨d,r,rfl,h1,h2⟩:=hasAllW_cons hsh
 obtain rfl:=hasAllW_nil h2
 obtain ⟨xs,rfl,h3⟩:=hasW_list h1
 obtain ⟨ns,rfl⟩:=items_int h3
 have hlen:ns.length<=n:=by
  unfold OpenLaw.pre at hc
  have h4:(WTm.not (.lt (.lit (.int (n:Int))) (.len (.arg 0)))).holds [] { args:=[.list (ns.map .int)] }=true:=by
   have h4:=(holds_andW hc).1
   rw[hn] at h4
   exact h4
  have h5:=condW_of h4 (w_not (w_lt w_lit (w_len_list (w_arg rfl))))
  rw[List.length_map] at h5
  refine Nat.le_of_not_lt fun q=> ?_
  have q':(n:Int) < ((ns.length:Nat):Int):=by omega
  first
   | (rw[decide_eq_true q'] at h5;exact absurd h5 (by decide))
   | (simp at h5;omega)
 cases hwl with
 |cons w1 w2=>
  cases w2
  cases w1 with
  |list ho hall=>exact ⟨_,_,ns,rfl,rfl,ho,ZcN ns _ hall,hlen⟩
theorem ZgW (l:OpenLaw) (args:List WData):l.row.toRowW.claim.post args (.bool true) args=true:=
 postW_of (r:=l.row.toRowW) (X:=(true == true))
  (show WShape.has [] (.bool true) .bool=true by first | rfl | decide | simp[WShape.has,WShape.arms,WShape.armsAll])
  (show (WTm.eq .res (.lit (.bool true))).value [] { args:=args,res:=some (.bool true),after:=args }=some (.bool (true == true)) from w_eq_bool (w_res rfl) w_lit) rfl
theorem ZeY {l:OpenLaw} {n:Nat} {q:Program} {loose:List Str} {XP:(Str->Option Value)->Heap->Prop} {YP:World->Heap->Prop} {d:DefRec}
  (hn:l.most=some n) (hdf:d.params.defaults=[])
  (call: ∀ (w:World) (s₀ s₁:Shared) (mg mb:Str->Option Value) (fa:Addr) (o:Obj) (pm cd doc:Value) (a:Addr) (vs:List Value) (ns:List Int),
   Ground q loose [] XP w s₀ mg mb s₁.heap->YP w s₁.heap->
   s₁.heap.get? fa=some o->o.data= .func (docDef d.name d.params d.body d.scope pm cd doc)->s₁.heap.CodeRec cd d.name->mg d.name=some (.ref fa)->
   s₁.heap.get? a=some { cls:= .type "list",data:= .seq vs.toArray }->IntsAre vs ns->ns.length<=n->s₁.gens= #[]->
   codeAny (model l.prog w) callerA (.call (.ref fa) ⟨[.ref a],[]⟩) (fun r s'=>r= .ok (.ret (.bool true))/\OldK s₁.heap s'.heap/\s'.os=s₁.os/\AllBare s'.gens) s₁):
  WalkO q loose XP YP l.row.toRowW d [] (fun f vs=>PySem.call f vs):=by
 intro w s₀ s₁ mg mb G Y fa o pm cd doc dV kV ho hd hcd hD hmg hg args vals as hpre hlay hrd hwl hlo
 obtain rfl:dV= .none:=Dflts.none hD hdf
 obtain rfl:kV= .none:=Dflts.noKw hD
 obtain ⟨a,vs,ns,rfl,rfl,hobj,hints,hlen⟩:=ZgV hn hpre hwl
 refine enter_call (codeAny_mono (call w s₀ s₁ mg mb fa o pm cd doc a vs ns G Y ho (fd_plain hd) hcd hmg hobj hints hlen hg) fun r s' hq=> ?_)
 obtain ⟨rfl,h2,h3,h4⟩:=hq
 exact ⟨.inl ⟨.bool true,.bool true,[],rfl,fun _=>rfl,.bool true,ZgW l _,fun _=>⟨List.Pairwise.nil,fun _ hm=>(nomatch hm)⟩⟩,h2,h3,h4⟩
section
variable {prog:Program} {w:World} {A:Around} {E:Value->Shared->Prop} {s:Shared} {K:Frag}
end
end Att
namespace L2
open PySem PySem.Spec PyProof.Rows
theorem Zeh: ∀ {vs:List Value} {ns:List Int},IntsAre vs ns->ZW (ns.map V.int) vs
 |_,_,.nil=> .nil
 |_,_,.cons n t h=> .cons ⟨t,rfl⟩ (Zeh h)
noncomputable def ZoH (H:Hp):Prop:= ∀ b,H b=none\/ ∃ o xs,H b=some (.frz o (.lst xs))
theorem Ziv {P:Program} {w:World} {K:PySem.W.Frag} {mg mb:Str->Option Value} {CX:CXT} {k:Nat} {fa a:Addr} {fd:FuncData} {x:Str} {sp:Sp} {s₁:Shared} {vs:List Value} {ns:List Int}
  (KX:K.In s₁.heap) (hns:s₁.heap.Ns mainGlobals mg) (hb:s₁.heap.Ns builtinsNs mb) (hbb: ∀ x:Str,x≠"__name__"->mb x=bootBuiltins x) (hlim:s₁.heap.NoLimit) (hg:s₁.gens= #[])
  (ha:s₁.heap.get? a=some { cls:= .type "list",data:= .seq vs.toArray }) (hi:IntsAre vs ns) (hl:ns.length<=sizeLine) (hr:Room k callerA)
  (F: ∀ base:Heap,K.In base->base.Ns mainGlobals mg->FnOk P w K mg base CX k fa fd [x] sp) (hbind: ∀ (s:Shared) (u:Value),BindsTo s fd ⟨[u],[]⟩ [(x,u)])
  (hsp: ∀ H:Hp,ZoH H->SqL K H a (ns.map V.int)->sp [.ref a] H (fun v _=>v= .bl true) fun _ _ _=>False)
  (hCX: ∀ H e s',CX [] H s₁ (fun _ _ _=>False) e s'->False):
  codeAny (model P w) callerA (.call (.ref fa) ⟨[.ref a],[]⟩) (fun r s'=>r= .ok (.ret (.bool true))/\OldK s₁.heap s'.heap/\s'.os=s₁.os/\AllBare s'.gens) s₁:=by
 have rv:=Zeh hi
 have lenV:=hi.length
 have core: ∀ H:Hp,ZoH H->SqL K H a (ns.map V.int)->HOk P w H s₁.heap->(∀ b,H b≠none->b=a)->(H a≠none->K.lookup a=none)->
   codeAny (model P w) callerA (.call (.ref fa) ⟨[.ref a],[]⟩) (fun r s'=>r= .ok (.ret (.bool true))/\OldK s₁.heap s'.heap/\s'.os=s₁.os/\AllBare s'.gens) s₁:=by
  intro H hO hS hok hA hK
  have base_of: ∀ {b:Addr} {o:Obj},s₁.heap.get? b=some o->H b=none->(Zid s₁.heap H).get? b=some o:=fun e n=>Zfx e n
  have noA: ∀ {b:Addr} {o:Obj} {es:Array DictEntry} {ep:Nat},s₁.heap.get? b=some o->o.data= .dict es ep->H b=none:=fun {b o es ep} e d=>by
   cases q:H b with
   |none=>rfl
   |some u=>
    have e':b=a:=hA b (by rw[q];simp)
    subst e'
    rw[ha] at e;cases e
    have d':Data.seq vs.toArray _=Data.dict es ep:=d
    cases d'
  have nsK: ∀ {b:Addr} {m:Str->Option Value},s₁.heap.Ns b m->(Zid s₁.heap H).Ns b m:=fun {b m} ⟨o,es,ep,e,d,r⟩=>⟨o,es,ep,base_of e (noA e d),d,r⟩
  have hKb:K.In (Zid s₁.heap H):=fun b o e=>base_of (KX b o e) (by
   cases q:H b with
   |none=>rfl
   |some u=>
    have e':b=a:=hA b (by rw[q];simp)
    subst e'
    rw[hK (by rw[q];simp)] at e;cases e)
  have hM:Mod K mg (Zid s₁.heap H):=⟨hKb,nsK hns,⟨mb,nsK hb,hbb⟩,let ⟨mc,h1,h2⟩:=hlim;⟨mc,nsK h1,h2⟩⟩
  have e0:Env0 P w K mg (Zid s₁.heap H) callerA [] s₁ H:=⟨rfl,hM,fun b o e=>ZgE e,Nat.le_of_eq (ZgD _ _),trivial,fun b hb=>absurd (show b∈([]:List Addr) from hb) (by simp),hok,.of_eq hg,.inl rfl⟩
  refine codeAny_mono ((F _ hKb (nsK hns)).run callerA [] s₁ H ⟨[.ref a],[]⟩ [.ref a] [.ref a] _ _ hr e0 (hbind s₁ (.ref a)) (.cons rfl .nil) (hsp H hO hS)) fun r s' h=> ?_
  cases r with
  |error e=>exact (hCX H e s' h).elim
  |ok fl=>
   cases fl with
   |next=>exact False.elim h
   |brk=>exact False.elim h
   |cont=>exact False.elim h
   |ret u=>
    obtain ⟨v,H',os,bare,un,hok',r',q⟩:=h
    have q':v= .bl true:=q
    subst q'
    obtain rfl:u=Value.bool true:=r'
    refine ⟨rfl,OldK.of_keep fun b o e=> ?_,os,bare⟩
    cases q:H b with
    |none=>exact un.keep b o e q (by intro z;exact absurd (show b∈([]:List Addr) from z) (by simp)) (by simp)
    |some u=>
     rcases hO b with z | ⟨ob,xs,z⟩
     ·rw[q] at z;cases z
     ·have z2:=un.frzs b ob _ z
      obtain ⟨e1,_⟩:=hok b _ z
      obtain ⟨e2,_⟩:=hok' b _ z2
      rw[e] at e1;cases e1
      exact e2
 cases hk:K.lookup a with
 |some o=>
  have e:=KX a o hk
  rw[ha] at e
  cases e
  refine core (fun _=>none) (fun _=> .inl rfl) (.inr ⟨_,vs.toArray,_,hk,rfl,rfl,rfl,by rw[List.size_toArray,lenV];exact hl,by simpa using rv⟩) (fun b u z=>by have z':(none:Option HO)=some u:=z;cases z') (fun b z=>absurd rfl z) fun z=>absurd rfl z
 |none=>
  refine core (fun b=>if b=a then some (.frz { cls:= .type "list",data:= .seq vs.toArray } (.lst (ns.map V.int))) else none) (fun b=> ?_) (.inl (.inr ⟨{ cls:= .type "list",data:= .seq vs.toArray },if_pos rfl⟩)) (fun b u z=> ?_) (fun b z=> ?_) fun _=>hk
  ·by_cases hb:b=a
   ·exact .inr ⟨_,_,if_pos hb⟩
   ·exact .inl (if_neg hb)
  ·by_cases hb:b=a
   ·have z':=(if_pos hb).symm.trans z
    cases z'
    subst hb
    exact ⟨ha,by rw[List.length_map];exact hl,vs,_,rv,ha⟩
   ·have z':=(if_neg hb).symm.trans z
    cases z'
  ·by_cases hb:b=a
   ·exact hb
   ·exact absurd (if_neg hb) z
end L2
namespace L2
open PySem PySem.Spec PyProof.Rows
theorem Zki {l:PySem.W.OpenLaw} {n k:Nat} {q:Program} {loose:List Str} {XP:(Str->Option Value)->Heap->Prop} {YP:World->Heap->Prop} {d:DefRec} {K:Params->PySem.W.Frag} {CX:World->CXT} {sp:World->Sp} {x:Str}
  (hn:l.most=some n) (hn2:n<=sizeLine) (hdf:d.params.defaults=[]) (hr:Room k callerA)
  (hY: ∀ (w:World) (h:Heap),YP w h->(K w.params).In h)
  (F: ∀ (w:World) (mg:Str->Option Value) (fa:Addr) (h:Heap),(K w.params).In h->h.Ns mainGlobals mg->mg d.name=some (.ref fa)->
   ∃ fd:FuncData,(∀ (s:Shared) (u:Value),BindsTo s fd ⟨[u],[]⟩ [(x,u)])/\
    ∀ base:Heap,(K w.params).In base->base.Ns mainGlobals mg->FnOk l.prog w (K w.params) mg base (CX w) k fa fd [x] (sp w))
  (hsp: ∀ (w:World) (H:Hp) (a:Addr) (ns:List Int),ns.length<=n->ZoH H->SqL (K w.params) H a (ns.map V.int)->sp w [.ref a] H (fun v _=>v= .bl true) fun _ _ _=>False)
  (hCX: ∀ (w:World) (H:Hp) (s:Shared) (e:Value) (s':Shared),CX w [] H s (fun _ _ _=>False) e s'->False):
  PySem.W.WalkO q loose XP YP l.row.toRowW d [] (fun f vs=>PySem.call f vs):=by
 refine Att.ZeY hn hdf fun w s₀ s₁ mg mb fa o pm cd doc a vs ns G Y ho hd hcd hmg hobj hints hlen hg=> ?_
 have KX:=hY w _ Y
 obtain ⟨fd,hb,hF⟩:=F w mg fa _ KX G.T.g hmg
 exact Ziv KX G.T.g G.T.b G.T.builtins G.T.nolimit hg hobj hints (Nat.le_trans hlen hn2) hr hF hb (fun H hO hS=>hsp w H a ns hlen hO hS) fun H e s'=>hCX w H s₁ e s'
end L2
namespace L2
open PySem PySem.Spec PyProof.Rows
noncomputable def Zx (s:Stmt):Arguments:=match s with
 | .FunctionDef _ a _ _ _ _ _ _ _ _=>a
 |_=>{ posonlyargs:=[],args:=[],vararg:=none,kwonlyargs:=[],kw_defaults:=[],kwarg:=none,defaults:=[] }
noncomputable def Zv (s:Stmt):List Stmt:=match s with
 | .FunctionDef _ _ b _ _ _ _ _ _ _=>b
 |_=>[]
noncomputable def Zi (s:Stmt):Scope:=match s with
 | .FunctionDef _ _ _ _ _ _ sc _ _ _=>sc
 |_=>{ kind:= .function,names:=[],isGenerator:=false,isCoroutine:=false }
noncomputable abbrev E0:XK:=fun _ _ _=>False
structure Fun (K:PySem.W.Frag) (x qual:Str) (st:Stmt) (f:Addr) (fd:FuncData):Prop where
 ex: ∃ (oc:Value) (od:Option Addr) (kV doc pm:Value) (an:Option Addr) (cdv ct:Value) (osl:Array (Option Value)),
  fd=PySem.W.fnOf x qual (Zx st) (Zv st) (Zi st) .none kV doc pm an cdv ct/\K.lookup f=some ⟨oc,od,.func fd,osl⟩/\PySem.W.codeIn K cdv qual=true
 kp:PySem.W.keepIn K (.ref f)=true
section
variable {P:Program} {w:World} {K:PySem.W.Frag} {mg:Str->Option Value} {base:Heap}
theorem Fun.binds {x qual:Str} {st:Stmt} {f:Addr} {fd:FuncData} {ps:List Str} (F:Fun K x qual st f fd)
  (h: ∀ (kV doc pm:Value) (an:Option Addr) (cdv ct:Value) (us:List Value),us.length=ps.length->bindArgs (PySem.W.fnOf x qual (Zx st) (Zv st) (Zi st) .none kV doc pm an cdv ct) ⟨us,[]⟩=pure (ps.zip us)):ZeX K fd ps []:=by
 obtain ⟨oc,od,kV,doc,pm,an,cdv,ct,osl,rfl,lk,hcd⟩:=F.ex
 exact .all (h kV doc pm an cdv ct)
theorem ZM {x qual:Str} {st:Stmt} {f:Addr} {oc:Value} {od an:Option Addr} {osl:Array (Option Value)} {kV doc pm cdv ct:Value} (l:K.lookup f=some ⟨oc,od,.func (PySem.W.fnOf x qual (Zx st) (Zv st) (Zi st) .none kV doc pm an cdv ct),osl⟩)
  (c:PySem.W.codeIn K cdv qual=true) (k:PySem.W.keepIn K (.ref f)=true):Fun K x qual st f (PySem.W.fnOf x qual (Zx st) (Zv st) (Zi st) .none kV doc pm an cdv ct):=⟨⟨oc,od,kV,doc,pm,an,cdv,ct,osl,rfl,l,c⟩,k⟩
end
theorem ZgX {n:Nat} (h:n<=1000):n < sizeLine:=Nat.lt_of_le_of_lt h (by decide)
section
variable {X:Cx}
theorem pv (i:Nat) {x:Str} {pos:Pos} (hN:X.N[i]?=some x:=by rfl) (hv:Vis X.env.scope x:=by first | exact Or.inl rfl | exact Or.inr (Or.inl rfl) | exact Or.inr (Or.inr rfl)) (hd:(x == ("__debug__":Str))=false:=by decide)
  (hcd:(x == ("__classdict__":Str))=false:=by decide):PE X (.Name x pos) (Zq2 i):=Zjh hN hv hd hcd
end
theorem Zjm {A B:Prop} (h:B):if false=true then A else B:=by
 rw[if_neg Bool.false_ne_true]
 exact h
theorem Zjn {A B:Prop} (h:A):if true=true then A else B:=by
 rw[if_pos rfl]
 exact h
noncomputable def Zra (H H':Hp):Prop:= ∀ b o,H b=some o->H' b=some o
theorem Zra.free {H H':Hp} (e:Zra H H') {l:Addr} (h:H' l=Option.none):H l=Option.none:=by
 cases q:H l with
 |none=>rfl
 |some o=>
  rw[e l o q] at h
  cases h
end L2
end
section
namespace L2
open PySem PySem.Spec PyProof.Rows
end L2
namespace L2
open PySem PySem.Spec PyProof.Rows
section
variable (P:Program) (w:World)
end
section
variable {P:Program} {w:World} {H H':Hp} {h h':Heap} {a:Addr} {o:HO}
end
section
variable {P:Program} {w:World} {H:Hp} {h h':Heap} {x e:Addr} {o':HO}
end
section
variable {fs fs' ex ex':List Addr} {H H1 H2:Hp} {h h1 h2 h':Heap} {a x e:Addr} {o:HO}
end
end L2
namespace L2
open PySem PySem.Spec PyProof.Rows
section
variable {X:Cx} {pins:List (Addr × Obj)} {σ:List (Option V)} {H H':Hp} {s:Shared} {h':Heap}
end
end L2
namespace L2
open PySem PySem.Spec PyProof.Rows
section
variable {X:Cx}
variable {a b:Expr} {ta tb:TE} {pos:Pos}
variable {tA tB':TT} {rest:List Expr}
end
end L2
namespace L2
open PySem PySem.Spec PyProof.Rows
section
variable {X:Cx} {pins:List (Addr × Obj)} {σ:St} {H:Hp} {s:Shared} {a:Addr} {xs ys:List V}
end
section
variable {X:Cx} {pins:List (Addr × Obj)} {σ:St} {H:Hp} {s:Shared} {E:Value->Shared->Prop}
end
section
variable {X:Cx} {st:Stmt} {rest:List Stmt} {t u:TS} {e:Expr} {te:TE} {pos:Pos}
end
section
variable {X:Cx} {pos:Pos}
end
section
variable {X:Cx} {pos:Pos}
end
end L2
namespace L2
open PySem PySem.Spec PyProof.Rows
section
variable {X:Cx} {tg:Expr}
end
end L2
namespace L2
open PySem PySem.Spec PyProof.Rows
section
variable {X:Cx} {a b c:Expr} {ta tb tc:TE} {pos:Pos}
end
section
variable {X:Cx} {a b c:Expr} {ta tb tc:TE} {pos:Pos}
end
end L2
namespace L2
open PySem PySem.Spec PyProof.Rows
section
variable {prog:Program} {w:World} {A:Around} {E:Value->Shared->Prop} {s:Shared} {K:PySem.W.Frag} {x dx C f:Addr} {mA:Str->Option Value} {name:Str} {v:Value}
end
section
variable {P:Program} {w:World} {H H':Hp} {h h':Heap} {a C dx:Addr} {fs fs':List (Str × V)}
end
section
variable {X:Cx} {pins:List (Addr × Obj)} {σ:St} {H:Hp} {s:Shared} {a C dx:Addr} {fs:List (Str × V)} {f:Str} {v:V} {A:Around} {E:Value->Shared->Prop}
end
section
variable {X:Cx} {o e value:Expr} {f:Str} {pos pos' tpos:Pos} {ta tv:TE}
end
section
variable {X:Cx} {pins:List (Addr × Obj)} {σ:St} {H:Hp} {s:Shared} {A:Around} {E:Value->Shared->Prop} {Q:Value->Shared->Prop} {c:Value} {b:Bool}
end
end L2
namespace L2
open PySem PySem.Spec PyProof.Rows
section
variable {X:Cx} {e:Expr} {es:List Expr} {te:TE} {t:TA} {pos:Pos}
end
section
variable {X:Cx} {pins:List (Addr × Obj)} {σ:St} {H:Hp} {s s':Shared}
end
section
variable {X:Cx} {CX:CXT} {k:Nat} {f C:Addr} {fd:FuncData} {ps:List Str} {sp:Sp} {dvs:List V} {ds:List Value} {E:XK} {x m:Str} {p pos apos:Pos} {e o:Expr} {es:List Expr} {ta:TE} {t:TA}
end
section
variable {X:Cx} {CX:CXT} {k:Nat} {f C:Addr} {fd:FuncData} {ps ks:List Str} {sp:Sp} {E:XK} {x m:Str} {p pos apos kpos:Pos} {e o:Expr} {es:List Expr} {kws:List Keyword} {te ta:TE} {t tk:TA} {nm:Option Str}
variable {g:List Value->List Value->List Value} {gV:List V->List V->List V}
end
end L2
namespace L2
open PySem PySem.Spec PyProof.Rows
section
variable {X:Cx} {x:Str} {p pos:Pos} {e:Expr} {es:List Expr} {t:TA} {id T:String} {r:List V->Hp->VK->Prop}
end
end L2
namespace L2
open PySem PySem.Spec PyProof.Rows
section
variable {κ:Type} [DecidableEq κ]
noncomputable def Zd5 (kvs:List (κ × V)) (k:κ):Option V:=(kvs.find? fun kv=>decide (kv.1=k)).map (·.2)
noncomputable def ZgY (kvs:List (κ × V)) (k:κ) (v:V):List (κ × V):=
 if (kvs.any fun kv=>decide (kv.1=k))=true then kvs.map (fun kv=>if kv.1=k then (kv.1,v) else kv) else kvs ++ [(k,v)]
theorem ZcF {p:κ × V} {r:List (κ × V)} {k:κ} (e:p.1=k):Zd5 (p :: r) k=some p.2:=by simp[Zd5,List.find?_cons,e]
theorem ZcG {p:κ × V} {r:List (κ × V)} {k:κ} (e: ¬ p.1=k):Zd5 (p :: r) k=Zd5 r k:=by simp[Zd5,List.find?_cons,e]
theorem ZdF (k:κ): ∀ kvs:List (κ × V),(kvs.any fun kv=>decide (kv.1=k))=(Zd5 kvs k).isSome
 | []=>rfl
 |p :: r=>by
  rw[List.any_cons]
  by_cases e:p.1=k
  ·simp only[ZcF e,decide_eq_true e,Bool.true_or,Option.isSome_some]
  ·rw[ZcG e,decide_eq_false e,Bool.false_or];exact ZdF k r
theorem ZeZ (kvs:List (κ × V)) (k:κ) (v:V):(ZgY kvs k v).length<=kvs.length + 1:=by
 unfold ZgY
 split
 ·rw[List.length_map];omega
 ·rw[List.length_append,List.length_cons,List.length_nil];omega
theorem ZlE.isSome_eq {o:Option V} {u:Option Value} (r:ZlE o u):o.isSome=u.isSome:=by
 cases o with
 |none=>cases u with
  |none=>rfl
  |some _=>exact (show False from r).elim
 |some _=>cases u with
  |none=>exact (show False from r).elim
  |some _=>rfl
theorem KV.val {kvs:List (κ × V)} {vs:List (κ × Value)} (r:KV kvs vs) (k:κ):ZlE (Zd5 kvs k) (valueAt vs k):=by
 unfold KV at r
 induction r with
 |nil=>exact True.intro
 | @cons p q ps qs h t ih=>
  obtain ⟨h1,h2⟩:=h
  by_cases e:p.1=k
  ·have e':q.1=k:=h1.symm.trans e
   have b:valueAt (q :: qs) k=some q.2:=by simp[valueAt,List.find?_cons,e']
   rw[ZcF e,b];exact h2
  ·have e': ¬ q.1=k:=fun z=>e (h1.trans z)
   have b:valueAt (q :: qs) k=valueAt qs k:=by simp[valueAt,List.find?_cons,e']
   rw[ZcG e,b];exact ih
end
theorem Zma {P:Program} {w:World} {k:Key} {u:Value} (r:ZS (kV k) u):(ZaE P w).is k u=true:=by
 cases k with
 |inl i=>obtain ⟨t,e⟩:=(show ∃ t,u=Value.int i t from r);subst e;exact ZeU P w i t
 |inr x=>obtain ⟨t,e⟩:=(show ∃ t,u=Value.str x t from r);subst e;exact ZeV P w x t
theorem Zei {P:Program} {w:World}: ∀ {ks:List Key} {us:List Value},ZW (ks.map kV) us->ItemsAre (ZaE P w) ks us
 | [],_,r=>by rw[List.map_nil] at r;cases r;exact .nil
 |k :: ks,_,r=>by
  rw[List.map_cons] at r
  cases r with
  |cons h t=>exact .cons (Zma h) (Zei t)
noncomputable abbrev KT (H:Hp):List (List Key × V)->List (List Key × Addr × Value)->Prop:=Paired fun p q=>p.1=q.1/\H q.2.1=some (.tup (p.1.map kV))/\ZS p.2 q.2.2
theorem KT.val {H:Hp} {kvs:List (List Key × V)} {xs:List (List Key × Addr × Value)} (r:KT H kvs xs) (k:List Key):ZlE (Zd5 kvs k) ((atKey xs k).map (·.2)):=by
 induction r with
 |nil=>exact True.intro
 | @cons p q ps qs h t ih=>
  obtain ⟨h1,_,h2⟩:=h
  by_cases e:p.1=k
  ·have e':q.1=k:=h1.symm.trans e
   have b:atKey (q :: qs) k=some q.2:=by simp[atKey,List.find?_cons,e']
   rw[ZcF e,b];exact h2
  ·have e': ¬ q.1=k:=fun z=>e (h1.trans z)
   have b:atKey (q :: qs) k=atKey qs k:=by simp[atKey,List.find?_cons,e']
   rw[ZcG e,b];exact ih
theorem KT.repl {H:Hp} {kvs:List (List Key × V)} {xs:List (List Key × Addr × Value)} (r:KT H kvs xs) (k:List Key) {y:V} {u:Value} (ry:ZS y u):
  KT H (kvs.map fun kv=>if kv.1=k then (kv.1,y) else kv) (xs.map (putAt k u)):=by
 induction r with
 |nil=>exact .nil
 | @cons p q ps qs h t ih=>
  rw[List.map_cons,List.map_cons]
  refine .cons ?_ ih
  obtain ⟨h1,h2,h3⟩:=h
  unfold putAt
  by_cases e:p.1=k
  ·rw[if_pos e,if_pos (h1.symm.trans e)];exact ⟨h1,h2,ry⟩
  ·rw[if_neg e,if_neg (fun z=>e (h1.trans z))];exact ⟨h1,h2,h3⟩
theorem KT.put {H:Hp} {kvs:List (List Key × V)} {xs:List (List Key × Addr × Value)} (r:KT H kvs xs) (k:List Key) {b:Addr} {y:V} {u:Value} (hb:H b=some (.tup (k.map kV))) (ry:ZS y u):
  KT H (ZgY kvs k y) (storedH xs k b u):=by
 have e:(kvs.any fun kv=>decide (kv.1=k))=(atKey xs k).isSome:=by
  rw[ZdF,(r.val k).isSome_eq,Option.isSome_map]
 unfold ZgY storedH
 rw[e]
 by_cases q:(atKey xs k).isSome=true
 ·rw[if_pos q,if_pos q];exact r.repl k ry
 ·rw[if_neg q,if_neg q];exact Paired.snoc r ⟨rfl,hb,ry⟩
theorem KT.keeps {H H':Hp} {kvs:List (List Key × V)} {xs:List (List Key × Addr × Value)} (r:KT H kvs xs) (ht: ∀ b ys,H b=some (.tup ys)->H' b=some (.tup ys)):KT H' kvs xs:=
 Paired.mapP r fun _ _ z=>⟨z.1,ht _ _ z.2.1,z.2.2⟩
section
variable {P:Program} {w:World} {H:Hp} {h:Heap} {a:Addr}
theorem Zmb {u:HO} (ok:HOk P w H h) (e:Rd H a u):Za9 P w H h a u:=e.ok ok
theorem Zo8 {kvs:List (Key × V)} (ok:HOk P w H h) (e:Rd H a (.dK kvs)):kvs.length<=sizeLine/\(a == sysModules)=false/\ ∃ vs,KV kvs vs/\h.DictOf (ZaE P w) a vs:=
 show Za9 P w H h a (.dK kvs) from Zmb ok e
theorem ZgZ {ks:List Key} (ok:HOk P w H h) (e:H a=some (.tup (ks.map kV))):(tupleKind (ZaE P w)).is h ks a:=by
 obtain ⟨_,its,r,o,h1,h2,n,h3⟩:=(show Za9 P w H h a (.tup (ks.map kV)) from ok a _ e)
 exact ⟨o,its.toArray,n,h1,h2,h3,by simpa using Zei r⟩
theorem Zmc {kvs:List (List Key × V)} (ok:HOk P w H h) (e:Rd H a (.dT kvs)):kvs.length<=sizeLine/\(a == sysModules)=false/\
  ∃ xs,KT H kvs xs/\h.DictOfH (tupleKind (ZaE P w)) a xs:=by
 obtain ⟨z,y,xs,r,o,es,ep,h1,h2,h3,h4,h5⟩:=(show Za9 P w H h a (.dT kvs) from Zmb ok e)
 refine ⟨z,y,xs,r,o,es,ep,h1,h2,h3,h4,fun x hx=> ?_,h5⟩
 have all: ∀ {l:List (List Key × V)} {m:List (List Key × Addr × Value)},KT H l m-> ∀ x∈m,(tupleKind (ZaE P w)).is h x.1 x.2.1:=by
  intro l m q
  induction q with
  |nil=>intro x hx;exact nomatch hx
  | @cons p q ps qs hq t ih=>
   intro x hx
   rcases List.mem_cons.mp hx with e | hx
   ·subst e
    exact ZgZ ok (by rw[<- hq.1];exact hq.2.1)
   ·exact ih x hx
 exact all r x hx
theorem Ziw {kvs:List (List Key × V)} (ok:HOk P w H h) (e:H a=some (.dT kvs)):kvs.length<=sizeLine/\(a == sysModules)=false/\
  ∃ xs,KT H kvs xs/\h.DictOfH (tupleKind (ZaE P w)) a xs:=Zmc ok (.inl e)
end
noncomputable def Zix (H:Hp) (a:Addr) (y:V) (r:Option V):Prop:=
 (∃ kvs k,Rd H a (.dK kvs)/\y=kV k/\r=Zd5 kvs k)\/ ∃ kvs k b,Rd H a (.dT kvs)/\y= .ref b/\H b=some (.tup (k.map kV))/\r=Zd5 kvs k
theorem Zix.k {H:Hp} {a:Addr} {kvs:List (Key × V)} {k:Key} (e:H a=some (.dK kvs)):Zix H a (kV k) (Zd5 kvs k):= .inl ⟨kvs,k,.inl e,rfl,rfl⟩
theorem Zix.t {H:Hp} {a b:Addr} {kvs:List (List Key × V)} {k:List Key} (e:H a=some (.dT kvs)) (eb:H b=some (.tup (k.map kV))):Zix H a (.ref b) (Zd5 kvs k):= .inr ⟨kvs,k,b,.inl e,rfl,eb,rfl⟩
section
variable {X:Cx} {pins:List (Addr × Obj)} {σ:St} {H:Hp} {s:Shared} {a:Addr} {y v:V} {u r:Value} {o:Option V} {A:Around} {E:Value->Shared->Prop}
theorem Inv.big (I:Inv X pins σ H s):sysModules < s.heap.objs.size:=by
 have h:mainGlobals < s.heap.objs.size:=(I.mod.glob.keeps I.bk).lt
 exact Nat.lt_trans (by decide) h
theorem Zsm {Q:Value->Shared->Prop} (hu:A.units + 1 < cLine) (I:Inv X pins σ H s) (g:Zix H a y o) (ry:ZS y u) (h: ∀ s',Inv X pins σ H s'->Q (.bool o.isSome) s'):
  wpAny (model X.prog X.w) A (compareOp .In u (.ref a)) Q E s:=by
 rcases g with ⟨kvs,k,e,ey,l⟩ | ⟨kvs,k,b,e,ey,eb,l⟩
 ·subst ey
  obtain ⟨z,hd,vs,rel,dd⟩:=Zo8 I.hok e
  refine wpAny_in_of (Zma ry) hd dd.mapOf ?_
  rw[<- (rel.val k).isSome_eq,<- l]
  exact h _ (I.tok _)
 ·subst ey
  cases (show u=Value.ref b from ry)
  obtain ⟨z,hd,xs,rel,dd⟩:=Zmc I.hok e
  refine wpAny_in_heap (tupleKind_room_in1 hu) (ZgZ I.hok eb) hd dd ?_
  have q:=(rel.val k).isSome_eq
  rw[Option.isSome_map] at q
  rw[<- q,<- l]
  exact h _ (I.tok _)
theorem Zkj {h':Heap} {t':Nat} {ob:HO} (I:Inv X pins σ H s) (mu:Mut (H a)) (hs:Heap.SameBut a s.heap h') (he: ∃ q,h'.get? a=some q) (new:Za9 X.prog X.w (upd H a ob) h' a ob):
  Inv X pins σ (upd H a ob) { s with heap:=h',toks:=t' }:=
 I.write (x:=a) (e:=a) mu (.inl rfl) (fun b q hb z=>(hs.2 b hb).trans z) he new
end
section
variable {X:Cx} {pins:List (Addr × Obj)} {σ:St} {H:Hp} {s:Shared} {a:Addr} {kvs:List (Key × V)} {k:Key} {u:Value} {A:Around} {E:Value->Shared->Prop}
end
section
variable {X:Cx} {o i e value:Expr} {pos pos' tpos:Pos} {td ty tv:TE}
end
theorem Ziy {P:Program} {w:World} {H:Hp} (h:Heap) (hb:sysModules < h.objs.size):Za9 P w H (h.push { cls:= .type "dict",data:= .dict #[] }) h.objs.size (.dT []):=
 ⟨Nat.zero_le _,beq_eq_false_iff_ne.mpr (Ne.symm (Nat.ne_of_lt hb)),[],.nil,_,#[],0,Heap.get?_push_size _ rfl,⟨rfl,rfl,rfl⟩,rfl,rfl,List.nodup_nil⟩
section
variable {X:Cx} {pos:Pos}
end
structure M1 (X:Cx) (o:Expr) (m:Str) (apos:Pos) (e:Expr) (cpos:Pos):Prop where
 base:attributeBase o m X.env (eval o X.env)=eval o X.env
 few:((backTo cpos (starEach [e] X.env)).all (fun x=> !x.1) && (backToKw cpos (keywordEach [] X.env)).all (fun x=>x.1.isSome)
  && decide (([e]:List Expr).length + ([]:List Keyword).length + (if ([]:List Keyword).isEmpty then 0 else 1) < 30))=true
 line:(apos.endLine == cpos.line)=true
 trees:backTo cpos (starEach [e] X.env)=[(false,eval e X.env)]
structure M2 (X:Cx) (o:Expr) (m:Str) (apos:Pos) (e f:Expr) (cpos:Pos):Prop where
 base:attributeBase o m X.env (eval o X.env)=eval o X.env
 few:((backTo cpos (starEach [e,f] X.env)).all (fun x=> !x.1) && (backToKw cpos (keywordEach [] X.env)).all (fun x=>x.1.isSome)
  && decide (([e,f]:List Expr).length + ([]:List Keyword).length + (if ([]:List Keyword).isEmpty then 0 else 1) < 30))=true
 line:(apos.endLine == cpos.line)=true
 trees:backTo cpos (starEach [e,f] X.env)=[(false,eval e X.env),(false,eval f X.env)]
noncomputable def IsD (H:Hp) (a:Addr):Prop:=(∃ kvs,Rd H a (.dK kvs))\/ ∃ kvs,Rd H a (.dT kvs)
section
variable {X:Cx} {pins:List (Addr × Obj)} {σ:St} {H:Hp} {s:Shared} {a:Addr} {y d:V} {u r:Value} {o:Option V} {A:Around} {E:Value->Shared->Prop}
end
section
variable {X:Cx} {o e f:Expr} {apos cpos:Pos} {td ty tx:TE}
end
section
variable {X:Cx} {pins:List (Addr × Obj)} {σ:St} {H:Hp} {s:Shared} {a:Addr} {kvs:List (Key × V)} {A:Around} {E:Value->Shared->Prop}
end
section
variable {X:Cx} {pins:List (Addr × Obj)} {σ:St} {H:Hp} {s:Shared} {a:Addr} {y:V} {u:Value} {A:Around} {E:Value->Shared->Prop}
end
end L2
namespace Att
open PySem PySem.W PySem.Calls PyProof.Rows
section
variable {prog:Program} {w:World} {A:Around} {E:Value->Shared->Prop} {s:Shared} {K:Frag}
end
end Att
namespace L2
open PySem PySem.Spec PyProof.Rows
end L2
namespace L2
open PySem PySem.Spec PyProof.Rows
end L2
namespace L2
open PySem PySem.Spec PyProof.Rows
section
variable {P:Program} {w:World} {K:PySem.W.Frag} {mg:Str->Option Value} {base:Heap}
end
section
variable {X:Cx}
end
section
variable {κ:Type} [DecidableEq κ]
end
end L2
end
section
namespace DQ
open PySem PySem.Spec PyProof.Rows
structure Fly (B:Heap) (l:List Env) (e:Addr) (cls:Value) (dct:Option Addr) (fl:Value) (h:Heap):Prop where
 stay:B.StaysIn h
 new:B.get? e=none
 frames:h.FunFrames B l
 obj: ∃ oe vs T oT ts,h.get? e=some oe/\oe.cls=cls/\oe.dict=dct/\oe.data= .fields vs/\vs[2]?=some .none/\vs[1]?=some (.ref T)/\B.get? T=none/\T≠e/\h.get? T=some oT/\oT.data= .fields ts/\ts[3]?=some fl
theorem Fly.tail {B:Heap} {env:Env} {l:List Env} {e:Addr} {cls:Value} {dct:Option Addr} {fl:Value} {h:Heap} (f:Fly B (env :: l) e cls dct fl h):Fly B l e cls dct fl h:=⟨f.stay,f.new,f.frames.2.2,f.obj⟩
section
variable {M:Model} {A:Around} {E:Value->Shared->Prop} {s:Shared} {B:Heap} {env:Env} {outer l:List Env} {L e:Addr} {cls:Value} {dct:Option Addr} {fl:Value}
theorem apart {h:Heap} {oe:Obj} {vs:Array Value} (hl:h.FunFrames B l) (he:h.get? e=some oe) (hd:oe.data= .fields vs):e ∉ l.filterMap (·.frame):=fun z=>by
 obtain ⟨_,o,h1,h2⟩:=hl.mem z
 rw[he] at h1
 cases h1
 exact h2 vs hd
theorem Zej {oe:Obj} {vs:Array Value} {head:Value} {hn:Bool} {Q:Unit->Shared->Prop} (hfr:A.frames=some (env :: outer)) (hl:s.heap.FunFrames B (env :: outer)) (hf:env.frame=some L)
  (he:s.heap.get? e=some oe) (hs:B.StaysIn s.heap) (hb:B.get? e=none) (hd:oe.data= .fields vs) (hz:2 < vs.size) (h2:vs[2]?=some .none)
  (h: ∀ h',Fly B (env :: outer) e oe.cls oe.dict (rawInt L) h'->s.heap.UpToSlots h'->Q () { s with heap:=h' }):
  wpAny M A (frameOf env >>= fun a=>entryPlaceOf L hn >>= fun pl=>EntryCells.newEntry head a .none (rawInt L) .none pl >>= fun b=>setField (.ref e) 1 b) Q E s:=by
 have ne:=apart hl he hd
 refine wpAny_bind (wpAny_frameOf_fun hfr hl hf fun h1 k1=>wpAny_bind (wpAny_entryPlaceOf fun pl hpl=>wpAny_bind ?_))
 unfold EntryCells.newEntry newFields
 refine wpAny_newObj_type ?_ (hpl.sizeOk5 _ _ _ _ _)
 generalize hT:([head,Value.ref L,Value.none,rawInt L,Value.none] ++ (if pl.isEmpty then List.replicate 6 Value.none else pl)).toArray=ts
 have h3:ts[3]?=some (rawInt L):=by
  rw[<- hT]
  rcases hpl with rfl | ⟨_,_,_,_,_,_,_,rfl⟩<;>simp
 have e1:h1.get? e=some oe:=(k1.2.1 e ne).trans he
 have s1:B.StaysIn h1:=fun b o hbo=>(k1.2.1 b fun z=>by rw[(hl.mem z).1] at hbo;cases hbo).trans (hs b o hbo)
 generalize hoT:({ cls:= .type "traceback",dict:=none,data:= .fields ts }:Obj)=oT
 have dT:oT.data= .fields ts:=by rw[<- hoT]
 have fT:oT.isFreed=false:=Obj.isFreed_of_fields dT
 have e2:(h1.push oT).get? e=some oe:=Heap.get?_push_of_some _ e1
 have nT:h1.objs.size≠e:=Nat.ne_of_gt (Heap.lt_size e1)
 refine wpAny_setField e2 hd (Nat.lt_trans (by decide) hz) (h _ ?_ ?_)
 ·have d3:=Obj.data_mapFields hd (·.setIfInBounds 1 (Value.ref h1.objs.size))
  have e3:=Heap.get?_update_self (Obj.mapFields (·.setIfInBounds 1 (Value.ref h1.objs.size))) e2 (Obj.isFreed_of_fields d3)
  have keep: ∀ b o,b≠e->h1.get? b=some o->((h1.push oT).update e (Obj.mapFields (·.setIfInBounds 1 (Value.ref h1.objs.size)))).get? b=some o:=fun b o hbe x=>by
   rw[Heap.get?_update_other _ _ (Ne.symm hbe)]
   exact Heap.get?_push_of_some _ x
  have gT:(h1.push oT).get? h1.objs.size=some oT:=Heap.get?_push_size _ fT
  refine ⟨fun b o x=>keep b o (fun z=>by rw[z,hb] at x;cases x) (s1 b o x),hb,hl.of_keeps fun b o x y=> ?_,_,_,h1.objs.size,oT,ts,e3,Obj.cls_mapFields _ _,?_,d3,?_,?_,s1.fresh,nT,?_,dT,h3⟩
  ·obtain ⟨sl,z⟩:=k1.2.2 b o x
   exact ⟨_,keep b _ (fun w=>y vs (by rw[w,he] at x;cases x;exact hd)) z,rfl⟩
  ·obtain ⟨c,d,dd,sl⟩:=oe
   cases hd
   rfl
  ·rw[Array.getElem?_setIfInBounds_ne (by decide)]
   exact h2
  ·rw[Array.getElem?_setIfInBounds_self_of_lt (Nat.lt_trans (by decide) hz)]
  ·rw[Heap.get?_update_other _ _ (Ne.symm nT)]
   exact gT
 ·intro b o x y
  obtain ⟨sl,z⟩:=k1.2.2 b o x
  refine ⟨sl,?_⟩
  rw[Heap.get?_update_other _ _ (fun w=>y vs (by rw[<- w,he] at x;cases x;exact hd))]
  exact Heap.get?_push_of_some _ z
theorem ZfE {Q:Unit->Shared->Prop} (f:Fly B l e cls dct fl s.heap) (h: ∀ h',Fly B l e cls dct .none h'->s.heap.UpToSlots h'->Q () { s with heap:=h' }):wpAny M A (setFlight (.ref e) none) Q E s:=by
 obtain ⟨st,nw,fr,oe,vs,T,oT,ts,g1,g2,g3,g4,g5,g6,g7,g8,g9,g10,g11⟩:=f
 have hz:3 < ts.size:=(Array.getElem?_eq_some_iff.mp g11).1
 unfold setFlight
 refine wpAny_bind (wpAny_field g1 g4 g6 ?_)
 rw[if_pos (by simp)]
 have oth: ∀ b o,b≠T->s.heap.get? b=some o->(s.heap.update T (Obj.mapFields (·.setIfInBounds 3 Value.none))).get? b=some o:=fun b o hb x=>by
  rw[Heap.get?_update_other _ _ (Ne.symm hb)]
  exact x
 have nr: ∀ b o,s.heap.get? b=some o->(∀ vs,o.data≠ .fields vs)->b≠T:=fun b o x y z=>by
  rw[z,g9] at x
  cases x
  exact y ts g10
 refine wpAny_setField g9 g10 hz (h _ ⟨fun b o x=>oth b o (fun z=>by rw[z,g7] at x;cases x) (st b o x),nw,fr.of_keeps fun b o x y=>⟨o,oth b o (nr b o x y) x,rfl⟩,?_⟩ fun b o x y=>⟨o.slots,oth b o (nr b o x y) x⟩)
 exact ⟨oe,vs,T,_,_,oth e oe (Ne.symm g8) g1,g2,g3,g4,g5,g6,g7,g8,Heap.get?_update_self _ g9 (Obj.isFreed_of_fields (Obj.data_mapFields g10 _)),Obj.data_mapFields g10 _,by rw[Array.getElem?_setIfInBounds_self_of_lt hz];rfl⟩
theorem Ziz {Q:Unit->Shared->Prop} (hfr:A.frames=some (env :: outer)) (hf:env.frame=some L) (f:Fly B (env :: outer) e cls dct .none s.heap)
  (h: ∀ h',Fly B (env :: outer) e cls dct (rawInt L) h'->s.heap.UpToSlots h'->Q () { s with heap:=h' }):wpAny M A (noteFrame (.ref e) env) Q E s:=by
 obtain ⟨st,nw,fr,oe,vs,T,oT,ts,g1,g2,g3,g4,g5,g6,g7,g8,g9,g10,g11⟩:=f
 unfold noteFrame
 simp only[hf]
 refine wpAny_bind (wpAny_field g1 g4 g6 ?_)
 rw[if_pos (by simp)]
 refine wpAny_bind (wpAny_field g9 g10 g11 ?_)
 rw[if_neg (by simp[rawInt])]
 have oth: ∀ b o,b≠T->s.heap.get? b=some o->(s.heap.update T (Obj.mapFields (·.setIfInBounds 3 Value.none))).get? b=some o:=fun b o hb x=>by
  rw[Heap.get?_update_other _ _ (Ne.symm hb)]
  exact x
 have nr: ∀ b o,s.heap.get? b=some o->(∀ vs,o.data≠ .fields vs)->b≠T:=fun b o x y z=>by
  rw[z,g9] at x
  cases x
  exact y ts g10
 refine wpAny_bind (wpAny_setField g9 g10 (Array.getElem?_eq_some_iff.mp g11).1 ?_)
 refine Zej hfr (fr.of_keeps fun b o x y=>⟨o,oth b o (nr b o x y) x,rfl⟩) hf (oth e oe (Ne.symm g8) g1) (fun b o x=>oth b o (fun z=>by rw[z,g7] at x;cases x) (st b o x)) nw g4 (Array.getElem?_eq_some_iff.mp g5).1 g5 fun h' k1 k2=>h h' (g2 ▸ g3 ▸ k1) ?_
 intro b o x y
 exact k2 b o (oth b o (nr b o x y) x) y
theorem Zg0 {Q:Unit->Shared->Prop} (hfr:A.frames=some (env :: outer)) (hf:env.frame=some L) (f:Fly B (env :: outer) e cls dct .none s.heap)
  (h: ∀ h',Fly B outer e cls dct .none h'->s.heap.UpToSlots h'->Q () { s with heap:=h' }):wpAny M A (leaving env (.ref e)) Q E s:=by
 unfold leaving
 refine wpAny_bind (Ziz hfr hf f fun h1 k1 u1=> ?_)
 exact ZfE (s:={ s with heap:=h1 }) k1 fun h2 k2 u2=>h h2 k2.tail (u1.trans u2)
theorem Zg1 {oe:Obj} {vs:Array Value} {Q:Unit->Shared->Prop} (hfr:A.frames=some (env :: outer)) (hf:env.frame=some L) (hl:s.heap.FunFrames B (env :: outer)) (he:s.heap.get? e=some oe) (hs:B.StaysIn s.heap) (hb:B.get? e=none) (hd:oe.data= .fields vs) (h1:vs[1]?=some .none) (h2:vs[2]?=some .none)
  (h: ∀ h',Fly B outer e oe.cls oe.dict .none h'->s.heap.UpToSlots h'->Q () { s with heap:=h' }):wpAny M A (leaving env (.ref e)) Q E s:=by
 unfold leaving noteFrame
 simp only[hf]
 refine wpAny_bind (wpAny_bind (wpAny_field he hd h1 ?_))
 rw[if_neg (by decide)]
 refine Zej hfr hl hf he hs hb hd (Array.getElem?_eq_some_iff.mp h2).1 h2 fun h' k1 u1=> ?_
 exact ZfE (s:={ s with heap:=h' }) k1 fun h2 k2 u2=>h h2 k2.tail (u1.trans u2)
end
end DQ
end
section
namespace DQ
open PySem PySem.Spec PyProof.Rows
open PySem.W (Looks findIn mroIn specialIn takesIn clsIn looks_findIn looks_mroIn looks_find findObj KitX)
structure ExcC (K:PySem.W.Frag) (C:Addr):Prop where
 ga:findIn K (.ref C) "__getattribute__"=some (some (.builtin "BaseException.__getattribute__"))
 gt:findIn K (.ref C) "__getattr__"=some none
 cl:findIn K (.ref C) "__class__"=some (some (.builtin "object.__class__"))
 gs:specialIn K (.builtin "object.__class__") "__get__"=some (some (.builtin "getset_descriptor.__get__"))
 tk:takesIn K (.builtin "object.__class__")=some true
 bx:mroIn K C (.type "BaseException")=some true
 ob:mroIn K C (.type "object")=some true
 is:(clsIn K C).isSome=true
section
variable {prog:Program} {w:World} {A:Around} {E:Value->Shared->Prop} {s:Shared} {K:PySem.W.Frag} {e C:Addr} {oe:Obj} {od:Option Obj}
end
end DQ
end
section
namespace DL
open PySem PySem.Spec PyProof.Rows L2
inductive D where
 |non
 |bl (b:Bool)
 |int (i:Int)
 |str (x:Str)
 |tup (xs:List D)
 |rol (xs:List D)
 |ref (n:Nat)
 |err (c:Str) (xs:List D)
 |dk (n:Nat)
 |dt (n:Nat)
inductive SO where
 |lst (xs:List D)
noncomputable abbrev Sto:=List SO
noncomputable abbrev Ro:=List (Option D)
noncomputable def SqF (K:PySem.W.Frag) (H:Hp) (a:Addr) (xs:List V):Prop:=
 (∃ o,H a=some (.frz o (.lst xs)))\/ ∃ (o:Obj) (its:Array Value) (n:Nat),K.lookup a=some o/\o.cls= .type "list"/\o.dict=none/\o.data= .seq its n/\its.size<=sizeLine/\ZW xs its.toList
theorem SqF.sq {K:PySem.W.Frag} {H:Hp} {a:Addr} {xs:List V} (h:SqF K H a xs):SqL K H a xs:=by
 rcases h with ⟨o,h⟩ | h
 ·exact .inl (.inr ⟨o,h⟩)
 ·exact .inr h
noncomputable def EOk (H:Hp) (p C:Addr) (xs:List V):Prop:= ∃ oe u vs,H p=some (.frz oe u)/\oe.cls= .ref C/\oe.data= .fields vs/\vs[2]?=some .none/\((xs=[]/\oe.dict=none)\/ ∃ dx fs,oe.dict=some dx/\H dx=some (.xd fs)/\fs.map (·.2)=xs)
noncomputable def Kn (H:Hp) (p:Addr):Option Nat:=match H p with | some (.lst _)=>some 0 | some (.dK _)=>some 1 | some (.dT _)=>some 2 | _=>none
structure RefK (H:Hp) (α:List Addr) (j n:Nat) (p:Addr):Prop where
 at':α[n]?=some p
 kn:Kn H p=some j
theorem Kn.lst {H:Hp} {p:Addr} {xs:List V} (h:H p=some (.lst xs)):Kn H p=some 0:=by unfold Kn;rw[h]
theorem Kn.ne {H:Hp} {p q:Addr} {j:Nat} {o:HO} (h:Kn H p=some j) (hq:H q=none):Kn (upd H q o) p=some j:=by
 have:p≠q:=by
  intro z
  unfold Kn at h
  rw[z,hq] at h
  cases h
 unfold Kn
 rw[ZI this]
 exact h
mutual
inductive Rep (K:PySem.W.Frag) (H:Hp) (α:List Addr):V->D->Prop where
 |non:Rep K H α .non .non
 |bl (b:Bool):Rep K H α (.bl b) (.bl b)
 |int (i:Int):Rep K H α (.int i) (.int i)
 |str (x:Str):Rep K H α (.str x) (.str x)
 |tup {p:Addr} {xs:List V} {ds:List D}:H p=some (.tup xs)->Reps K H α xs ds->Rep K H α (.ref p) (.tup ds)
 |rol {p:Addr} {xs:List V} {ds:List D}:SqF K H p xs->Reps K H α xs ds->Rep K H α (.ref p) (.rol ds)
 |ref {p:Addr} {n:Nat}:RefK H α 0 n p->Rep K H α (.ref p) (.ref n)
 |dk {p:Addr} {n:Nat}:RefK H α 1 n p->Rep K H α (.ref p) (.dk n)
 |dt {p:Addr} {n:Nat}:RefK H α 2 n p->Rep K H α (.ref p) (.dt n)
 |err {p C:Addr} {c:Str} {xs:List V} {ds:List D}:PySem.W.nsIn K mainGlobals c=some (some (.ref C))->EOk H p C xs->Reps K H α xs ds->Rep K H α (.ref p) (.err c ds)
inductive Reps (K:PySem.W.Frag) (H:Hp) (α:List Addr):List V->List D->Prop where
 |nil:Reps K H α [] []
 |cons {v:V} {d:D} {vs:List V} {ds:List D}:Rep K H α v d->Reps K H α vs ds->Reps K H α (v :: vs) (d :: ds)
end
structure Ext (K:PySem.W.Frag) (H H':Hp) (α α':List Addr):Prop where
 tup: ∀ p xs,H p=some (.tup xs)->H' p=some (.tup xs)
 rol: ∀ p xs,SqF K H p xs->SqF K H' p xs
 err: ∀ p C xs,EOk H p C xs->EOk H' p C xs
 kn: ∀ p j,Kn H p=some j->Kn H' p=some j
 al: ∃ β,α'=α ++ β
section
variable {K:PySem.W.Frag} {H H1 H2 H':Hp} {α α1 α2 α':List Addr}
theorem Ext.refl:Ext K H H α α:=⟨fun _ _ h=>h,fun _ _ h=>h,fun _ _ _ h=>h,fun _ _ h=>h,[],(List.append_nil _).symm⟩
theorem Ext.trans (a:Ext K H H1 α α1) (b:Ext K H1 H2 α1 α2):Ext K H H2 α α2:=by
 obtain ⟨b1,e1⟩:=a.al
 obtain ⟨b2,e2⟩:=b.al
 exact ⟨fun p xs h=>b.tup p xs (a.tup p xs h),fun p xs h=>b.rol p xs (a.rol p xs h),fun p C xs h=>b.err p C xs (a.err p C xs h),fun p j h=>b.kn p j (a.kn p j h),b1 ++ b2,by rw[e2,e1,List.append_assoc]⟩
theorem Ext.get0 (e:Ext K H H' α α') {n:Nat} {p:Addr} (h:α[n]?=some p):α'[n]?=some p:=by
 obtain ⟨β,e1⟩:=e.al
 have hl:n < α.length:=(List.getElem?_eq_some_iff.mp h).1
 rw[e1,List.getElem?_append_left hl]
 exact h
theorem Ext.get (e:Ext K H H' α α') {j n:Nat} {p:Addr} (h:RefK H α j n p):RefK H' α' j n p:=⟨e.get0 h.at',e.kn _ _ h.kn⟩
mutual
theorem Rep.mono (e:Ext K H H' α α'): ∀ {v:V} {d:D},Rep K H α v d->Rep K H' α' v d
 |_,_,.non=> .non
 |_,_,.bl b=> .bl b
 |_,_,.int i=> .int i
 |_,_,.str x=> .str x
 |_,_,.tup h r=> .tup (e.tup _ _ h) (Reps.mono e r)
 |_,_,.rol h r=> .rol (e.rol _ _ h) (Reps.mono e r)
 |_,_,.ref h=> .ref (e.get h)
 |_,_,.dk h=> .dk (e.get h)
 |_,_,.dt h=> .dt (e.get h)
 |_,_,.err n h r=> .err n (e.err _ _ _ h) (Reps.mono e r)
theorem Reps.mono (e:Ext K H H' α α'): ∀ {vs:List V} {ds:List D},Reps K H α vs ds->Reps K H' α' vs ds
 |_,_,.nil=> .nil
 |_,_,.cons r t=> .cons (Rep.mono e r) (Reps.mono e t)
end
theorem Reps.length: ∀ {vs:List V} {ds:List D},Reps K H α vs ds->vs.length=ds.length
 |_,_,.nil=>rfl
 |_,_,.cons _ t=>by rw[List.length_cons,List.length_cons,Reps.length t]
theorem Reps.get: ∀ {vs:List V} {ds:List D} {i:Nat} {d:D},Reps K H α vs ds->ds[i]?=some d-> ∃ v,vs[i]?=some v/\Rep K H α v d
 |_,_,_,_,.nil,e=>by simp at e
 |_,_,0,_,.cons r _,e=>by simp at e;subst e;exact ⟨_,rfl,r⟩
 |_,_,i + 1,d,.cons _ t,e=>by
  obtain ⟨u,h1,h2⟩:=Reps.get (i:=i) (d:=d) t (by simpa using e)
  exact ⟨u,by simpa using h1,h2⟩
theorem Reps.set {v:V} {d:D} (r:Rep K H α v d): ∀ {vs:List V} {ds:List D} (i:Nat),Reps K H α vs ds->Reps K H α (vs.set i v) (ds.set i d)
 |_,_,_,.nil=> .nil
 |_,_,0,.cons _ t=> .cons r t
 |_,_,i + 1,.cons q t=> .cons q (Reps.set r i t)
theorem Reps.append: ∀ {vs ws:List V} {ds es:List D},Reps K H α vs ds->Reps K H α ws es->Reps K H α (vs ++ ws) (ds ++ es)
 |_,_,_,_,.nil,s=>s
 |_,_,_,_,.cons r t,s=> .cons r (Reps.append t s)
theorem Reps.ints: ∀ (ns:List Int),Reps K H α (ns.map V.int) (ns.map D.int)
 | []=> .nil
 |n :: r=> .cons (.int n) (Reps.ints r)
theorem Zg2 {p q:Addr} {xs:List V} {o:HO} (h:H q=some (.tup xs)) (hp: ∀ u,H p=some u->(∀ ys,u≠ .tup ys)/\ ∀ ob w,u≠ .frz ob w):upd H p o q=some (.tup xs):=by
 rw[ZI (fun e=>(hp _ (e ▸ h)).1 _ rfl)]
 exact h
theorem Zg3 {p q:Addr} {xs:List V} {o:HO} (h:SqF K H q xs) (hp: ∀ u,H p=some u-> ∀ ob w,u≠ .frz ob w):SqF K (upd H p o) q xs:=by
 rcases h with ⟨ob,h⟩ | h
 ·refine .inl ⟨ob,?_⟩
  rw[ZI (fun e=>hp _ (e ▸ h) _ _ rfl)]
  exact h
 ·exact .inr h
theorem Zg4 {p q C:Addr} {xs:List V} {o:HO} (h:EOk H q C xs) (hp: ∀ u,H p=some u->(∀ ob w,u≠ .frz ob w)/\ ∀ fs,u≠ .xd fs):EOk (upd H p o) q C xs:=by
 obtain ⟨oe,u,vs,h1,h2,h3,h4,h5⟩:=h
 refine ⟨oe,u,vs,?_,h2,h3,h4,?_⟩
 ·rw[ZI (fun e=>(hp _ (e ▸ h1)).1 _ _ rfl)]
  exact h1
 ·rcases h5 with h5 | ⟨dx,fs,k1,k2,k3⟩
  ·exact .inl h5
  ·refine .inr ⟨dx,fs,k1,?_,k3⟩
   rw[ZI (fun e=>(hp _ (e ▸ k2)).2 _ rfl)]
   exact k2
theorem Ext.new {p:Addr} {o:HO} (h:H p=none) {β:List Addr}:Ext K H (upd H p o) α (α ++ β):=
 ⟨fun q xs z=>Zg2 z (fun u e=>(by rw[h] at e;cases e)),fun q xs z=>Zg3 z (fun u e=>(by rw[h] at e;cases e)),fun q C xs z=>Zg4 z (fun u e=>(by rw[h] at e;cases e)),fun q j z=>Kn.ne z h,β,rfl⟩
theorem Ext.new0 {p:Addr} {o:HO} (h:H p=none):Ext K H (upd H p o) α α:=by
 have e:=Ext.new (K:=K) (H:=H) (α:=α) (o:=o) h (β:=[])
 rw[List.append_nil] at e
 exact e
theorem Ext.wrK {p:Addr} {o:HO} {j:Nat} (h:Kn H p=some j) (h':Kn (upd H p o) p=some j):Ext K H (upd H p o) α α:=by
 have ne (u:HO) (e:H p=some u):(∀ ys,u≠ .tup ys)/\(∀ ob w,u≠ .frz ob w)/\ ∀ fs,u≠ .xd fs:=by
  unfold Kn at h
  rw[e] at h
  refine ⟨fun ys z=> ?_,fun ob w z=> ?_,fun fs z=> ?_⟩<;>subst z<;>cases h
 refine ⟨fun q xs z=>Zg2 z fun u e=>⟨(ne u e).1,(ne u e).2.1⟩,fun q xs z=>Zg3 z fun u e=>(ne u e).2.1,fun q C xs z=>Zg4 z fun u e=>⟨(ne u e).2.1,(ne u e).2.2⟩,fun q i z=> ?_,[],(List.append_nil _).symm⟩
 by_cases c:q=p
 ·subst c
  rw[h] at z
  cases z
  exact h'
 ·unfold Kn
  rw[ZI c]
  exact z
theorem Ext.wr {p:Addr} {xs ys:List V} (h:H p=some (.lst xs)):Ext K H (upd H p (.lst ys)) α α:=Ext.wrK (Kn.lst h) (Kn.lst Zr)
noncomputable def Zkk:Key->D
 | .inl i=> .int i
 | .inr x=> .str x
noncomputable def Zg5 (ks:List Key):D:= .tup (ks.map Zkk)
noncomputable def ZbU (K:PySem.W.Frag) (H:Hp) (α:List Addr) {κ:Type} (key:κ->D) (kvs:List (κ × V)) (ds:List D):Prop:=
 ∃ es:List D,ds=List.zipWith (fun kv e=>D.tup [key kv.1,e]) kvs es/\Reps K H α (kvs.map (·.2)) es
noncomputable def SOk (K:PySem.W.Frag) (H:Hp) (α:List Addr) (p:Addr):SO->Prop
 | .lst ds=>(∃ xs,H p=some (.lst xs)/\Reps K H α xs ds)\/(∃ kvs,H p=some (.dK kvs)/\ZbU K H α Zkk kvs ds)\/(∃ kvs,H p=some (.dT kvs)/\ZbU K H α Zg5 kvs ds)
theorem SOk.there {p:Addr} {o:SO} (h:SOk K H α p o): ∃ u,H p=some u:=by
 cases o with
 |lst ds=>rcases h with ⟨_,e,_⟩ | ⟨_,e,_⟩ | ⟨_,e,_⟩<;>exact ⟨_,e⟩
theorem SOk.mono {p:Addr} {o:SO} (h:SOk K H α p o) (ex:Ext K H H' α α') (e:H' p=H p):SOk K H' α' p o:=by
 cases o with
 |lst ds=>
  rcases h with ⟨xs,h1,h2⟩ | ⟨kvs,h1,es,h2,h3⟩ | ⟨kvs,h1,es,h2,h3⟩
  ·exact .inl ⟨xs,e.trans h1,Reps.mono ex h2⟩
  ·exact .inr (.inl ⟨kvs,e.trans h1,es,h2,Reps.mono ex h3⟩)
  ·exact .inr (.inr ⟨kvs,e.trans h1,es,h2,Reps.mono ex h3⟩)
structure HR (K:PySem.W.Frag) (H:Hp) (α:List Addr) (M:Sto):Prop where
 len:α.length=M.length
 nd:α.Nodup
 ob: ∀ (n:Nat) (p:Addr) (o:SO),α[n]?=some p->M[n]?=some o->SOk K H α p o
theorem HR.nil:HR K H [] []:=⟨rfl,List.nodup_nil,fun n p o h=>by simp at h⟩
theorem HR.at (h:HR K H α M) {n:Nat} {p:Addr} {ds:List D} (e:RefK H α 0 n p) (m:M[n]?=some (.lst ds)): ∃ xs,H p=some (.lst xs)/\Reps K H α xs ds:=by
 rcases h.ob n p _ e.at' m with h1 | ⟨_,h1,_⟩ | ⟨_,h1,_⟩
 ·exact h1
 ·have:=e.kn;unfold Kn at this;rw[h1] at this;cases this
 ·have:=e.kn;unfold Kn at this;rw[h1] at this;cases this
theorem HR.atK (h:HR K H α M) {n:Nat} {p:Addr} {ds:List D} (e:RefK H α 1 n p) (m:M[n]?=some (.lst ds)): ∃ kvs,H p=some (.dK kvs)/\ZbU K H α Zkk kvs ds:=by
 rcases h.ob n p _ e.at' m with ⟨_,h1,_⟩ | h1 | ⟨_,h1,_⟩
 ·have:=e.kn;unfold Kn at this;rw[h1] at this;cases this
 ·exact h1
 ·have:=e.kn;unfold Kn at this;rw[h1] at this;cases this
theorem HR.atT (h:HR K H α M) {n:Nat} {p:Addr} {ds:List D} (e:RefK H α 2 n p) (m:M[n]?=some (.lst ds)): ∃ kvs,H p=some (.dT kvs)/\ZbU K H α Zg5 kvs ds:=by
 rcases h.ob n p _ e.at' m with ⟨_,h1,_⟩ | ⟨_,h1,_⟩ | h1
 ·have:=e.kn;unfold Kn at this;rw[h1] at this;cases this
 ·have:=e.kn;unfold Kn at this;rw[h1] at this;cases this
 ·exact h1
theorem RefK.lst {n:Nat} {p:Addr} (e:RefK H α 0 n p): ∃ xs,H p=some (.lst xs):=by
 have:=e.kn
 unfold Kn at this
 split at this
 ·rename_i xs h;exact ⟨xs,h⟩
 ·cases this
 ·cases this
 ·cases this
theorem HR.some_at {M:Sto} (h:HR K H α M) {n:Nat} {p:Addr} (e:RefK H α 0 n p): ∃ xs,H p=some (.lst xs):=e.lst
theorem HR.there {M:Sto} (h:HR K H α M) {n:Nat} {p:Addr} (e:α[n]?=some p): ∃ u,H p=some u:=by
 have hl:n < α.length:=(List.getElem?_eq_some_iff.mp e).1
 have hm:n < M.length:=by rw[<- h.len];exact hl
 exact (h.ob n p M[n] e (List.getElem?_eq_getElem hm)).there
theorem HR.tup {M:Sto} {p:Addr} {o:HO} (h:HR K H α M) (hp:H p=none):HR K (upd H p o) α M:=
 ⟨h.len,h.nd,fun n q so e m=>by
  obtain ⟨u,hu⟩:=h.there e
  exact (h.ob n q so e m).mono (Ext.new0 hp) (ZI (Z7 hu hp))⟩
theorem HR.newO {M:Sto} {p:Addr} {o:HO} {so:SO} (h:HR K H α M) (hp:H p=none) (r:SOk K (upd H p o) (α ++ [p]) p so):HR K (upd H p o) (α ++ [p]) (M ++ [so]):=by
 have ex:Ext K H (upd H p o) α (α ++ [p]):=Ext.new hp
 refine ⟨by rw[List.length_append,List.length_append,h.len];rfl,?_,fun n q so' e m=> ?_⟩
 ·refine List.nodup_append.mpr ⟨h.nd,by simp,fun a ha b hb=> ?_⟩
  have hb':b=p:=by simpa using hb
  obtain ⟨n,hn,e⟩:=List.getElem_of_mem ha
  obtain ⟨u,z⟩:=h.there (n:=n) (p:=a) (by rw[List.getElem?_eq_getElem hn,e])
  rw[hb']
  exact Z7 z hp
 ·by_cases hn:n < α.length
  ·rw[List.getElem?_append_left hn] at e
   rw[List.getElem?_append_left (by rw[<- h.len];exact hn)] at m
   obtain ⟨u,hu⟩:=h.there e
   exact (h.ob n q so' e m).mono ex (ZI (Z7 hu hp))
  ·have en:n=α.length:=by
    have:n < (α ++ [p]).length:=(List.getElem?_eq_some_iff.mp e).1
    rw[List.length_append,List.length_singleton] at this
    omega
   subst en
   rw[List.getElem?_append_right (Nat.le_refl _),Nat.sub_self] at e
   rw[h.len,List.getElem?_append_right (Nat.le_refl _),Nat.sub_self] at m
   cases e
   cases m
   exact r
theorem HR.new {M:Sto} {p:Addr} {xs:List V} {ds:List D} (h:HR K H α M) (hp:H p=none) (r:Reps K H α xs ds):HR K (upd H p (.lst xs)) (α ++ [p]) (M ++ [.lst ds]):=
 h.newO hp (.inl ⟨xs,Zr,Reps.mono (Ext.new hp) r⟩)
theorem ZiA {n m:Nat} {p:Addr} (h:α.Nodup) (a:α[n]?=some p) (b:α[m]?=some p):n=m:=by
 obtain ⟨h1,e1⟩:=List.getElem?_eq_some_iff.mp a
 obtain ⟨h2,e2⟩:=List.getElem?_eq_some_iff.mp b
 exact (List.getElem_inj h).mp (e1.trans e2.symm)
theorem HR.wrO {M:Sto} {n:Nat} {p:Addr} {o:HO} {so:SO} (h:HR K H α M) (e:α[n]?=some p) (ex:Ext K H (upd H p o) α α) (r:SOk K (upd H p o) α p so):HR K (upd H p o) α (M.set n so):=by
 have hn:n < M.length:=by rw[<- h.len];exact (List.getElem?_eq_some_iff.mp e).1
 refine ⟨by rw[List.length_set];exact h.len,h.nd,fun k q so' e' m=> ?_⟩
 by_cases hk:k=n
 ·subst hk
  rw[e] at e'
  cases e'
  rw[List.getElem?_set_self hn] at m
  cases m
  exact r
 ·rw[List.getElem?_set_ne (Ne.symm hk)] at m
  have hq:q≠p:=fun z=>hk (ZiA h.nd (z ▸ e') e)
  exact (h.ob k q so' e' m).mono ex (ZI hq)
theorem HR.wr {M:Sto} {n:Nat} {p:Addr} {xs ys:List V} {ds:List D} (h:HR K H α M) (e:RefK H α 0 n p) (hp:H p=some (.lst ys)) (r:Reps K H α xs ds):HR K (upd H p (.lst xs)) α (M.set n (.lst ds)):=
 h.wrO e.at' (Ext.wr hp) (.inl ⟨xs,Zr,Reps.mono (Ext.wr hp) r⟩)
end
inductive Out (β:Type) where
 |ok (a:β) (M:Sto)
 |exc (c:Str) (M:Sto)
 |bad
noncomputable def Out.bind {β γ:Type} (o:Out β) (f:β->Sto->Out γ):Out γ:=match o with
 | .ok a M=>f a M
 | .exc c M=> .exc c M
 | .bad=> .bad
inductive Fl where
 |nx (ρ:Ro) (M:Sto)
 |ret (d:D) (M:Sto)
 |brk (ρ:Ro) (M:Sto)
 |cnt (ρ:Ro) (M:Sto)
 |exc (c:Str) (M:Sto)
 |bad
noncomputable def OG {β γ:Type} (K:PySem.W.Frag) (R:Hp->List Addr->γ->β->Prop) (H:Hp) (α:List Addr) (ξ:XK) (Q:γ->Hp->Prop):Out β->Prop
 | .ok d M'=> ∀ v H' α',Ext K H H' α α'->HR K H' α' M'->R H' α' v d->Q v H'
 | .exc c M'=> ∀ C H' α',PySem.W.nsIn K mainGlobals c=some (some (.ref C))->Ext K H H' α α'->HR K H' α' M'->ξ (.ref C) none H'
 | .bad=>False
theorem OG.ext {β γ:Type} {K:PySem.W.Frag} {R:Hp->List Addr->γ->β->Prop} {H H1:Hp} {α α1:List Addr} {ξ:XK} {Q:γ->Hp->Prop} {o:Out β} (h:OG K R H α ξ Q o) (e:Ext K H H1 α α1):OG K R H1 α1 ξ Q o:=by
 cases o with
 |ok d M'=>exact fun v H' α' e'=>h v H' α' (e.trans e')
 |exc c M'=>exact fun C H' α' n e'=>h C H' α' n (e.trans e')
 |bad=>exact h
noncomputable abbrev OP (K:PySem.W.Frag):=OG K (Rep K)
noncomputable abbrev OT (K:PySem.W.Frag):=OG (β:=Bool) (γ:=Bool) K (fun _ _ v d=>v=d)
noncomputable abbrev OA (K:PySem.W.Frag):=OG K (Reps K)
noncomputable def SR (K:PySem.W.Frag) (H:Hp) (α:List Addr) (σ:L2.St) (ρ:Ro):Prop:=σ.length=ρ.length/\ ∀ (i:Nat) (d:D),ρ[i]?=some (some d)-> ∃ v,σ[i]?=some (some v)/\Rep K H α v d
theorem SR.mono {K:PySem.W.Frag} {H H':Hp} {α α':List Addr} {σ:L2.St} {ρ:Ro} (h:SR K H α σ ρ) (e:Ext K H H' α α'):SR K H' α' σ ρ:=
 ⟨h.1,fun i d q=>let ⟨v,a,b⟩:=h.2 i d q;⟨v,a,Rep.mono e b⟩⟩
theorem SR.set {K:PySem.W.Frag} {H:Hp} {α:List Addr} {σ:L2.St} {ρ:Ro} {v:V} {d:D} (h:SR K H α σ ρ) (i:Nat) (r:Rep K H α v d):SR K H α (σ.set i (some v)) (ρ.set i (some d)):=by
 refine ⟨by rw[List.length_set,List.length_set];exact h.1,fun j e q=> ?_⟩
 by_cases hj:j=i
 ·subst hj
  have hl:j < ρ.length:=by
   have:=(List.getElem?_eq_some_iff.mp q).1
   rw[List.length_set] at this
   exact this
  rw[List.getElem?_set_self hl] at q
  cases q
  exact ⟨v,by rw[List.getElem?_set_self (by rw[h.1];exact hl)],r⟩
 ·rw[List.getElem?_set_ne (Ne.symm hj)] at q
  rw[List.getElem?_set_ne (Ne.symm hj)]
  exact h.2 j e q
noncomputable abbrev Ev:=Ro->Sto->Out D
noncomputable abbrev Tv:=Ro->Sto->Out Bool
noncomputable abbrev Av:=Ro->Sto->Out (List D)
noncomputable abbrev Sv:=Ro->Sto->Fl
noncomputable def DE (X:Cx) (ξ:XK) (e:Expr) (f:Ev):Prop:= ∃ t:TE,PE X e t/\ ∀ σ ρ H α M Q,SR X.K H α σ ρ->HR X.K H α M->OP X.K H α ξ Q (f ρ M)->t σ H Q
noncomputable def DT (X:Cx) (ξ:XK) (e:Expr) (f:Tv):Prop:= ∃ t:TT,PT X e t/\ ∀ σ ρ H α M Q,SR X.K H α σ ρ->HR X.K H α M->OT X.K H α ξ Q (f ρ M)->t σ H Q
noncomputable def DW (X:Cx) (ξ:XK) (e:Expr) (f:Tv):Prop:= ∃ t:TT,PW X e t/\ ∀ σ ρ H α M Q,SR X.K H α σ ρ->HR X.K H α M->OT X.K H α ξ Q (f ρ M)->t σ H Q
noncomputable def DA (X:Cx) (ξ:XK) (es:List Expr) (f:Av):Prop:= ∃ t:TA,PA X es t/\ ∀ σ ρ H α M Q,SR X.K H α σ ρ->HR X.K H α M->OA X.K H α ξ Q (f ρ M)->t σ H Q
theorem OG.seq {β γ β' γ':Type} {K:PySem.W.Frag} {R:Hp->List Addr->γ->β->Prop} {R':Hp->List Addr->γ'->β'->Prop} {H:Hp} {α:List Addr} {ξ:XK} {Q:γ'->Hp->Prop} {Q1:γ->Hp->Prop} {o:Out β} {f:β->Sto->Out β'}
  (h:OG K R' H α ξ Q (o.bind f)) (k: ∀ d M' v H' α',Ext K H H' α α'->HR K H' α' M'->R H' α' v d->OG K R' H' α' ξ Q (f d M')->Q1 v H'):OG K R H α ξ Q1 o:=by
 cases o with
 |ok d M'=>exact fun v H' α' e hr r=>k d M' v H' α' e hr r (OG.ext (o:=f d M') h e)
 |exc c M'=>exact h
 |bad=>exact h
section
variable {X:Cx} {ξ:XK} {a b e:Expr} {fa fb:Ev} {pos:Pos}
noncomputable def Zd (i:Nat):Ev:=fun ρ M=>match ρ[i]? with | some (some d)=> .ok d M | _=> .bad
noncomputable def eC (d:D):Ev:=fun _ M=> .ok d M
theorem Zc (i:Nat) {x:Str} (hN:X.N[i]?=some x:=by rfl) (hv:Vis X.env.scope x:=by first | exact Or.inl rfl | exact Or.inr (Or.inl rfl) | exact Or.inr (Or.inr rfl)) (hd:(x == ("__debug__":Str))=false:=by decide)
  (hcd:(x == ("__classdict__":Str))=false:=by decide):DE X ξ (.Name x pos) (Zd i):=by
 refine ⟨_,Zjh hN hv hd hcd,fun σ ρ H α M Q s h q=> ?_⟩
 unfold Zd at q
 cases e:ρ[i]? with
 |none=>rw[e] at q;exact q.elim
 |some o=>
  cases o with
  |none=>rw[e] at q;exact q.elim
  |some d=>
   rw[e] at q
   obtain ⟨v,h1,h2⟩:=s.2 i d e
   exact ⟨v,h1,q v H α Ext.refl h h2⟩
theorem Zf {i:Int} {j pos}:DE X ξ (.Constant (.int i) j pos) (eC (.int i)):=⟨_,Zfz,fun _ _ H α M _ _ h q=>q _ H α Ext.refl h (.int i)⟩
theorem Zg6 {i:Bool} {j pos}:DE X ξ (.Constant (.bool i) j pos) (eC (.bl i)):=⟨_,ZoT,fun _ _ H α M _ _ h q=>q _ H α Ext.refl h (.bl i)⟩
theorem Zek {j pos}:DE X ξ (.Constant .none j pos) (eC .non):=⟨_,ZlL,fun _ _ H α M _ _ h q=>q _ H α Ext.refl h .non⟩
theorem Zg7 {x:Str} {j pos}:DE X ξ (.Constant (.str x) j pos) (eC (.str x)):=⟨_,ZlM,fun _ _ H α M _ _ h q=>q _ H α Ext.refl h (.str x)⟩
noncomputable abbrev Bo:=D->D->Sto->Out D
noncomputable def e2 (f:Bo) (fa fb:Ev):Ev:=fun ρ M=>(fa ρ M).bind fun x M1=>(fb ρ M1).bind fun y M2=>f x y M2
noncomputable def BO (X:Cx) (ξ:XK) (r:R2) (f:Bo):Prop:= ∀ H α M v w x y Q,HR X.K H α M->Rep X.K H α v x->Rep X.K H α w y->OP X.K H α ξ Q (f x y M)->r v w H Q
theorem two {r:R2} {f:Bo} (hb:BO X ξ r f) {ta tb:TE} (qa: ∀ σ ρ H α M Q,SR X.K H α σ ρ->HR X.K H α M->OP X.K H α ξ Q (fa ρ M)->ta σ H Q)
  (qb: ∀ σ ρ H α M Q,SR X.K H α σ ρ->HR X.K H α M->OP X.K H α ξ Q (fb ρ M)->tb σ H Q): ∀ σ ρ H α M Q,SR X.K H α σ ρ->HR X.K H α M->OP X.K H α ξ Q (e2 f fa fb ρ M)->tOp r ta tb σ H Q:=by
 intro σ ρ H α M Q s h q
 refine qa σ ρ H α M _ s h (OG.seq q fun x M1 v H1 α1 e1 h1 r1 q1=> ?_)
 refine qb σ ρ H1 α1 M1 _ (s.mono e1) h1 (OG.seq q1 fun y M2 w H2 α2 e2 h2 r2 q2=> ?_)
 exact hb H2 α2 M2 v w x y Q h2 (Rep.mono e2 r1) r2 q2
theorem Zf8 {op:Operator} {r:R2} {f:Bo} (ho:OpR X (binaryOp op) r) (hf:BO X ξ r f) (ha:DE X ξ a fa) (hb:DE X ξ b fb):DE X ξ (.BinOp a op b pos) (e2 f fa fb):=by
 obtain ⟨ta,ha,qa⟩:=ha
 obtain ⟨tb,hb,qb⟩:=hb
 exact ⟨_,Zo0 ho ha hb,two hf qa qb⟩
theorem ZcO {op:CmpOp} {r:R2} {f:Bo} (ho:OpR X (compareOp op) r) (hf:BO X ξ r f) (ha:DE X ξ a fa) (hb:DE X ξ b fb) (hm:behindInMarks op b=false:=by first | exact Zjj _ | with_unfolding_all rfl):DE X ξ (.Compare a [op] [b] pos) (e2 f fa fb):=by
 obtain ⟨ta,ha,qa⟩:=ha
 obtain ⟨tb,hb,qb⟩:=hb
 exact ⟨_,Zj7 ho ha hb hm,two hf qa qb⟩
noncomputable def tv (f:Ev):Tv:=fun ρ M=>(f ρ M).bind fun x M1=>match x with | .bl k=> .ok k M1 | _=> .bad
theorem Ziw {t:TE} {f:Ev} (qa: ∀ σ ρ H α M Q,SR X.K H α σ ρ->HR X.K H α M->OP X.K H α ξ Q (f ρ M)->t σ H Q): ∀ σ ρ H α M Q,SR X.K H α σ ρ->HR X.K H α M->OT X.K H α ξ Q (tv f ρ M)->Zl1 t σ H Q:=by
 intro σ ρ H α M Q s h q
 refine qa σ ρ H α M _ s h (OG.seq q fun x M1 v H1 α1 e1 h1 r1 q1=> ?_)
 cases r1 with
 |bl k=>exact ⟨k,rfl,q1 k H1 α1 Ext.refl h1 rfl⟩
 |_=>exact q1.elim
theorem ZU {op:CmpOp} {r:R2} {f:Bo} (ho:OpR X (compareOp op) r) (hf:BO X ξ r f) (ha:DE X ξ a fa) (hb:DE X ξ b fb) (hm:behindInMarks op b=false:=by first | exact Zjj _ | with_unfolding_all rfl):DT X ξ (.Compare a [op] [b] pos) (tv (e2 f fa fb)):=by
 obtain ⟨ta,ha,qa⟩:=ha
 obtain ⟨tb,hb,qb⟩:=hb
 exact ⟨_,Zj8 ho ha hb hm,Ziw (two hf qa qb)⟩
theorem Zjo (h:DE X ξ e fa) (he: ∀ whole,isTrue e X.env whole=(do let v <- whole;standAt e.pos;holding [v] (truthy v)):=by intro _;rfl):DT X ξ e (tv fa):=by
 obtain ⟨ta,ha,qa⟩:=h
 exact ⟨_,ZlN ha he,Ziw qa⟩
variable {ga gb:Tv} {rest:List Expr}
noncomputable def Zg8 (f g:Tv):Tv:=fun ρ M=>(f ρ M).bind fun k M1=>if k=true then g ρ M1 else .ok false M1
noncomputable def Zkl (f g:Tv):Tv:=fun ρ M=>(f ρ M).bind fun k M1=>if k=true then .ok true M1 else g ρ M1
noncomputable def Zf9 (f:Tv):Tv:=fun ρ M=>(f ρ M).bind fun k M1=> .ok (!k) M1
theorem Zkm (ha:DT X ξ a ga):DW X ξ (.BoolOp .And [a] pos) ga:=let ⟨_,h,q⟩:=ha;⟨_,pw_and1 h,q⟩
theorem Zjp (ha:DT X ξ a ga):DW X ξ (.BoolOp .Or [a] pos) ga:=let ⟨_,h,q⟩:=ha;⟨_,pw_or1 h,q⟩
theorem Zmd (ha:DT X ξ a ga) (hb:DW X ξ (.BoolOp .And (b :: rest) pos) gb):DW X ξ (.BoolOp .And (a :: b :: rest) pos) (Zg8 ga gb):=by
 obtain ⟨ta,ha,qa⟩:=ha
 obtain ⟨tb,hb,qb⟩:=hb
 refine ⟨_,pw_and ha hb,fun σ ρ H α M Q s h q=> ?_⟩
 refine qa σ ρ H α M _ s h (OG.seq q fun k M1 v H1 α1 e1 h1 r1 q1=> ?_)
 cases r1
 cases k with
 |true=>exact Zjn (qb σ ρ H1 α1 M1 Q (s.mono e1) h1 q1)
 |false=>exact Zjm (q1 false H1 α1 Ext.refl h1 rfl)
theorem Zkn (ha:DT X ξ a ga) (hb:DW X ξ (.BoolOp .Or (b :: rest) pos) gb):DW X ξ (.BoolOp .Or (a :: b :: rest) pos) (Zkl ga gb):=by
 obtain ⟨ta,ha,qa⟩:=ha
 obtain ⟨tb,hb,qb⟩:=hb
 refine ⟨_,pw_or ha hb,fun σ ρ H α M Q s h q=> ?_⟩
 refine qa σ ρ H α M _ s h (OG.seq q fun k M1 v H1 α1 e1 h1 r1 q1=> ?_)
 cases r1
 cases k with
 |true=>exact Zjn (q1 true H1 α1 Ext.refl h1 rfl)
 |false=>exact Zjm (qb σ ρ H1 α1 M1 Q (s.mono e1) h1 q1)
theorem Zo9 (h:DW X ξ e ga):DT X ξ e ga:=let ⟨_,h,q⟩:=h;⟨_,h.pt,q⟩
theorem Zjq (ha:DT X ξ a ga):DT X ξ (.UnaryOp .Not a pos) (Zf9 ga):=by
 obtain ⟨ta,ha,qa⟩:=ha
 refine ⟨_,ZlO ha,fun σ ρ H α M Q s h q=> ?_⟩
 refine qa σ ρ H α M _ s h (OG.seq q fun k M1 v H1 α1 e1 h1 r1 q1=> ?_)
 cases r1
 exact q1 (!k) H1 α1 Ext.refl h1 rfl
noncomputable def Zme (f g:Ev):Ev:=fun ρ M=>(f ρ M).bind fun x M1=>match x with | .bl k=>if k=true then g ρ M1 else .ok (.bl false) M1 | _=> .bad
noncomputable def Zrb (f g:Ev):Ev:=fun ρ M=>(f ρ M).bind fun x M1=>match x with | .bl k=>if k=true then .ok (.bl true) M1 else g ρ M1 | _=> .bad
noncomputable def Zmf (f:Ev):Ev:=fun ρ M=>(f ρ M).bind fun x M1=>match x with | .bl k=> .ok (.bl (!k)) M1 | _=> .bad
noncomputable def eIf (c:Tv) (f g:Ev):Ev:=fun ρ M=>(c ρ M).bind fun k M1=>if k=true then f ρ M1 else g ρ M1
theorem Zpa {c:Expr} (hc:DT X ξ c ga) (ha:DE X ξ a fa) (hb:DE X ξ b fb):DE X ξ (.IfExp c a b pos) (eIf ga fa fb):=by
 obtain ⟨tc,hc,qc⟩:=hc
 obtain ⟨ta,ha,qa⟩:=ha
 obtain ⟨tb,hb,qb⟩:=hb
 refine ⟨_,Zij hc ha hb,fun σ ρ H α M Q s h q=> ?_⟩
 refine qc σ ρ H α M _ s h (OG.seq q fun k M1 v H1 α1 e1 h1 r1 q1=> ?_)
 cases r1
 cases k with
 |true=>exact Zjn (qa σ ρ H1 α1 M1 Q (s.mono e1) h1 q1)
 |false=>exact Zjm (qb σ ρ H1 α1 M1 Q (s.mono e1) h1 q1)
variable {es:List Expr} {fs:Av}
noncomputable def aNil:Av:=fun _ M=> .ok [] M
noncomputable def Zb (f:Ev) (g:Av):Av:=fun ρ M=>(f ρ M).bind fun x M1=>(g ρ M1).bind fun xs M2=> .ok (x :: xs) M2
theorem Ze:DA X ξ [] aNil:=⟨_,Zjk,fun _ _ H α M _ _ h q=>q _ H α Ext.refl h .nil⟩
theorem Za (ha:DE X ξ e fa) (hr:DA X ξ es fs) (hs:starEach (e :: es) X.env=(false,eval e X.env) :: starEach es X.env:=by rfl):DA X ξ (e :: es) (Zb fa fs):=by
 obtain ⟨ta,ha,qa⟩:=ha
 obtain ⟨tb,hb,qb⟩:=hr
 refine ⟨_,ZeW ha hb hs,fun σ ρ H α M Q s h q=> ?_⟩
 refine qa σ ρ H α M _ s h (OG.seq q fun x M1 v H1 α1 e1 h1 r1 q1=> ?_)
 refine qb σ ρ H1 α1 M1 _ (s.mono e1) h1 (OG.seq q1 fun y M2 w H2 α2 e2 h2 r2 q2=> ?_)
 exact q2 _ H2 α2 Ext.refl h2 (.cons (Rep.mono e2 r1) r2)
noncomputable def Z5 (f:Av):Ev:=fun ρ M=>(f ρ M).bind fun xs M1=>if xs.length<=1000 then .ok (.tup xs) M1 else .bad
noncomputable def ZbR (f:Av):Ev:=fun ρ M=>(f ρ M).bind fun xs M1=>if xs.length<=1000 then .ok (.ref M1.length) (M1 ++ [.lst xs]) else .bad
theorem Zko {n:Nat} (h:n<=1000):n<=sizeLine:=Nat.le_of_lt (ZgX h)
theorem ZH {x1} (ha:DA X ξ es fs):DE X ξ (.Tuple es x1 pos) (Z5 fs):=by
 obtain ⟨ta,ha,qa⟩:=ha
 refine ⟨_,Zl2 ha,fun σ ρ H α M Q s h q=> ?_⟩
 refine qa σ ρ H α M _ s h (OG.seq q fun xs M1 vs H1 α1 e1 h1 r1 q1=> ?_)
 by_cases hl:xs.length<=1000
 ·rw[if_pos hl] at q1
  refine ⟨by rw[r1.length];exact Zko hl,fun p hp=>q1 _ _ α1 (Ext.new0 hp) (h1.tup hp) (.tup Zr (Reps.mono (Ext.new0 hp) r1))⟩
 ·rw[if_neg hl] at q1
  exact q1.elim
theorem HR.last {K:PySem.W.Frag} {H:Hp} {α:List Addr} {M:Sto} (h:HR K H α M) (p:Addr):(α ++ [p])[M.length]?=some p:=by
 rw[<- h.len,List.getElem?_append_right (Nat.le_refl _),Nat.sub_self]
 rfl
theorem ZaH (ha:DA X ξ es fs):DE X ξ (.List es pos) (ZbR fs):=by
 obtain ⟨ta,ha,qa⟩:=ha
 refine ⟨_,Zl3 ha,fun σ ρ H α M Q s h q=> ?_⟩
 refine qa σ ρ H α M _ s h (OG.seq q fun xs M1 vs H1 α1 e1 h1 r1 q1=> ?_)
 by_cases hl:xs.length<=1000
 ·rw[if_pos hl] at q1
  refine ⟨by rw[r1.length];exact Zko hl,fun p hp=>q1 _ _ (α1 ++ [p]) (Ext.new hp) (h1.new hp r1) (.ref ⟨h1.last p,Kn.lst Zr⟩)⟩
 ·rw[if_neg hl] at q1
  exact q1.elim
end
end DL
end
section
namespace DL
open PySem PySem.Spec PyProof.Rows L2
open PySem.SeqAt (EqAt RcAt RcNeAt)
noncomputable def Z2 (i j:Int):Prop:=Builtin.Int.intBits i<=64\/Builtin.Int.intBits j<=64\/(Builtin.Int.intBits i<=60000000/\Builtin.Int.intBits j<=60000000)
noncomputable instance (i j:Int):Decidable (Z2 i j):=by unfold Z2;infer_instance
theorem Z2.ok {i j:Int} (h:Z2 i j):IntMulOk i j:=by
 rcases h with h | h | ⟨h1,h2⟩
 ·exact .of_left h
 ·exact .of_right h
 ·exact .of_le h1 h2 (by decide)
theorem Zga {i j:Int} (m n:Nat) (h1:i.natAbs < 2 ^ m) (h2:j.natAbs < 2 ^ n) (hm:m<=60000000:=by decide) (hn:n<=60000000:=by decide):Z2 i j:=
 .inr (.inr ⟨Nat.le_trans (intBits_le_iff.mpr h1) hm,Nat.le_trans (intBits_le_iff.mpr h2) hn⟩)
noncomputable def Za5 (j:Int):Prop:=j≠0/\j.natAbs.log2 < 9000
noncomputable instance (j:Int):Decidable (Za5 j):=by unfold Za5;infer_instance
section
variable {X:Cx}
theorem Zkp:OpR X (binaryOp .Mult) (rI Z2 fun i j=> .int (i * j)):=opI fun _ _ _ _ _ _ _ hc q=>mul_int q hc.ok
theorem ZiB:OpR X (binaryOp .FloorDiv) (rI (fun _ j=>Za5 j) fun i j=> .int (i.fdiv j)):=opI fun _ _ _ _ _ _ _ hc q=>floordiv_int hc.1 q (.inl (PyProof.noPylong_of_log2 hc.2))
end
noncomputable def dAdd:Bo:=fun x y M=>match x,y with
 | .int i,.int j=> .ok (.int (i + j)) M
 | .str i,.str j=>if i.length + j.length<=100000 then .ok (.str (i ++ j)) M else .bad
 | .ref n,.ref m=>match M[n]?,M[m]? with
  |some (.lst xs),some (.lst ys)=>if xs.length + ys.length<=10000000 then .ok (.ref M.length) (M ++ [.lst (xs ++ ys)]) else .bad
  |_,_=> .bad
 | .tup xs,.tup ys=>if xs.length + ys.length<=100000/\xs≠[] then .ok (.tup (xs ++ ys)) M else .bad
 |_,_=> .bad
noncomputable def dSub:Bo:=fun x y M=>match x,y with | .int i,.int j=> .ok (.int (i - j)) M | _,_=> .bad
noncomputable def dMul:Bo:=fun x y M=>match x,y with | .int i,.int j=>if Z2 i j then .ok (.int (i * j)) M else .bad | _,_=> .bad
noncomputable def dDiv:Bo:=fun x y M=>match x,y with | .int i,.int j=>if Za5 j then .ok (.int (i.fdiv j)) M else .bad | _,_=> .bad
noncomputable def dMod:Bo:=fun x y M=>match x,y with | .int i,.int j=>if j≠0 then .ok (.int (i.fmod j)) M else .bad | _,_=> .bad
noncomputable def dPow:Bo:=fun x y M=>match x,y with | .int i,.int j=>if 0<=j/\j<=1000000/\i.natAbs < 2 ^ 64 then .ok (.int (i ^ j.toNat)) M else .bad | _,_=> .bad
noncomputable def dLt:Bo:=fun x y M=>match x,y with | .int i,.int j=> .ok (.bl (decide (i < j))) M | _,_=> .bad
noncomputable def dLe:Bo:=fun x y M=>match x,y with | .int i,.int j=> .ok (.bl (decide (i<=j))) M | _,_=> .bad
noncomputable def dGt:Bo:=fun x y M=>match x,y with | .int i,.int j=> .ok (.bl (decide (j < i))) M | _,_=> .bad
noncomputable def dGe:Bo:=fun x y M=>match x,y with | .int i,.int j=> .ok (.bl (decide (j<=i))) M | _,_=> .bad
theorem Zmg {n:Nat} (h:n<=100000):n<=sizeLine:=Nat.le_trans h (by decide)
section
variable {X:Cx} {ξ:XK}
theorem Zb9 {r:R2} {f:Bo} {C:Int->Int->Prop} [∀ i j,Decidable (C i j)] {g:Int->Int->D} {gV:Int->Int->V} (hg: ∀ H α i j,Rep X.K H α (gV i j) (g i j))
  (hf: ∀ x y M,f x y M=match x,y with | .int i,.int j=>if C i j then .ok (g i j) M else .bad | _,_=> .bad) (hr: ∀ i j H Q,C i j->Q (gV i j) H->r (.int i) (.int j) H Q):BO X ξ r f:=by
 intro H α M v w x y Q h rv rw' q
 rw[hf] at q
 cases rv<;>first | exact q.elim | skip
 cases rw'<;>first | exact q.elim | skip
 rename_i i j
 by_cases c:C i j
 ·simp only[if_pos c] at q
  exact hr i j H Q c (q _ H α Ext.refl h (hg H α i j))
 ·simp only[if_neg c] at q
  exact q.elim
theorem Zmh:BO X ξ (rI0 fun i j=> .int (i - j)) dSub:=Zb9 (C:=fun _ _=>True) (fun _ _ i j=> .int (i - j)) (fun x y M=>by cases x<;>cases y<;>simp[dSub]) fun i j H Q _ q=>⟨i,j,rfl,rfl,q⟩
theorem Zmi:BO X ξ (rI Z2 fun i j=> .int (i * j)) dMul:=Zb9 (C:=Z2) (fun _ _ i j=> .int (i * j)) (fun x y M=>by cases x<;>cases y<;>rfl) fun i j H Q c q=>⟨i,j,rfl,rfl,c,q⟩
theorem Zmj:BO X ξ (rI (fun _ j=>Za5 j) fun i j=> .int (i.fdiv j)) dDiv:=Zb9 (C:=fun _ j=>Za5 j) (fun _ _ i j=> .int (i.fdiv j)) (fun x y M=>by cases x<;>cases y<;>rfl) fun i j H Q c q=>⟨i,j,rfl,rfl,c,q⟩
theorem Zmk:BO X ξ (rI (fun _ j=>j≠0) fun i j=> .int (i.fmod j)) dMod:=Zb9 (C:=fun _ j=>j≠0) (fun _ _ i j=> .int (i.fmod j)) (fun x y M=>by cases x<;>cases y<;>rfl) fun i j H Q c q=>⟨i,j,rfl,rfl,c,q⟩
theorem Zml:BO X ξ (rI Zq7 fun i j=> .int (i ^ j.toNat)) dPow:=Zb9 (C:=fun i j=>0<=j/\j<=1000000/\i.natAbs < 2 ^ 64) (fun _ _ i j=> .int (i ^ j.toNat)) (fun x y M=>by cases x<;>cases y<;>rfl) fun i j H Q c q=>⟨i,j,rfl,rfl,c,q⟩
theorem Zmm:BO X ξ (rI0 fun i j=> .bl (decide (i < j))) dLt:=Zb9 (C:=fun _ _=>True) (fun _ _ i j=> .bl _) (fun x y M=>by cases x<;>cases y<;>simp[dLt]) fun i j H Q _ q=>⟨i,j,rfl,rfl,q⟩
theorem Zmn:BO X ξ (rI0 fun i j=> .bl (decide (i<=j))) dLe:=Zb9 (C:=fun _ _=>True) (fun _ _ i j=> .bl _) (fun x y M=>by cases x<;>cases y<;>simp[dLe]) fun i j H Q _ q=>⟨i,j,rfl,rfl,q⟩
theorem Zel:BO X ξ (rI0 fun i j=> .bl (decide (j < i))) dGt:=Zb9 (C:=fun _ _=>True) (fun _ _ i j=> .bl _) (fun x y M=>by cases x<;>cases y<;>simp[dGt]) fun i j H Q _ q=>⟨i,j,rfl,rfl,q⟩
theorem Zpb:BO X ξ (rI0 fun i j=> .bl (decide (j<=i))) dGe:=Zb9 (C:=fun _ _=>True) (fun _ _ i j=> .bl _) (fun x y M=>by cases x<;>cases y<;>simp[dGe]) fun i j H Q _ q=>⟨i,j,rfl,rfl,q⟩
theorem Zkq:OpR X (binaryOp .Add) (fun x y H Q=>(rI0 (fun i j=> .int (i + j)) x y H Q\/(∃ i j,x= .str i/\y= .str j/\i.length + j.length<=sizeLine/\Q (.str (i ++ j)) H))\/(rCat x y H Q\/Zkd X.K x y H Q)):=
 OpR.or (OpR.or ZlW Zf3) (OpR.or Zl9 Zke)
theorem Zmo:BO X ξ (fun x y H Q=>(rI0 (fun i j=> .int (i + j)) x y H Q\/(∃ i j,x= .str i/\y= .str j/\i.length + j.length<=sizeLine/\Q (.str (i ++ j)) H))\/(rCat x y H Q\/Zkd X.K x y H Q)) dAdd:=by
 intro H α M v w x y Q h rv rw' q
 unfold dAdd at q
 split at q
 ·rename_i i j
  cases rv
  cases rw'
  exact .inl (.inl ⟨i,j,rfl,rfl,q _ H α Ext.refl h (.int (i + j))⟩)
 ·rename_i i j
  cases rv
  cases rw'
  split at q
  ·rename_i c
   exact .inl (.inr ⟨i,j,rfl,rfl,Zmg c,q _ H α Ext.refl h (.str _)⟩)
  ·exact q.elim
 ·rename_i n m
  cases rv with
  | @ref p _ hp=>
   cases rw' with
   | @ref p2 _ hp2=>
    split at q
    ·rename_i ds ds2 e1 e2
     split at q
     ·rename_i c
      obtain ⟨xs,g1,r1⟩:=h.at hp e1
      obtain ⟨ys,g2,r2⟩:=h.at hp2 e2
      refine .inr (.inl ⟨p,p2,xs,ys,rfl,rfl,g1,g2,by rw[r1.length,r2.length];exact Nat.le_trans c (by decide),fun l hl=> ?_⟩)
      exact q _ _ (α ++ [l]) (Ext.new hl) (h.new hl (r1.append r2)) (.ref ⟨h.last l,Kn.lst Zr⟩)
     ·exact q.elim
    ·exact q.elim
 ·rename_i ds ds2
  cases rv with
  | @tup p xs _ hp rp=>
   cases rw' with
   | @tup p2 xs2 _ hp2 rp2=>
    split at q
    ·rename_i c
     have nx:xs≠[]:=fun z=>c.2 (by have:=rp.length;rw[z] at this;exact List.eq_nil_of_length_eq_zero this.symm)
     refine .inr (.inr ⟨p,p2,xs,xs2,rfl,rfl,(SqT.of hp),(SqT.of hp2),nx,by rw[rp.length,rp2.length];exact Zmg c.1,fun z=> ?_,fun _ l hl=> ?_⟩)
     ·subst z
      cases rp2
      rw[List.append_nil] at q
      exact q _ H α Ext.refl h (.tup hp rp)
     ·exact q _ _ α (Ext.new0 hl) (h.tup hl) (.tup Zr (Reps.mono (Ext.new0 hl) (rp.append rp2)))
    ·exact q.elim
 ·exact q.elim
variable {a b e:Expr} {fa fb:Ev} {pos:Pos}
theorem ZJ (ha:DE X ξ a fa) (hb:DE X ξ b fb):DE X ξ (.BinOp a .Add b pos) (e2 dAdd fa fb):=Zf8 Zkq Zmo ha hb
theorem Z9 (ha:DE X ξ a fa) (hb:DE X ξ b fb):DE X ξ (.BinOp a .Sub b pos) (e2 dSub fa fb):=Zf8 ZlX Zmh ha hb
theorem ZK (ha:DE X ξ a fa) (hb:DE X ξ b fb):DE X ξ (.BinOp a .Mult b pos) (e2 dMul fa fb):=Zf8 Zkp Zmi ha hb
theorem Zcv (ha:DE X ξ a fa) (hb:DE X ξ b fb):DE X ξ (.BinOp a .FloorDiv b pos) (e2 dDiv fa fb):=Zf8 ZiB Zmj ha hb
theorem ZbB (ha:DE X ξ a fa) (hb:DE X ξ b fb):DE X ξ (.BinOp a .Mod b pos) (e2 dMod fa fb):=Zf8 Zj6 Zmk ha hb
theorem Zg9 (ha:DE X ξ a fa) (hb:DE X ξ b fb):DE X ξ (.BinOp a .Pow b pos) (e2 dPow fa fb):=Zf8 ZlY Zml ha hb
noncomputable def Zdf (f:Ev):Ev:=fun ρ M=>(f ρ M).bind fun x M1=>match x with | .int i=> .ok (.int (-i)) M1 | _=> .bad
theorem ZbC (ha:DE X ξ a fa):DE X ξ (.UnaryOp .USub a pos) (Zdf fa):=by
 obtain ⟨ta,ha,qa⟩:=ha
 refine ⟨_,Zj5 ZgK ha,fun σ ρ H α M Q s h q=> ?_⟩
 refine qa σ ρ H α M _ s h (OG.seq q fun x M1 v H1 α1 e1 h1 r1 q1=> ?_)
 cases r1 with
 |int i=>exact ⟨i,rfl,q1 _ H1 α1 Ext.refl h1 (.int (-i))⟩
 |_=>exact q1.elim
noncomputable def atD (xs:List D) (i:Int) (M:Sto):Out D:=match atI xs i with | some d=> .ok d M | none=> .bad
noncomputable def dIx:Bo:=fun x y M=>match x,y with
 | .tup xs,.int i=>atD xs i M
 | .rol xs,.int i=>atD xs i M
 | .ref n,.int i=>match M[n]? with | some (.lst xs)=>atD xs i M | _=> .bad
 |_,_=> .bad
theorem Reps.atI {K:PySem.W.Frag} {H:Hp} {α:List Addr} {vs:List V} {ds:List D} {i:Int} {d:D} (r:Reps K H α vs ds) (h:L2.atI ds i=some d): ∃ v,L2.atI vs i=some v/\Rep K H α v d:=by
 unfold L2.atI at h ⊢
 rw[r.length]
 cases e:ixN ds.length i with
 |none=>rw[e] at h;cases h
 |some j=>
  rw[e] at h
  exact r.get h
theorem Zpc:BO X ξ (fun x y H Q=>Zq8 X.K x y H Q\/Zq9 X.K x y H Q) dIx:=by
 intro H α M v w x y Q h rv rw' q
 have at': ∀ {ds:List D} {i:Int},OP X.K H α ξ Q (atD ds i M)-> ∃ d,L2.atI ds i=some d/\OP X.K H α ξ Q (.ok d M):=fun {ds i} q=>by
  unfold atD at q
  cases e:L2.atI ds i with
  |none=>rw[e] at q;exact q.elim
  |some d=>rw[e] at q;exact ⟨d,rfl,q⟩
 unfold dIx at q
 split at q
 ·rename_i ds i
  cases rw'
  cases rv with
  | @tup p xs _ hp rp=>
   obtain ⟨d,e,q⟩:=at' q
   obtain ⟨v,h1,h2⟩:=rp.atI e
   exact .inr ⟨p,xs,i,v,rfl,rfl,(SqT.of hp),h1,q v H α Ext.refl h h2⟩
 ·rename_i ds i
  cases rw'
  cases rv with
  | @rol p xs _ hp rp=>
   obtain ⟨d,e,q⟩:=at' q
   obtain ⟨v,h1,h2⟩:=rp.atI e
   exact .inl ⟨p,xs,i,v,rfl,rfl,hp.sq,h1,q v H α Ext.refl h h2⟩
 ·rename_i n i
  cases rw'
  cases rv with
  | @ref p _ hp=>
   split at q
   ·rename_i ds e1
    obtain ⟨d,e,q⟩:=at' q
    obtain ⟨xs,g1,r1⟩:=h.at hp e1
    obtain ⟨v,h1,h2⟩:=r1.atI e
    exact .inl ⟨p,xs,i,v,rfl,rfl,SqL.of g1,h1,q v H α Ext.refl h h2⟩
   ·exact q.elim
 ·exact q.elim
theorem ZC (ha:DE X ξ a fa) (hb:DE X ξ b fb) (hs:ZgT b:=by exact fun _ _=>rfl):DE X ξ (.Subscript a b pos) (e2 dIx fa fb):=by
 obtain ⟨ta,ha,qa⟩:=ha
 obtain ⟨tb,hb,qb⟩:=hb
 exact ⟨_,Zo6 (IxR.or Zkg Zl7) ha hb hs,two Zpc qa qb⟩
end
inductive Kd where
 |non | bl (b:Bool) | int (i:Int) | str (x:Str) | tup (xs:List D) | lst (xs:List D)
noncomputable def kd (M:Sto):D->Option Kd
 | .non=>some .non
 | .bl b=>some (.bl b)
 | .int i=>some (.int i)
 | .str x=>some (.str x)
 | .tup xs=>some (.tup xs)
 | .rol xs=>some (.lst xs)
 | .ref n=>match M[n]? with | some (.lst xs)=>some (.lst xs) | _=>none
 | .err _ _=>none
 | .dk _=>none
 | .dt _=>none
noncomputable def eqL (f:D->D->Option Bool):List D->List D->Option Bool
 | [],[]=>some true
 |x :: xs,y :: ys=>match f x y with | some a=>(match eqL f xs ys with | some b=>some (a && b) | none=>none) | none=>none
 |_,_=>some false
noncomputable def eqK (f:D->D->Option Bool):Kd->Kd->Option Bool
 | .non,.non=>some true
 | .bl a,.bl b=>some (a == b)
 | .bl a,.int b=>some ((if a then 1 else 0) == b)
 | .int a,.bl b=>some (a == (if b then 1 else 0))
 | .int a,.int b=>some (a == b)
 | .str a,.str b=>some (a == b)
 | .tup xs,.tup ys=>eqL f xs ys
 | .lst xs,.lst ys=>if xs.length=ys.length then eqL f xs ys else some false
 |_,_=>some false
noncomputable def eqF:Nat->Sto->D->D->Option Bool
 |0,_,_,_=>none
 |n + 1,M,x,y=>match kd M x,kd M y with | some a,some b=>eqK (eqF n M) a b | _,_=>none
inductive Vw (X:Cx) (H:Hp) (α:List Addr) (s:Shared):Kd->Value->Prop where
 |non:Vw X H α s .non .none
 |bl (b:Bool):Vw X H α s (.bl b) (.bool b)
 |int (i:Int) (t:Tok):Vw X H α s (.int i) (.int i t)
 |str (x:Str) (t:Tok):Vw X H α s (.str x) (.str x t)
 |tup {p:Addr} {xs:List V} {ds:List D} {its:List Value}:s.heap.IsTuple p its.toArray->ZW xs its->Reps X.K H α xs ds->Vw X H α s (.tup ds) (.ref p)
 |lst {p:Addr} {xs:List V} {ds:List D} {its:List Value}:s.heap.IsList p its.toArray->ZW xs its->Reps X.K H α xs ds->Vw X H α s (.lst ds) (.ref p)
section
variable {X:Cx} {ξ:XK} {pins:List (Addr × Obj)} {σ:L2.St} {H:Hp} {s:Shared} {α:List Addr} {M:Sto}
theorem vw (I:Inv X pins σ H s) (h:HR X.K H α M) {v:V} {x:D} {u:Value} {k:Kd} (r:Rep X.K H α v x) (ru:ZS v u) (e:kd M x=some k):Vw X H α s k u:=by
 cases r with
 |non=>cases e;cases ru;exact .non
 |bl b=>cases e;cases ru;exact .bl b
 |int i=>cases e;obtain ⟨t,rfl⟩:=ru;exact .int i t
 |str x=>cases e;obtain ⟨t,rfl⟩:=ru;exact .str x t
 |err _ _ _=>cases e
 |dk _=>cases e
 |dt _=>cases e
 | @tup p xs ds hp rp=>
  cases e;cases ru
  obtain ⟨its,h1,h2,_⟩:=I.tuple (SqT.of hp)
  exact .tup h2 h1 rp
 | @rol p xs ds hp rp=>
  cases e;cases ru
  obtain ⟨its,h1,h2,_⟩:=I.list hp.sq
  exact .lst h2.isList h1 rp
 | @ref p n hp=>
  cases ru
  cases e1:M[n]? with
  |none=>simp only[kd,e1] at e;cases e
  |some o=>
   cases o with
   |lst ds=>
    simp only[kd,e1] at e
    cases e
    obtain ⟨xs,g1,r1⟩:=h.at hp e1
    obtain ⟨its,h1,h2,_⟩:=I.list (SqL.of g1)
    exact .lst h2.isList h1 r1
noncomputable def Eq3 (A:Around) (s:Shared) (u z:Value) (b:Bool):Prop:=EqAt A s u z b/\RcAt A s u z b/\RcNeAt A s u z (!b)
theorem Zha {f:D->D->Option Bool}: ∀ {xs ys:List D} {b:Bool},eqL f xs ys=some b->
  (∀ (j:Nat) x y,xs[j]?=some x->ys[j]?=some y-> ∃ c,f x y=some c)/\
  b=((List.range (min xs.length ys.length)).all (fun j=>match xs[j]?,ys[j]? with | some x,some y=>(f x y).getD false | _,_=>false) && xs.length == ys.length)
 | [],[],b,e=>by
  simp only[eqL,Option.some.injEq] at e
  subst e
  exact ⟨fun j x y h=>(by simp at h),(by simp)⟩
 |x :: xs,[],b,e=>by
  simp only[eqL,Option.some.injEq] at e
  subst e
  exact ⟨fun j x y h1 h2=>(by simp at h2),(by simp)⟩
 | [],y :: ys,b,e=>by
  simp only[eqL,Option.some.injEq] at e
  subst e
  exact ⟨fun j x y h1 h2=>(by simp at h1),(by simp)⟩
 |x :: xs,y :: ys,b,e=>by
  cases e1:f x y with
  |none=>simp only[eqL,e1] at e;cases e
  |some a=>
   cases e2:eqL f xs ys with
   |none=>simp only[eqL,e1,e2] at e;cases e
   |some c=>
    simp only[eqL,e1,e2,Option.some.injEq] at e
    subst e
    obtain ⟨h1,h2⟩:=Zha e2
    refine ⟨fun j x' y' g1 g2=> ?_,?_⟩
    ·cases j with
     |zero=>
      simp at g1 g2
      subst g1 g2
      exact ⟨a,e1⟩
     |succ j=>
      simp at g1 g2
      exact h1 j x' y' g1 g2
    ·have em:min (x :: xs).length (y :: ys).length=min xs.length ys.length + 1:=by simp only[List.length_cons];omega
     rw[em,List.range_succ_eq_map,List.all_cons,List.all_map,h2]
     simp[e1,Bool.and_assoc,Function.comp_def]
theorem ZiC (I:Inv X pins σ H s) (h:HR X.K H α M): ∀ (n:Nat) {v:V} {x y:D} {b:Bool},Rep X.K H α v x->Rep X.K H α v y->eqF n M x y=some b->b=true:=by
 intro n
 induction n with
 |zero=>intro v x y b _ _ e;simp only[eqF] at e;cases e
 |succ n ih=>
  have lists: ∀ (vs:List V) (xs ys:List D) (b:Bool),Reps X.K H α vs xs->Reps X.K H α vs ys->eqL (eqF n M) xs ys=some b->b=true:=by
   intro vs
   induction vs with
   |nil=>
    intro xs ys b r1 r2 e
    cases r1;cases r2
    simp only[eqL,Option.some.injEq] at e
    exact e.symm
   |cons v vs iv=>
    intro xs ys b r1 r2 e
    cases r1 with
    |cons p1 t1=>
     cases r2 with
     |cons p2 t2=>
      rename_i d1 ds1 d2 ds2
      cases e1:eqF n M d1 d2 with
      |none=>simp only[eqL,e1] at e;cases e
      |some a=>
       cases e2:eqL (eqF n M) ds1 ds2 with
       |none=>simp only[eqL,e1,e2] at e;cases e
       |some c=>
        simp only[eqL,e1,e2,Option.some.injEq] at e
        rw[<- e,ih p1 p2 e1,iv _ _ _ t1 t2 e2]
        rfl
  intro v x y b r1 r2 e
  have nl: ∀ {p:Addr} {xs ys:List V},SqT X.K H p xs->SqL X.K H p ys->False:=fun {p xs ys} a c=>by
   obtain ⟨i1,_,⟨o1,g1,c1,_⟩,_⟩:=I.tuple a
   obtain ⟨i2,_,⟨o2,_,g2,c2,_⟩,_⟩:=I.list c
   rw[g1] at g2
   cases g2
   rw[c1] at c2
   exact absurd c2 (by decide)
  have ll: ∀ {p:Addr} {n:Nat} {ds:List D},RefK H α 0 n p->M[n]?=some (.lst ds)-> ∃ vs,SqL X.K H p vs/\Reps X.K H α vs ds:=fun {p n ds} a c=>by
   obtain ⟨xs,g1,r1⟩:=h.at a c
   exact ⟨xs,SqL.of g1,r1⟩
  cases r1 with
  |non=>cases r2;simp only[eqF,kd,eqK,Option.some.injEq] at e;exact e.symm
  |bl c=>cases r2;simp only[eqF,kd,eqK,Option.some.injEq,beq_self_eq_true] at e;exact e.symm
  |int c=>cases r2;simp only[eqF,kd,eqK,Option.some.injEq,beq_self_eq_true] at e;exact e.symm
  |str c=>cases r2;simp only[eqF,kd,eqK,Option.some.injEq,beq_self_eq_true] at e;exact e.symm
  |err _ _ _=>simp[eqF,kd] at e
  |dk _=>simp[eqF,kd] at e
  |dt _=>simp[eqF,kd] at e
  | @tup p xs ds hp rp=>
   cases r2 with
   | @tup _ xs2 ds2 hp2 rp2=>
    cases I.tuple_inj (SqT.of hp) (SqT.of hp2)
    simp only[eqF,kd,eqK] at e
    exact lists _ _ _ _ rp rp2 e
   | @rol _ xs2 ds2 hp2 rp2=>exact (nl (SqT.of hp) hp2.sq).elim
   |err _ _ _=>simp[eqF,kd] at e
   |dk _=>simp[eqF,kd] at e
   |dt _=>simp[eqF,kd] at e
   | @ref _ n2 hp2=>
    obtain ⟨ys,g⟩:=h.some_at hp2
    exact (nl (SqT.of hp) (SqL.of g)).elim
  | @rol p xs ds hp rp=>
   cases r2 with
   | @tup _ xs2 ds2 hp2 rp2=>exact (nl (SqT.of hp2) hp.sq).elim
   |err _ _ _=>simp[eqF,kd] at e
   |dk _=>simp[eqF,kd] at e
   |dt _=>simp[eqF,kd] at e
   | @rol _ xs2 ds2 hp2 rp2=>
    cases I.list_inj hp.sq hp2.sq
    simp only[eqF,kd,eqK,if_pos (rp.length.symm.trans rp2.length)] at e
    exact lists _ _ _ _ rp rp2 e
   | @ref _ n2 hp2=>
    cases e1:M[n2]? with
    |none=>simp only[eqF,kd,e1] at e;cases e
    |some o=>
     cases o with
     |lst ds2=>
      obtain ⟨ys,g,r⟩:=ll hp2 e1
      cases I.list_inj hp.sq g
      simp only[eqF,kd,e1,eqK,if_pos (rp.length.symm.trans r.length)] at e
      exact lists _ _ _ _ rp r e
  | @ref p n1 hp=>
   cases e0:M[n1]? with
   |none=>simp only[eqF,kd,e0] at e;cases e
   |some o0=>
    cases o0 with
    |lst ds=>
     obtain ⟨xs,g0,rp⟩:=ll hp e0
     cases r2 with
     | @tup _ xs2 ds2 hp2 rp2=>exact (nl (SqT.of hp2) g0).elim
     |err _ _ _=>simp[eqF,kd,e0] at e
     |dk _=>simp[eqF,kd,e0] at e
     |dt _=>simp[eqF,kd,e0] at e
     | @rol _ xs2 ds2 hp2 rp2=>
      cases I.list_inj g0 hp2.sq
      simp only[eqF,kd,e0,eqK,if_pos (rp.length.symm.trans rp2.length)] at e
      exact lists _ _ _ _ rp rp2 e
     | @ref _ n2 hp2=>
      cases e1:M[n2]? with
      |none=>simp only[eqF,kd,e0,e1] at e;cases e
      |some o=>
       cases o with
       |lst ds2=>
        obtain ⟨ys,g,r⟩:=ll hp2 e1
        cases I.list_inj g0 g
        simp only[eqF,kd,e0,e1,eqK,if_pos (rp.length.symm.trans r.length)] at e
        exact lists _ _ _ _ rp r e
end
end DL
end
section
namespace DL
open PySem PySem.Spec PyProof.Rows L2
open PySem.SeqAt (EqAt RcAt RcNeAt)
section
variable {X:Cx} {ξ:XK} {pins:List (Addr × Obj)} {σ:L2.St} {H:Hp} {s:Shared} {α:List Addr} {M:Sto}
theorem ZfF {A:Around} {n:Nat} {xs1 xs2:List V} {ds1 ds2:List D} {i1 i2:List Value} {b:Bool} (v1:ZW xs1 i1) (v2:ZW xs2 i2) (r1:Reps X.K H α xs1 ds1) (r2:Reps X.K H α xs2 ds2)
  (ih: ∀ (x y:D) (v w:V) (u z:Value) (b:Bool),eqF n M x y=some b->Rep X.K H α v x->Rep X.K H α w y->ZS v u->ZS w z->EqAt A s u z b) (e:eqL (eqF n M) ds1 ds2=some b):
  ∃ f:Nat->Bool,(∀ (j:Nat) (h1:j < i1.toArray.size) (h2:j < i2.toArray.size),EqAt A s i1.toArray[j] i2.toArray[j] (f j))/\b=((List.range (min i1.toArray.size i2.toArray.size)).all f && i1.toArray.size == i2.toArray.size):=by
 obtain ⟨g1,g2⟩:=Zha e
 have l1:i1.toArray.size=ds1.length:=by rw[List.size_toArray,<- v1.length,r1.length]
 have l2:i2.toArray.size=ds2.length:=by rw[List.size_toArray,<- v2.length,r2.length]
 refine ⟨_,fun j h1 h2=> ?_,by rw[l1,l2];exact g2⟩
 have k1:j < ds1.length:=by rw[<- l1];exact h1
 have k2:j < ds2.length:=by rw[<- l2];exact h2
 obtain ⟨c,hc⟩:=g1 j _ _ (List.getElem?_eq_getElem k1) (List.getElem?_eq_getElem k2)
 obtain ⟨v,a1,a2⟩:=r1.get (List.getElem?_eq_getElem k1)
 obtain ⟨w,b1,b2⟩:=r2.get (List.getElem?_eq_getElem k2)
 obtain ⟨u,a3,a4⟩:=v1.get a1
 obtain ⟨z,b3,b4⟩:=v2.get b1
 have q:=ih _ _ v w u z c hc a2 b2 a4 b4
 simp only[List.getElem?_eq_getElem k1,List.getElem?_eq_getElem k2,hc,Option.getD_some]
 have e1:i1.toArray[j]=u:=by
  have:=List.getElem?_eq_some_iff.mp a3
  obtain ⟨_,z⟩:=this
  simpa using z
 have e2:i2.toArray[j]=z:=by
  have:=List.getElem?_eq_some_iff.mp b3
  obtain ⟨_,z⟩:=this
  simpa using z
 rw[e1,e2]
 exact q
theorem Zhb (I:Inv X pins σ H s) (h:HR X.K H α M) {n:Nat} {x y:D} {v w:V} {p q:Addr} {b:Bool} {A:Around} (e:eqF n M x y=some b) (rx:Rep X.K H α v x) (ry:Rep X.K H α w y) (rv:ZS v (.ref p)) (rw':ZS w (.ref q))
  (k:RcAt A s (.ref p) (.ref q) b) (k':RcNeAt A s (.ref p) (.ref q) (!b)):Eq3 A s (.ref p) (.ref q) b:=by
 refine ⟨?_,k,k'⟩
 by_cases c:p=q
 ·subst c
  cases ZS.inj rv rw'
  rw[ZiC I h n rx ry e]
  exact EqAt.same _
 ·exact EqAt.of_refs c k
theorem eq3 (I:Inv X pins σ H s) (h:HR X.K H α M): ∀ (n:Nat) (x y:D) (v w:V) (u z:Value) (b:Bool) (A:Around),A.units + n < cLine->eqF n M x y=some b->Rep X.K H α v x->Rep X.K H α w y->ZS v u->ZS w z->Eq3 A s u z b:=by
 intro n
 induction n with
 |zero=>intro x y v w u z b A _ e;simp only[eqF] at e;cases e
 |succ n ih=>
  intro x y v w u z b A hn e rx ry rv rw'
  have hu:A.units < cLine:=by omega
  have e0:=e
  unfold eqF at e
  cases ka:kd M x with
  |none=>rw[ka] at e;cases e
  |some ka'=>
   cases kb:kd M y with
   |none=>rw[ka,kb] at e;cases e
   |some kb'=>
    rw[ka,kb] at e
    have va:=vw I h rx rv ka
    have vb:=vw I h ry rw' kb
    have deep: ∀ (x y:D) (v w:V) (u z:Value) (b:Bool),eqF n M x y=some b->Rep X.K H α v x->Rep X.K H α w y->ZS v u->ZS w z->EqAt A.in1 s u z b:=fun x y v w u z b e a1 a2 a3 a4=>
     (ih x y v w u z b A.in1 (by rw[Around.in1_units];omega) e a1 a2 a3 a4).1
    cases va with
    |non=>
     cases vb<;>simp only[eqK,Option.some.injEq] at e<;>subst e
     ·exact ⟨EqAt.same _,.none_none,.none_none⟩
     ·exact ⟨.none_bool _,.none_bool _,.none_bool _⟩
     ·exact ⟨.none_int _ _,.none_int _ _,.none_int _ _⟩
     ·exact ⟨.none_str _ _,.none_str _ _,.none_str _ _⟩
     ·rename_i g _ _;exact ⟨.none_tuple g hu,.none_tuple g hu,.none_tuple g hu⟩
     ·rename_i g _ _;exact ⟨.none_list g hu,.none_list g hu,.none_list g hu⟩
    |bl c=>
     cases vb<;>simp only[eqK,Option.some.injEq] at e<;>subst e
     ·exact ⟨.bool_none _,.bool_none _,.bool_none _⟩
     ·exact ⟨.bool_bool _ _,.bool_bool _ _,.bool_bool _ _⟩
     ·exact ⟨.bool_int _ _ _,.bool_int _ _ _,.bool_int _ _ _⟩
     ·exact ⟨.bool_str _ _ _,.bool_str _ _ _,.bool_str _ _ _⟩
     ·rename_i g _ _;exact ⟨.bool_tuple _ g hu,.bool_tuple _ g hu,.bool_tuple _ g hu⟩
     ·rename_i g _ _;exact ⟨.bool_list _ g hu,.bool_list _ g hu,.bool_list _ g hu⟩
    |int c t=>
     cases vb<;>simp only[eqK,Option.some.injEq] at e<;>subst e
     ·exact ⟨.int_none _ _,.int_none _ _,.int_none _ _⟩
     ·exact ⟨.int_bool _ _ _,.int_bool _ _ _,.int_bool _ _ _⟩
     ·exact ⟨.int_int _ _ _ _,.int_int _ _ _ _,.int_int _ _ _ _⟩
     ·exact ⟨.int_str _ _ _ _,.int_str _ _ _ _,.int_str _ _ _ _⟩
     ·rename_i g _ _;exact ⟨.int_tuple _ _ g hu,.int_tuple _ _ g hu,.int_tuple _ _ g hu⟩
     ·rename_i g _ _;exact ⟨.int_list _ _ g hu,.int_list _ _ g hu,.int_list _ _ g hu⟩
    |str c t=>
     cases vb<;>simp only[eqK,Option.some.injEq] at e<;>subst e
     ·exact ⟨.str_none _ _,.str_none _ _,.str_none _ _⟩
     ·exact ⟨.str_bool _ _ _,.str_bool _ _ _,.str_bool _ _ _⟩
     ·exact ⟨.str_int _ _ _ _,.str_int _ _ _ _,.str_int _ _ _ _⟩
     ·exact ⟨.str_str _ _ _ _,.str_str _ _ _ _,.str_str _ _ _ _⟩
     ·rename_i g _ _;exact ⟨.str_tuple _ _ g hu,.str_tuple _ _ g hu,.str_tuple _ _ g hu⟩
     ·rename_i g _ _;exact ⟨.str_list _ _ g hu,.str_list _ _ g hu,.str_list _ _ g hu⟩
    | @tup p xs ds its g1 w1 q1=>
     cases vb with
     | @tup p2 xs2 ds2 its2 g2 w2 q2=>
      simp only[eqK] at e
      obtain ⟨f,hf,hb⟩:=ZfF w1 w2 q1 q2 deep e
      subst hb
      exact Zhb I h e0 rx ry rv rw' (.tuples g1 g2 hu hf) (.tuples g1 g2 hu hf)
     | @lst p2 xs2 ds2 its2 g2 w2 q2=>
      simp only[eqK,Option.some.injEq] at e
      subst e
      exact Zhb I h e0 rx ry rv rw' (.tuple_list g1 g2 hu) (.tuple_list g1 g2 hu)
     |non=>simp only[eqK,Option.some.injEq] at e;subst e;exact ⟨.tuple_none g1 hu,.tuple_none g1 hu,.tuple_none g1 hu⟩
     |bl c=>simp only[eqK,Option.some.injEq] at e;subst e;exact ⟨.tuple_bool _ g1 hu,.tuple_bool _ g1 hu,.tuple_bool _ g1 hu⟩
     |int c t=>simp only[eqK,Option.some.injEq] at e;subst e;exact ⟨.tuple_int _ _ g1 hu,.tuple_int _ _ g1 hu,.tuple_int _ _ g1 hu⟩
     |str c t=>simp only[eqK,Option.some.injEq] at e;subst e;exact ⟨.tuple_str _ _ g1 hu,.tuple_str _ _ g1 hu,.tuple_str _ _ g1 hu⟩
    | @lst p xs ds its g1 w1 q1=>
     cases vb with
     | @lst p2 xs2 ds2 its2 g2 w2 q2=>
      simp only[eqK] at e
      have l1:its.toArray.size=ds.length:=by rw[List.size_toArray,<- w1.length,q1.length]
      have l2:its2.toArray.size=ds2.length:=by rw[List.size_toArray,<- w2.length,q2.length]
      by_cases c:ds.length=ds2.length
      ·rw[if_pos c] at e
       have hs:its.toArray.size=its2.toArray.size:=by rw[l1,l2,c]
       obtain ⟨f,hf,hb⟩:=ZfF w1 w2 q1 q2 deep e
       rw[hs,Nat.min_self,beq_self_eq_true,Bool.and_true,<- hs] at hb
       subst hb
       exact Zhb I h e0 rx ry rv rw' (.lists g1 g2 hs hu hf) (.lists g1 g2 hs hu hf)
      ·rw[if_neg c] at e
       have e':false=b:=Option.some.inj e
       subst e'
       have hs:(its.toArray.size != its2.toArray.size)=true:=by rw[l1,l2];simpa using c
       exact Zhb I h e0 rx ry rv rw' (.lists_lengths g1 g2 hs hu) (.lists_lengths g1 g2 hs hu)
     | @tup p2 xs2 ds2 its2 g2 w2 q2=>
      simp only[eqK,Option.some.injEq] at e
      subst e
      exact Zhb I h e0 rx ry rv rw' (.list_tuple g1 g2 hu) (.list_tuple g1 g2 hu)
     |non=>simp only[eqK,Option.some.injEq] at e;subst e;exact ⟨.list_none g1 hu,.list_none g1 hu,.list_none g1 hu⟩
     |bl c=>simp only[eqK,Option.some.injEq] at e;subst e;exact ⟨.list_bool _ g1 hu,.list_bool _ g1 hu,.list_bool _ g1 hu⟩
     |int c t=>simp only[eqK,Option.some.injEq] at e;subst e;exact ⟨.list_int _ _ g1 hu,.list_int _ _ g1 hu,.list_int _ _ g1 hu⟩
     |str c t=>simp only[eqK,Option.some.injEq] at e;subst e;exact ⟨.list_str _ _ g1 hu,.list_str _ _ g1 hu,.list_str _ _ g1 hu⟩
end
section
variable {X:Cx} {ξ:XK}
noncomputable def ZoI (X:Cx) (neg:Bool):R2:=fun v w H Q=> ∃ α M x y b,HR X.K H α M/\Rep X.K H α v x/\Rep X.K H α w y/\eqF 12 M x y=some b/\Q (.bl (neg ^^ b)) H
theorem Zdo (hu:X.A.units + 64 < cLine):OpR X (compareOp .Eq) (ZoI X false):=by
 intro pins s σ H v w u z Q I rv rw' ⟨α,M,x,y,b,h,rx,ry,e,q⟩
 refine (eq3 I h 12 x y v w u z b X.A (by omega) e rx ry rv rw').2.1 _ _ _ _ ⟨.bl b,H,I,rfl,?_⟩
 simpa using q
theorem Zdp (hu:X.A.units + 64 < cLine):OpR X (compareOp .NotEq) (ZoI X true):=by
 intro pins s σ H v w u z Q I rv rw' ⟨α,M,x,y,b,h,rx,ry,e,q⟩
 refine (eq3 I h 12 x y v w u z b X.A (by omega) e rx ry rv rw').2.2 _ _ _ _ ⟨.bl (!b),H,I,rfl,?_⟩
 simpa using q
noncomputable def dEq:Bo:=fun x y M=>match eqF 12 M x y with | some b=> .ok (.bl b) M | none=> .bad
noncomputable def dNe:Bo:=fun x y M=>match eqF 12 M x y with | some b=> .ok (.bl (!b)) M | none=> .bad
theorem Zgb:BO X ξ (ZoI X false) dEq:=by
 intro H α M v w x y Q h rv rw' q
 unfold dEq at q
 cases e:eqF 12 M x y with
 |none=>rw[e] at q;exact q.elim
 |some b=>rw[e] at q;exact ⟨α,M,x,y,b,h,rv,rw',e,by simpa using q _ H α Ext.refl h (.bl b)⟩
theorem Zgc:BO X ξ (ZoI X true) dNe:=by
 intro H α M v w x y Q h rv rw' q
 unfold dNe at q
 cases e:eqF 12 M x y with
 |none=>rw[e] at q;exact q.elim
 |some b=>rw[e] at q;exact ⟨α,M,x,y,b,h,rv,rw',e,by simpa using q _ H α Ext.refl h (.bl (!b))⟩
noncomputable def Zhc:V->Bool
 | .non=>true
 | .bl _=>true
 |_=>false
noncomputable def rIs (neg:Bool):R2:=fun v w H Q=>Zhc w=true/\Q (.bl (neg ^^ decide (v=w))) H
theorem ZfG {v w:V} {u z:Value} (rv:ZS v u) (rw':ZS w z) (p:Zhc w=true):plainIs u z=true/\(u == z)=decide (v=w):=by
 cases w with
 |non=>
  cases rw'
  cases v with
  |non=>cases rv;exact ⟨rfl,rfl⟩
  |bl b=>cases rv;exact ⟨rfl,by rw[decide_eq_false (fun z=>(nomatch z))];rfl⟩
  |int b=>obtain ⟨t,rfl⟩:=rv;exact ⟨rfl,by rw[decide_eq_false (fun z=>(nomatch z))];rfl⟩
  |str b=>obtain ⟨t,rfl⟩:=rv;exact ⟨rfl,by rw[decide_eq_false (fun z=>(nomatch z))];rfl⟩
  |byt b=>obtain ⟨t,rfl⟩:=rv;exact ⟨rfl,by rw[decide_eq_false (fun z=>(nomatch z))];rfl⟩
  |flt b=>obtain ⟨t,rfl⟩:=rv;exact ⟨rfl,by rw[decide_eq_false (fun z=>(nomatch z))];rfl⟩
  |ref b=>cases rv;exact ⟨rfl,by rw[decide_eq_false (fun z=>(nomatch z))];rfl⟩
  |ty b=>cases rv;exact ⟨rfl,by rw[decide_eq_false (fun z=>(nomatch z))];rfl⟩
 |bl c=>
  cases rw'
  cases v with
  |non=>cases rv;exact ⟨rfl,by rw[decide_eq_false (fun z=>(nomatch z))];rfl⟩
  |bl b=>cases rv;refine ⟨rfl,?_⟩;cases b<;>cases c<;>rfl
  |int b=>obtain ⟨t,rfl⟩:=rv;exact ⟨rfl,by rw[decide_eq_false (fun z=>(nomatch z))];rfl⟩
  |str b=>obtain ⟨t,rfl⟩:=rv;exact ⟨rfl,by rw[decide_eq_false (fun z=>(nomatch z))];rfl⟩
  |byt b=>obtain ⟨t,rfl⟩:=rv;exact ⟨rfl,by rw[decide_eq_false (fun z=>(nomatch z))];rfl⟩
  |flt b=>obtain ⟨t,rfl⟩:=rv;exact ⟨rfl,by rw[decide_eq_false (fun z=>(nomatch z))];rfl⟩
  |ref b=>cases rv;exact ⟨rfl,by rw[decide_eq_false (fun z=>(nomatch z))];rfl⟩
  |ty b=>cases rv;exact ⟨rfl,by rw[decide_eq_false (fun z=>(nomatch z))];rfl⟩
 |_=>cases p
theorem Zmp:OpR X (compareOp .Is) (rIs false):=by
 intro pins s σ H v w u z Q I rv rw' ⟨p,q⟩
 obtain ⟨h1,h2⟩:=ZfG rv rw' p
 refine wpAny_is_plain h1 ⟨.bl (u == z),H,I,rfl,?_⟩
 rw[h2]
 simpa using q
theorem Zhd:OpR X (compareOp .IsNot) (rIs true):=by
 intro pins s σ H v w u z Q I rv rw' ⟨p,q⟩
 obtain ⟨h1,h2⟩:=ZfG rv rw' p
 refine wpAny_isNot_plain h1 ⟨.bl (!(u == z)),H,I,rfl,?_⟩
 rw[h2]
 simpa using q
noncomputable def isP:D->D->Option Bool
 | .non,.non=>some true
 | .bl a,.bl b=>some (a == b)
 |_,.non=>some false
 |_,.bl _=>some false
 |_,_=>none
noncomputable def dIs:Bo:=fun x y M=>match isP x y with | some b=> .ok (.bl b) M | none=> .bad
noncomputable def dIsNot:Bo:=fun x y M=>match isP x y with | some b=> .ok (.bl (!b)) M | none=> .bad
theorem Zjr {K:PySem.W.Frag} {H:Hp} {α:List Addr} {v w:V} {x y:D} {b:Bool} (rv:Rep K H α v x) (rw':Rep K H α w y) (e:isP x y=some b):Zhc w=true/\decide (v=w)=b:=by
 cases rw' with
 |non=>cases rv<;>cases e<;>exact ⟨rfl,by first | rfl | exact decide_eq_false (fun z=>(nomatch z))⟩
 |bl c=>
  cases rv with
  |bl d=>cases e;refine ⟨rfl,?_⟩;cases c<;>cases d<;>rfl
  |_=>cases e;exact ⟨rfl,decide_eq_false (fun z=>(nomatch z))⟩
 |_=>cases rv<;>cases e
theorem Zpd:BO X ξ (rIs false) dIs:=by
 intro H α M v w x y Q h rv rw' q
 unfold dIs at q
 cases e:isP x y with
 |none=>rw[e] at q;exact q.elim
 |some b=>
  rw[e] at q
  obtain ⟨p,d⟩:=Zjr rv rw' e
  exact ⟨p,by rw[d];simpa using q _ H α Ext.refl h (.bl b)⟩
theorem ZiD:BO X ξ (rIs true) dIsNot:=by
 intro H α M v w x y Q h rv rw' q
 unfold dIsNot at q
 cases e:isP x y with
 |none=>rw[e] at q;exact q.elim
 |some b=>
  rw[e] at q
  obtain ⟨p,d⟩:=Zjr rv rw' e
  exact ⟨p,by rw[d];simpa using q _ H α Ext.refl h (.bl (!b))⟩
noncomputable def Zmq:D->Bool
 | .non=>true
 | .bl _=>true
 | .int _=>true
 | .str _=>true
 |_=>false
noncomputable def Zsn:D->D->Bool
 | .non,.non=>true
 | .bl a,.bl b=>a == b
 | .bl a,.int b=>(if a then 1 else 0) == b
 | .int a,.bl b=>a == (if b then 1 else 0)
 | .int a,.int b=>a == b
 | .str a,.str b=>a == b
 |_,_=>false
noncomputable def ZeR (M:Sto):D->Option (List D)
 | .tup xs=>some xs
 | .rol xs=>some xs
 | .ref n=>match M[n]? with | some (.lst xs)=>some xs | _=>none
 |_=>none
theorem Ze0 {K:PySem.W.Frag} {H:Hp} {α:List Addr} {M:Sto} (h:HR K H α M) {v:V} {x:D} {ds:List D} (r:Rep K H α v x) (e:ZeR M x=some ds): ∃ p xs,v= .ref p/\(SqL K H p xs\/SqT K H p xs)/\Reps K H α xs ds:=by
 cases r with
 | @tup p xs ds hp rp=>cases e;exact ⟨p,xs,rfl,.inr (SqT.of hp),rp⟩
 | @rol p xs ds hp rp=>cases e;exact ⟨p,xs,rfl,.inl hp.sq,rp⟩
 | @ref p n hp=>
  cases e1:M[n]? with
  |none=>simp only[ZeR,e1] at e;cases e
  |some o=>
   cases o with
   |lst es=>
    simp only[ZeR,e1] at e
    cases e
    obtain ⟨xs,g1,r1⟩:=h.at hp e1
    exact ⟨p,xs,rfl,.inl (SqL.of g1),r1⟩
 |_=>cases e
noncomputable def inD (x y:D) (M:Sto):Option Bool:=match ZeR M y with | some ds=>if Zmq x=true/\ds.all Zmq=true then some (ds.any fun y=>Zsn y x) else none | none=>none
variable {e:Expr} {es:List Expr} {fs:Av} {fa:Ev} {p pos:Pos} {x:Str} {id T:String} {r:List V->Hp->VK->Prop} {f:List D->Sto->Out D}
noncomputable def Zh (f:List D->Sto->Out D) (fs:Av):Ev:=fun ρ M=>(fs ρ M).bind f
noncomputable def CO (X:Cx) (ξ:XK) (r:List V->Hp->VK->Prop) (f:List D->Sto->Out D):Prop:= ∀ H α M vs ds Q,HR X.K H α M->Reps X.K H α vs ds->OP X.K H α ξ Q (f ds M)->r vs H Q
theorem Zt (hc:Zb7 X (.builtin id) r) (hf:CO X ξ r f) (hm:X.mg x=none) (hv:bootBuiltins x=some (.builtin id)) (ha:DA X ξ (e :: es) fs) (hg:Gl X x:=by rfl) (hn:x≠"__name__":=by decide) (hdb:(x == ("__debug__":Str))=false:=by decide)
  (he:starEach (e :: es) X.env=(false,eval e X.env) :: starEach es X.env:=by rfl) (hpl:(backTo pos (starEach es X.env)).any (·.1)=false:=by rfl):DE X ξ (.Call (.Name x p) (e :: es) [] pos) (Zh f fs):=by
 obtain ⟨ta,ha,qa⟩:=ha
 refine ⟨_,ZfC hc hg hm hv ha hn hdb he hpl,fun σ ρ H α M Q s h q=> ?_⟩
 exact qa σ ρ H α M _ s h (OG.seq q fun ds M1 vs H1 α1 e1 h1 r1 q1=>hf H1 α1 M1 vs ds Q h1 r1 q1)
theorem ZX (hc:Zb7 X (.type T) r) (hf:CO X ξ r f) (hm:X.mg x=none) (hv:bootBuiltins x=some (.type T)) (ha:DA X ξ (e :: es) fs) (hg:Gl X x:=by rfl) (hn:x≠"__name__":=by decide) (hdb:(x == ("__debug__":Str))=false:=by decide)
  (he:starEach (e :: es) X.env=(false,eval e X.env) :: starEach es X.env:=by rfl) (hpl:(backTo pos (starEach es X.env)).any (·.1)=false:=by rfl):DE X ξ (.Call (.Name x p) (e :: es) [] pos) (Zh f fs):=by
 obtain ⟨ta,ha,qa⟩:=ha
 refine ⟨_,ZgP hc hg hm hv ha hn hdb he hpl,fun σ ρ H α M Q s h q=> ?_⟩
 exact qa σ ρ H α M _ s h (OG.seq q fun ds M1 vs H1 α1 e1 h1 r1 q1=>hf H1 α1 M1 vs ds Q h1 r1 q1)
noncomputable def bLen:List D->Sto->Out D:=fun ds M=>match ds with
 | [x]=>match ZeR M x with | some xs=> .ok (.int xs.length) M | none=> .bad
 |_=> .bad
theorem ZaY:CO X ξ (fun xs H Q=> ∃ p ys,xs=[.ref p]/\(SqL X.K H p ys\/SqT X.K H p ys)/\Q (.int ys.length) H) bLen:=by
 intro H α M vs ds Q h rs q
 unfold bLen at q
 cases rs with
 |nil=>exact q.elim
 | @cons v x vs ds r t=>
  cases t with
  |cons _ _=>exact q.elim
  |nil=>
  cases e:ZeR M x with
  |none=>simp only[e] at q;exact q.elim
  |some ys=>
   simp only[e] at q
   obtain ⟨p,xs,rfl,h2,h3⟩:=Ze0 h r e
   exact ⟨p,xs,rfl,h2,by rw[h3.length];exact q _ H α Ext.refl h (.int _)⟩
noncomputable def bAbs:List D->Sto->Out D:=fun ds M=>match ds with | [.int i]=> .ok (.int (if i < 0 then -i else i)) M | _=> .bad
theorem Zdq:CO X ξ (fun xs H Q=> ∃ i,xs=[.int i]/\Q (.int (if i < 0 then -i else i)) H) bAbs:=by
 intro H α M vs ds Q h rs q
 unfold bAbs at q
 split at q
 ·cases rs with
  |cons r t=>
   cases t
   cases r
   exact ⟨_,rfl,q _ H α Ext.refl h (.int _)⟩
 ·exact q.elim
noncomputable def bMax:List D->Sto->Out D:=fun ds M=>match ds with | [.int i,.int j]=> .ok (.int (if j > i then j else i)) M | _=> .bad
noncomputable def bMin:List D->Sto->Out D:=fun ds M=>match ds with | [.int i,.int j]=> .ok (.int (if j < i then j else i)) M | _=> .bad
theorem Zjs {g:Int->Int->Int} {f:List D->Sto->Out D} (hf: ∀ ds M,f ds M=match ds with | [.int i,.int j]=> .ok (.int (g i j)) M | _=> .bad):CO X ξ (fun xs H Q=> ∃ i j,xs=[.int i,.int j]/\Q (.int (g i j)) H) f:=by
 intro H α M vs ds Q h rs q
 rw[hf] at q
 split at q
 ·rename_i i j
  cases rs with
  |cons r t=>
   cases t with
   |cons r' t'=>
    cases t'
    cases r
    cases r'
    exact ⟨i,j,rfl,q _ H α Ext.refl h (.int _)⟩
 ·exact q.elim
theorem Zhe:CO X ξ (fun xs H Q=> ∃ i j,xs=[.int i,.int j]/\Q (.int (if j > i then j else i)) H) bMax:=Zjs (g:=fun i j=>if j > i then j else i) fun ds M=>rfl
theorem Zmr:CO X ξ (fun xs H Q=> ∃ i j,xs=[.int i,.int j]/\Q (.int (if j < i then j else i)) H) bMin:=Zjs (g:=fun i j=>if j < i then j else i) fun ds M=>rfl
noncomputable def bInt:List D->Sto->Out D:=fun ds M=>match ds with | [.int i]=> .ok (.int i) M | [.bl k]=> .ok (.int (if k then 1 else 0)) M | _=> .bad
theorem ZcP:CO X ξ (fun xs H Q=>(∃ i,xs=[.int i]/\Q (.int i) H)\/ ∃ k,xs=[.bl k]/\Q (.int (if k then 1 else 0)) H) bInt:=by
 intro H α M vs ds Q h rs q
 unfold bInt at q
 split at q
 ·cases rs with
  |cons r t=>
   cases t
   cases r
   exact .inl ⟨_,rfl,q _ H α Ext.refl h (.int _)⟩
 ·cases rs with
  |cons r t=>
   cases t
   cases r
   exact .inr ⟨_,rfl,q _ H α Ext.refl h (.int _)⟩
 ·exact q.elim
noncomputable def bList:List D->Sto->Out D:=fun ds M=>match ds with
 | [x]=>match ZeR M x with | some xs=> .ok (.ref M.length) (M ++ [.lst xs]) | none=> .bad
 |_=> .bad
theorem ZdG:CO X ξ (fun xs H Q=> ∃ p ys,xs=[.ref p]/\(SqL X.K H p ys\/SqT X.K H p ys)/\ ∀ l,H l=none->Q (.ref l) (upd H l (.lst ys))) bList:=by
 intro H α M vs ds Q h rs q
 unfold bList at q
 cases rs with
 |nil=>exact q.elim
 | @cons v x vs ds r t=>
  cases t with
  |cons _ _=>exact q.elim
  |nil=>
  cases e:ZeR M x with
  |none=>simp only[e] at q;exact q.elim
  |some ys=>
   simp only[e] at q
   obtain ⟨p,xs,rfl,h2,h3⟩:=Ze0 h r e
   exact ⟨p,xs,rfl,h2,fun l hl=>q _ _ (α ++ [l]) (Ext.new hl) (h.new hl h3) (.ref ⟨h.last l,Kn.lst Zr⟩)⟩
noncomputable def Zbr (M:Sto) (x:D):Option String:=match kd M x with
 |some .non=>some "NoneType"
 |some (.bl _)=>some "bool"
 |some (.int _)=>some "int"
 |some (.str _)=>some "str"
 |some (.tup _)=>some "tuple"
 |some (.lst _)=>some "list"
 |none=>none
noncomputable def ZcQ (t T:String):Bool:=t == T || (t == "bool" && T == "int")
noncomputable def Zms (T:String) (f:Ev):Ev:=fun ρ M=>(f ρ M).bind fun x M1=>match Zbr M1 x with | some t=> .ok (.bl (ZcQ t T)) M1 | none=> .bad
noncomputable def Zso (X:Cx) (T:String):List V->Hp->VK->Prop:=fun vs H Q=> ∃ v α M x t,vs=[v,.ty T]/\HR X.K H α M/\Rep X.K H α v x/\Zbr M x=some t/\Q (.bl (ZcQ t T)) H
structure Kit (K:PySem.W.Frag) (T:String):Prop where
 non:PySem.W.kitOne K (.type "NoneType") (.type T)=some (ZcQ "NoneType" T)
 bl:PySem.W.kitOne K (.type "bool") (.type T)=some (ZcQ "bool" T)
 int:PySem.W.kitOne K (.type "int") (.type T)=some (ZcQ "int" T)
 str:PySem.W.kitOne K (.type "str") (.type T)=some (ZcQ "str" T)
 tup:PySem.W.kitOne K (.type "tuple") (.type T)=some (ZcQ "tuple" T)
 lst:PySem.W.kitOne K (.type "list") (.type T)=some (ZcQ "list" T)
theorem Zhf {K:PySem.W.Frag}:Kit K "tuple":=⟨rfl,rfl,rfl,rfl,rfl,rfl⟩
theorem ZiE {K:PySem.W.Frag}:Kit K "list":=⟨rfl,rfl,rfl,rfl,rfl,rfl⟩
theorem ZiF (kt:Kit X.K T):Zb7 X (.builtin "isinstance") (Zso X T):=by
 intro pins s σ H vs us Q I rs ⟨v,α,M,x,t,e1,h,rx,et,q⟩
 subst e1
 obtain ⟨u,w,rfl,ru,rw'⟩:=ZgL rs
 cases rw'
 unfold Zbr at et
 cases ek:kd M x with
 |none=>rw[ek] at et;cases et
 |some k=>
  rw[ek] at et
  have va:=vw I h rx ru ek
  have fin: ∀ tk,EP X pins σ Q (.bool (ZcQ t T)) { s with toks:=tk }:=fun tk=>⟨.bl _,H,I.tok tk,rfl,q⟩
  cases va with
  |non=>cases et;exact PySem.W.kia_one PySem.W.kitx_none I.kIn True.intro kt.non (fun z=>nomatch z) fin
  |bl b=>cases et;exact PySem.W.kia_one PySem.W.kitx_bool I.kIn True.intro kt.bl (fun z=>nomatch z) fin
  |int i t=>cases et;exact PySem.W.kia_one PySem.W.kitx_int I.kIn True.intro kt.int (fun z=>nomatch z) fin
  |str i t=>cases et;exact PySem.W.kia_one PySem.W.kitx_str I.kIn True.intro kt.str (fun z=>nomatch z) fin
  |tup g _ _=>cases et;obtain ⟨o,h1,h2,_⟩:=g;exact PySem.W.kia_one PySem.W.kitx_tuple I.kIn ⟨o,h1,h2⟩ kt.tup (fun z=>nomatch z) fin
  |lst g _ _=>cases et;obtain ⟨o,h1,h2,_⟩:=g;exact PySem.W.kia_one PySem.W.kitx_list I.kIn ⟨o,h1,h2⟩ kt.lst (fun z=>nomatch z) fin
theorem Zjt {y:Str} {p2:Pos} (kt:Kit X.K T) (hm:X.mg "isinstance"=none) (hmT:X.mg y=none) (hvT:bootBuiltins y=some (.type T)) (ha:DE X ξ e fa) (hg:Gl X "isinstance":=by rfl) (hgT:Gl X y:=by rfl) (hn:y≠"__name__":=by decide) (hdb:(y == ("__debug__":Str))=false:=by decide)
  (he:starEach [e,.Name y p2] X.env=(false,eval e X.env) :: starEach [.Name y p2] X.env:=by rfl) (he2:starEach [.Name y p2] X.env=(false,eval (.Name y p2) X.env) :: starEach [] X.env:=by rfl) (hpl:(backTo pos (starEach [.Name y p2] X.env)).any (·.1)=false:=by rfl):DE X ξ (.Call (.Name "isinstance" p) [e,.Name y p2] [] pos) (Zms T fa):=by
 obtain ⟨ta,ha,qa⟩:=ha
 refine ⟨_,ZfC (ZiF kt) hg hm (by with_unfolding_all rfl) (ZeW ha (ZeW (ZjY hgT hmT hvT (v:= .ty T) rfl hn hdb) Zjk he2) he) (by decide) (by decide) he hpl,fun σ ρ H α M Q s h q=> ?_⟩
 refine qa σ ρ H α M _ s h (OG.seq q fun x M1 v H1 α1 e1 h1 r1 q1=> ?_)
 cases et:Zbr M1 x with
 |none=>simp only[et] at q1;exact q1.elim
 |some t=>
  simp only[et] at q1
  exact ⟨v,α1,M1,x,t,rfl,h1,r1,et,q1 _ H1 α1 Ext.refl h1 (.bl _)⟩
end
end DL
end
section
namespace DL
open PySem PySem.Spec PyProof.Rows L2
noncomputable def CXE (P:Program) (w:World):CXT:=fun outer H s E e s'=> ∃ (ea C:Addr) (dct:Option Addr) (B:Heap) (H':Hp),e= .ref ea/\s'.os=s.os/\AllBare s'.gens/\Un (frs outer) [] H H' s.heap s'.heap/\HOk P w H' s'.heap/\
 DQ.Fly B outer ea (.ref C) dct .none s'.heap/\(∀ b u,H' b=some u-> ∃ o,B.get? b=some o)/\(∀ b o,s.heap.get? b=some o->b ∉ frs outer-> ∃ o',B.get? b=some o')/\E (.ref C) dct H'
structure Thr (X:Cx) (ξ:XK):Prop where
 own:PassesOwn (model X.prog X.w) X.A X.env X.xe
 ps:ZgN (CXE X.prog X.w) X ξ
 mak: ∀ (pins:List (Addr × Obj)) (σ:L2.St) (H:Hp) (s:Shared) (h':Heap) (e:Addr) (oe:Obj) (vs:Array Value) (C:Addr),Inv X pins σ H s->(∀ b o,s.heap.get? b=some o->h'.get? b=some o)->s.heap.get? e=none->h'.get? e=some oe->oe.cls= .ref C->oe.dict=none->
  oe.data= .fields vs->vs[1]?=some .none->vs[2]?=some .none->ξ (.ref C) none H->X.xe (.ref e) { s with heap:=h' }
theorem Zem {h b1 b2:Heap}: ∀ {l:List Env},h.FunFrames b1 l->(∀ b∈frs l,b2.get? b=none)->h.FunFrames b2 l
 | [],_,_=>trivial
 |env :: r,⟨h1,⟨L,o,h2,h3,h4,h5⟩,h6⟩,k=>⟨h1,⟨L,o,h2,k L (by unfold frs;rw[List.filterMap_cons,h2];exact List.mem_cons_self),h4,h5⟩,Zem h6 fun b hb=>k b (by
   unfold frs
   rw[List.filterMap_cons,h2]
   exact List.mem_cons_of_mem _ hb)⟩
section
variable {X:Cx} {pins:List (Addr × Obj)} {σ:L2.St} {H H':Hp} {s:Shared} {h1 h2 B:Heap}
theorem Zju (hx:X.ex=[]) (I:Inv X pins σ H s) (u:Un (frs X.stack) [] H H' s.heap h1) (hok:HOk X.prog X.w H' h1) (t1: ∀ b q,H' b=some q-> ∃ o,B.get? b=some o) (t2: ∀ b o,s.heap.get? b=some o->b ∉ frs X.stack-> ∃ o',B.get? b=some o')
  (st1:B.StaysIn h1) (st2:B.StaysIn h2) (up:h1.UpToSlots h2):Un X.fs [] X.H₀ H' X.s₀.heap h2/\HOk X.prog X.w H' h2/\ ∀ b o,X.s₀.heap.get? b=some o->b ∉ X.fs-> ∃ o',B.get? b=some o':=by
 have kB: ∀ b ob o,B.get? b=some ob->h1.get? b=some o->h2.get? b=some o:=fun b ob o e x=>by
  have z:=st1 b ob e
  rw[x] at z
  cases z
  exact st2 b _ e
 have nx: ∀ b,b ∉ X.ex:=fun b=>by rw[hx];simp
 have nL: ∀ b o,X.s₀.heap.get? b=some o->b ∉ X.fs->b ∉ frs X.stack:=fun b o e n z=>by
  rcases List.mem_cons.mp (I.stkSub b z) with q | q
  ·exact absurd (Heap.lt_size e) (by rw[q];exact Nat.not_lt_of_le I.ok.above)
  ·exact n q
 have th: ∀ b o,X.s₀.heap.get? b=some o->b ∉ X.fs-> ∃ o',B.get? b=some o':=fun b o e n=>by
  obtain ⟨o',e'⟩:=I.base.there b o e (nx b)
  exact t2 b o' e' (nL b o e n)
 have sl: ∀ b o,X.s₀.heap.get? b=some o->X.H₀ b=none->b∈X.fs-> ∃ sl,h2.get? b=some { o with slots:=sl }:=fun b o e n hb=>by
  obtain ⟨s1,e1⟩:=I.base.slot b o e n hb (nx b)
  obtain ⟨s2,e2⟩:=u.any e1 (I.base.free b o e n (nx b)) (by simp)
  obtain ⟨_,o',g1,g2⟩:=I.ok.funs.mem hb
  rw[e] at g1
  cases g1
  obtain ⟨s3,e3⟩:=up b _ e2 g2
  exact ⟨s3,e3⟩
 refine ⟨⟨fun b o e n hb _=> ?_,fun b o e n hb _=>sl b o e n hb,fun b o e n _=> ?_,fun b o e _=> ?_,fun b xs e=>u.tups b xs (I.base.tups b xs e),fun b o xs e=>u.frzs b o xs (I.base.frzs b o xs e),fun b ps e=> ?_⟩,fun a o e=> ?_,th⟩
 ·obtain ⟨ob,g⟩:=th b o e hb
  exact kB b ob o g (u.keep b o (I.base.keep b o e n hb (nx b)) (I.base.free b o e n (nx b)) (nL b o e hb) (by simp))
 ·obtain ⟨o',e'⟩:=I.base.there b o e (nx b)
  exact u.free b o' e' (I.base.free b o e n (nx b)) (by simp)
 ·by_cases hb:b∈X.fs
  ·obtain ⟨s1,e1⟩:=sl b o e (I.ok.frf b hb) hb
   exact ⟨_,e1⟩
  ·obtain ⟨ob,g⟩:=th b o e hb
   exact ⟨ob,st2 b ob g⟩
 ·obtain ⟨m1,e1⟩:=I.base.tbls b ps e
  obtain ⟨m2,e2⟩:=u.tbls b _ e1
  exact ⟨m1 ++ m2,by rw[e2,Array.append_assoc]⟩
 ·refine (hok a o e).stay (fun b q hb x=> ?_) (fun _ q=>q) fun _ _ q=>q
  have tr: ∃ q,H' b=some q:=by
   rcases hb with z | z
   ·exact ⟨o,z ▸ e⟩
   ·exact ⟨_,z⟩
  obtain ⟨q',z⟩:=tr
  obtain ⟨ob,g⟩:=t1 b q' z
  exact kB b ob q g x
end
theorem ZiG {P:Program} {w:World} {H:Hp} {h:Heap} {a:Addr} {o:HO} (x:Za9 P w H h a o): ∃ ob,h.get? a=some ob:=by
 cases o with
 |lst xs=>obtain ⟨_,_,_,_,e⟩:=x;exact ⟨_,e⟩
 |tup xs=>obtain ⟨_,_,_,ob,e,_⟩:=x;exact ⟨_,e⟩
 |dK kvs=>obtain ⟨_,_,_,_,o,_,_,e,_⟩:=x;exact ⟨_,e⟩
 |dT kvs=>obtain ⟨_,_,_,_,o,_,_,e,_⟩:=x;exact ⟨_,e⟩
 |set S n=>obtain ⟨o,_,_,_,e,_⟩:=x;exact ⟨_,e⟩
 |ins C dx fs=>obtain ⟨_,_,_,e,_⟩:=x;exact ⟨_,e⟩
 |own y=>exact x
 |xd fs=>obtain ⟨_,⟨_,_,_,e,_⟩,_⟩:=x;exact ⟨_,e⟩
 |rng lo hi=>obtain ⟨_,_,_,e⟩:=x;exact ⟨_,e⟩
 |frz ob u=>obtain ⟨e,_⟩:=x;exact ⟨_,e⟩
 |tbl ps=>exact ⟨_,(show h.get? a=some _ from x)⟩
 |met f y=>exact ⟨_,(show h.get? a=some _ from x)⟩
 |ext φ=>obtain ⟨_,e,_⟩:=x;exact e
noncomputable def Zie (h:Heap) (l:List Addr):Heap:=Zid h fun b=>if b∈l then some (.own 0) else none
theorem ZfH {h:Heap} {l:List Addr} {b:Addr} {o:Obj} (e:h.get? b=some o) (n:b ∉ l):(Zie h l).get? b=some o:=Zfx e (if_neg n)
theorem Ze1 {h:Heap} {l:List Addr} {b:Addr} {o:Obj} (e:(Zie h l).get? b=some o):h.get? b=some o/\b ∉ l:=by
 obtain ⟨a,n⟩:=ZgE e
 refine ⟨a,fun z=> ?_⟩
 simp only[if_pos z] at n
 cases n
theorem Zhg {h:Heap} {l:List Addr} {b:Addr} (n:b∈l):(Zie h l).get? b=none:=by
 cases q:(Zie h l).get? b with
 |none=>rfl
 |some o=>exact absurd n (Ze1 q).2
theorem Zmt {P:Program} {w:World} {K:PySem.W.Frag} {mg:Str->Option Value} {base:Heap} {N:List Str} {qual:Str} {scope:Scope} {f:Addr} {cd:Value} {A:Around} {outer:List Env} {s:Shared} {H:Hp} {E:XK}:
  Thr (ZeQ (CXE P w) P w K mg base N qual scope f cd A outer s H E) E:=by
 refine ⟨PassesOwn.leaving,fun pins σ H1 s1 e s2 I h=> ?_,fun pins σ H1 s1 h' e oe vs C I k hn he hc hdi hd v1 v2 q=> ?_⟩
 ·obtain ⟨ea,C,dct,B,H2,rfl,os,bare,un,hok,fl,t1,t2,q⟩:=h
  refine DQ.Zg0 (outer:=outer) I.ok.frames rfl fl fun h3 f3 up=> ?_
  obtain ⟨a1,a2,a3⟩:=Zju rfl I un hok t1 t2 fl.stay f3.stay up
  exact ⟨ea,C,dct,B,H2,rfl,os.trans I.os,bare,a1,a2,f3,t1,a3,q⟩
 ·have st:=I.stack
  have t2: ∀ b o,s1.heap.get? b=some o->b ∉ frs (ZeQ (CXE P w) P w K mg base N qual scope f cd A outer s H E).stack-> ∃ o',(Zie s1.heap (frs (ZeQ (CXE P w) P w K mg base N qual scope f cd A outer s H E).stack)).get? b=some o':=fun b o x n=>⟨o,ZfH x n⟩
  have hs:(Zie s1.heap (frs (ZeQ (CXE P w) P w K mg base N qual scope f cd A outer s H E).stack)).StaysIn h':=fun b o x=>k b o (Ze1 x).1
  have hl:h'.FunFrames (Zie s1.heap (frs (ZeQ (CXE P w) P w K mg base N qual scope f cd A outer s H E).stack)) (ZeQ (CXE P w) P w K mg base N qual scope f cd A outer s H E).stack:=
   (Zem st fun b hb=>Zhg hb).of_keeps fun b o x _=>⟨o,k b o x,rfl⟩
  have hb:(Zie s1.heap (frs (ZeQ (CXE P w) P w K mg base N qual scope f cd A outer s H E).stack)).get? e=none:=by
   cases z:(Zie s1.heap (frs (ZeQ (CXE P w) P w K mg base N qual scope f cd A outer s H E).stack)).get? e with
   |none=>rfl
   |some o=>
    have:=(Ze1 z).1
    rw[hn] at this
    cases this
  have t1: ∀ b u,H1 b=some u-> ∃ o,(Zie s1.heap (frs (ZeQ (CXE P w) P w K mg base N qual scope f cd A outer s H E).stack)).get? b=some o:=fun b u x=>by
   obtain ⟨o,g⟩:=ZiG (I.hok b u x)
   exact ⟨o,ZfH g fun z=>by rw[I.stkFree b z] at x;cases x⟩
  refine DQ.Zg1 (s:={ s1 with heap:=h' }) (outer:=outer) I.ok.frames rfl hl he hs hb hd v1 v2 fun h3 f3 up=> ?_
  obtain ⟨a1,a2,a3⟩:=Zju rfl I (Un.kept k) (I.hok.kept k) t1 t2 hs f3.stay up
  rw[hc,hdi] at f3
  exact ⟨e,C,none,_,H1,rfl,I.os,I.bare,a1,a2,f3,t1,a3,q⟩
end DL
end
section
namespace DL
open PySem PySem.Spec PyProof.Rows L2
noncomputable def FP (K:PySem.W.Frag) (H:Hp) (α:List Addr) (ξ:XK) (Dn:Ends):Fl->Prop
 | .nx ρ' M'=> ∀ σ' H' α',Ext K H H' α α'->HR K H' α' M'->SR K H' α' σ' ρ'->Dn.nx σ' H'
 | .brk ρ' M'=> ∀ σ' H' α',Ext K H H' α α'->HR K H' α' M'->SR K H' α' σ' ρ'->Dn.bk σ' H'
 | .cnt ρ' M'=> ∀ σ' H' α',Ext K H H' α α'->HR K H' α' M'->SR K H' α' σ' ρ'->Dn.ct σ' H'
 | .ret d M'=> ∀ v H' α',Ext K H H' α α'->HR K H' α' M'->Rep K H' α' v d->Dn.rt v H'
 | .exc c M'=> ∀ C H' α',PySem.W.nsIn K mainGlobals c=some (some (.ref C))->Ext K H H' α α'->HR K H' α' M'->ξ (.ref C) none H'
 | .bad=>False
theorem FP.ext {K:PySem.W.Frag} {H H1:Hp} {α α1:List Addr} {ξ:XK} {Dn:Ends} {o:Fl} (h:FP K H α ξ Dn o) (e:Ext K H H1 α α1):FP K H1 α1 ξ Dn o:=by
 cases o with
 |nx ρ M=>exact fun σ' H' α' e'=>h σ' H' α' (e.trans e')
 |brk ρ M=>exact fun σ' H' α' e'=>h σ' H' α' (e.trans e')
 |cnt ρ M=>exact fun σ' H' α' e'=>h σ' H' α' (e.trans e')
 |ret d M=>exact fun v H' α' e'=>h v H' α' (e.trans e')
 |exc c M=>exact fun C H' α' n e'=>h C H' α' n (e.trans e')
 |bad=>exact h
noncomputable def DS (X:Cx) (ξ:XK) (st:Stmt) (g:Sv):Prop:= ∃ t:TS,PS X st t/\ ∀ σ ρ H α M Dn,SR X.K H α σ ρ->HR X.K H α M->FP X.K H α ξ Dn (g ρ M)->t Dn σ H
noncomputable def DSs (X:Cx) (ξ:XK) (st:List Stmt) (g:Sv):Prop:= ∃ t:TS,PSs X st t/\ ∀ σ ρ H α M Dn,SR X.K H α σ ρ->HR X.K H α M->FP X.K H α ξ Dn (g ρ M)->t Dn σ H
noncomputable def ZaR {β:Type} (o:Out β) (k:β->Sto->Fl):Fl:=match o with
 | .ok a M=>k a M
 | .exc c M=> .exc c M
 | .bad=> .bad
theorem FP.seq {β γ:Type} {K:PySem.W.Frag} {R:Hp->List Addr->γ->β->Prop} {H:Hp} {α:List Addr} {ξ:XK} {Dn:Ends} {Q1:γ->Hp->Prop} {o:Out β} {f:β->Sto->Fl}
  (h:FP K H α ξ Dn (ZaR o f)) (k: ∀ d M' v H' α',Ext K H H' α α'->HR K H' α' M'->R H' α' v d->FP K H' α' ξ Dn (f d M')->Q1 v H'):OG K R H α ξ Q1 o:=by
 cases o with
 |ok d M'=>exact fun v H' α' e hr r=>k d M' v H' α' e hr r (FP.ext (o:=f d M') h e)
 |exc c M'=>exact h
 |bad=>exact h
noncomputable def Zn (g h:Sv):Sv:=fun ρ M=>match g ρ M with
 | .nx ρ1 M1=>h ρ1 M1
 |o=>o
noncomputable def sNil:Sv:=fun ρ M=> .nx ρ M
noncomputable def Z1 (f:Ev):Sv:=fun ρ M=>ZaR (f ρ M) fun d M1=> .ret d M1
noncomputable def Zpe:Sv:=fun _ M=> .ret .non M
noncomputable def ZbY (f:Ev):Sv:=fun ρ M=>ZaR (f ρ M) fun _ M1=> .nx ρ M1
noncomputable def sIf (c:Tv) (g h:Sv):Sv:=fun ρ M=>ZaR (c ρ M) fun k M1=>if k=true then g ρ M1 else h ρ M1
noncomputable def Zsp:Sv:=fun ρ M=> .brk ρ M
noncomputable def Zsq:Sv:=fun ρ M=> .cnt ρ M
noncomputable abbrev Tg:=D->Ro->Option Ro
noncomputable abbrev Tgs:=List D->Ro->Option Ro
noncomputable def gNm (i:Nat):Tg:=fun d ρ=>some (ρ.set i (some d))
noncomputable def gNl:Tgs:=fun ds ρ=>match ds with | []=>some ρ | _=>none
noncomputable def gCs (g:Tg) (gs:Tgs):Tgs:=fun ds ρ=>match ds with | d :: r=>(match g d ρ with | some ρ1=>gs r ρ1 | none=>none) | []=>none
noncomputable def gTp (gs:Tgs):Tg:=fun d ρ=>match d with | .tup ds=>gs ds ρ | _=>none
noncomputable def ZB (g:Tg) (f:Ev):Sv:=fun ρ M=>ZaR (f ρ M) fun d M1=>match g d ρ with | some ρ1=> .nx ρ1 M1 | none=> .bad
noncomputable def Zd6 (i j:Nat) (fs:Av):Sv:=fun ρ M=>ZaR (fs ρ M) fun ds M1=>match ds with | [v,w]=> .nx ((ρ.set i (some v)).set j (some w)) M1 | _=> .bad
noncomputable def Zjv (fo fi fe:Ev):Sv:=fun ρ M=>ZaR (fe ρ M) fun d M1=>ZaR (fo ρ M1) fun o M2=>ZaR (fi ρ M2) fun i M3=>match o,i with
 | .ref n,.int k=>(match M3[n]? with
  |some (.lst xs)=>(match ixN xs.length k with | some j=> .nx ρ (M3.set n (.lst (xs.set j d))) | none=> .bad)
  |_=> .bad)
 |_,_=> .bad
section
variable {X:Cx} {ξ:XK} {st:Stmt} {sts:List Stmt} {g h:Sv} {e:Expr} {f:Ev} {pos:Pos} {c:Expr} {fc:Tv}
theorem ZT:DSs X ξ [] sNil:=⟨_,ZjZ,fun σ ρ H α M Dn s h q=>q σ H α Ext.refl h s⟩
theorem Zg (h1:DS X ξ st g) (h2:DSs X ξ sts h):DSs X ξ (st :: sts) (Zn g h):=by
 obtain ⟨t1,p1,q1⟩:=h1
 obtain ⟨t2,p2,q2⟩:=h2
 refine ⟨_,Zik p1 p2,fun σ ρ H α M Dn s hh q=>q1 σ ρ H α M { Dn with nx:=t2 Dn } s hh ?_⟩
 unfold Zn at q
 cases e:g ρ M with
 |nx ρ1 M1=>rw[e] at q;exact fun σ' H' α' ex hr sr=>q2 σ' ρ1 H' α' M1 Dn sr hr (FP.ext q ex)
 |brk ρ1 M1=>rw[e] at q;exact q
 |cnt ρ1 M1=>rw[e] at q;exact q
 |ret d M1=>rw[e] at q;exact q
 |exc c M1=>rw[e] at q;exact q
 |bad=>rw[e] at q;exact q
theorem Zk (h1:DS X ξ st g):DSs X ξ [st] g:=let ⟨_,p,q⟩:=h1;⟨_,Zj0 p,q⟩
theorem ZG (he:DE X ξ e f):DS X ξ (.Return (some e) pos) (Z1 f):=by
 obtain ⟨t,p,q⟩:=he
 exact ⟨_,ZlP p,fun σ ρ H α M Dn s hh w=>q σ ρ H α M _ s hh (FP.seq w fun d M1 v H1 α1 e1 h1 r1 w1=>w1 v H1 α1 Ext.refl h1 r1)⟩
theorem ZbZ (he:DE X ξ e f) (hs:swapsWith e none pos.line X.env=pure false:=by rfl):DS X ξ (.Expr e pos) (ZbY f):=by
 obtain ⟨t,p,q⟩:=he
 exact ⟨_,Zj1 p hs,fun σ ρ H α M Dn s hh w=>q σ ρ H α M _ s hh (FP.seq w fun d M1 v H1 α1 e1 h1 r1 w1=>w1 σ H1 α1 Ext.refl h1 (s.mono e1))⟩
theorem Zbv {a b:List Stmt} (hc:DT X ξ c fc) (ha:DSs X ξ a g) (hb:DSs X ξ b h):DS X ξ (.If c a b pos) (sIf fc g h):=by
 obtain ⟨tc,pc,qc⟩:=hc
 obtain ⟨ta,pa,qa⟩:=ha
 obtain ⟨tb,pb,qb⟩:=hb
 refine ⟨_,ZoV pc pa pb,fun σ ρ H α M Dn s hh w=>qc σ ρ H α M _ s hh (FP.seq w fun k M1 v H1 α1 e1 h1 r1 w1=> ?_)⟩
 cases r1
 cases k with
 |true=>exact Zjn (qa σ ρ H1 α1 M1 Dn (s.mono e1) h1 w1)
 |false=>exact Zjm (qb σ ρ H1 α1 M1 Dn (s.mono e1) h1 w1)
noncomputable def DG (X:Cx) (tg:Expr) (g:Tg):Prop:= ∃ t:TG,PG X tg t/\ ∀ v d σ ρ H α ρ' Q,SR X.K H α σ ρ->Rep X.K H α v d->g d ρ=some ρ'->(∀ σ',SR X.K H α σ' ρ'->Q σ' H)->t v σ H Q
noncomputable def DGs (X:Cx) (tgs:List Expr) (g:Tgs):Prop:= ∃ t:TGs,PGs X tgs t/\ ∀ vs ds σ ρ H α ρ' Q,SR X.K H α σ ρ->Reps X.K H α vs ds->g ds ρ=some ρ'->(∀ σ',SR X.K H α σ' ρ'->Q σ' H)->t vs σ H Q
theorem Zp (i:Nat) {x:Str} (hN:X.N.Nodup) (hi:X.N[i]?=some x:=by rfl) (hx:Loc X.env.scope x:=by first | exact Or.inl rfl | exact Or.inr rfl) (hf:X.fn x=true\/X.env.scope.names.lookup x=some .local:=by first | exact .inl rfl | exact .inr rfl | assumption):DG X (.Name x pos) (gNm i):=by
 refine ⟨_,Zj2 hN hi hx hf,fun v d σ ρ H α ρ' Q s r e k=> ?_⟩
 cases e
 exact k _ (s.set i r)
theorem ZaF:DGs X [] gNl:=by
 refine ⟨_,Zj3,fun vs ds σ ρ H α ρ' Q s r e k=> ?_⟩
 cases r with
 |nil=>cases e;exact ⟨rfl,k _ s⟩
 |cons _ _=>cases e
theorem Zy {es:List Expr} {g:Tg} {gs:Tgs} (h1:DG X e g) (h2:DGs X es gs) (hs:(assignEach (e :: es) X.env).map (·.2)=assign e X.env :: (assignEach es X.env).map (·.2):=by rfl):DGs X (e :: es) (gCs g gs):=by
 obtain ⟨t1,p1,q1⟩:=h1
 obtain ⟨t2,p2,q2⟩:=h2
 refine ⟨_,Zil p1 p2 hs,fun vs ds σ ρ H α ρ' Q s r e k=> ?_⟩
 cases r with
 |nil=>cases e
 |cons r rr=>
  rename_i v d vs ds
  cases e1:g d ρ with
  |none=>simp only[gCs,e1] at e;cases e
  |some ρ1=>
   simp only[gCs,e1] at e
   exact ⟨v,vs,rfl,q1 v d σ ρ H α ρ1 _ s r e1 fun σ' s'=>q2 vs ds σ' ρ1 H α ρ' Q s' rr e k⟩
theorem Zbs {es:List Expr} {k:Nat} {gs:Tgs} {n:Nat} (hc:X.calm=true) (h:DGs X es gs) (hn:(assignEach es X.env).length=n:=by rfl) (hlen: ∀ ds ρ ρ',gs ds ρ=some ρ'->ds.length=n) (hst:(assignEach es X.env).findIdx? (·.1)=none:=by rfl):DG X (.Tuple es k pos) (gTp gs):=by
 obtain ⟨t,p,q⟩:=h
 refine ⟨_,ZlR hc p hn hst,fun v d σ ρ H α ρ' Q s r e k=> ?_⟩
 cases r with
 | @tup a xs ds hp rp=>
  have e':gs ds ρ=some ρ':=e
  exact ⟨a,xs,rfl,(SqT.of hp),by rw[rp.length];exact hlen ds ρ ρ' e',q xs ds σ ρ H α ρ' Q s rp e' k⟩
 |_=>cases e
theorem ZaG {ds:List D} {ρ ρ':Ro} (h:gNl ds ρ=some ρ'):ds.length=0:=by cases ds with | nil=>rfl | cons _ _=>cases h
theorem ZF {g:Tg} {gs:Tgs} {n:Nat} (h: ∀ ds ρ ρ',gs ds ρ=some ρ'->ds.length=n) (ds:List D) (ρ ρ':Ro) (e:gCs g gs ds ρ=some ρ'):ds.length=n + 1:=by
 cases ds with
 |nil=>cases e
 |cons d r=>
  cases e1:g d ρ with
  |none=>simp only[gCs,e1] at e;cases e
  |some ρ1=>simp only[gCs,e1] at e;rw[List.length_cons,h r ρ1 ρ' e]
theorem Zo (i:Nat) {x:Str} {pos':Pos} (hN:X.N.Nodup) (he:DE X ξ e f) (hi:X.N[i]?=some x:=by rfl) (hx:Loc X.env.scope x:=by first | exact Or.inl rfl | exact Or.inr rfl) (hs:swapsWith e (some (.Name x pos')) pos.line X.env=pure false:=by rfl) (hf:X.fn x=true\/X.env.scope.names.lookup x=some .local:=by first | exact .inl rfl | exact .inr rfl | assumption):
  DS X ξ (.Assign [.Name x pos'] e pos) (ZB (gNm i) f):=by
 obtain ⟨t,p,q⟩:=he
 exact ⟨_,ZlT hN hi hx p hs hf,fun σ ρ H α M Dn s hh w=>q σ ρ H α M _ s hh (FP.seq w fun d M1 v H1 α1 e1 h1 r1 w1=>w1 _ H1 α1 Ext.refl h1 ((s.mono e1).set i r1))⟩
theorem Zhh {tg:Expr} {gt:Tg} (he:DE X ξ e f) (hg:DG X tg gt) (hs:swapsWithSole [tg] e pos.line X.env=pure false:=by rfl) (hw:swappedStores [tg] e X.env=pure none:=by rfl)
  (h1:(assignEach [tg] X.env).map (·.2)=[assign tg X.env]:=by rfl):DS X ξ (.Assign [tg] e pos) (ZB gt f):=by
 obtain ⟨t,p,q⟩:=he
 obtain ⟨tt,pt,qt⟩:=hg
 refine ⟨_,Zji p pt hs hw h1,fun σ ρ H α M Dn s hh w=>q σ ρ H α M _ s hh (FP.seq w fun d M1 v H1 α1 e1 h1 r1 w1=> ?_)⟩
 cases eg:gt d ρ with
 |none=>simp only[eg] at w1;exact w1.elim
 |some ρ1=>
  simp only[eg] at w1
  exact qt v d σ ρ H1 α1 ρ1 _ (s.mono e1) r1 eg fun σ' s'=>w1 σ' H1 α1 Ext.refl h1 s'
theorem ZcR (i j:Nat) {x y:Str} {a b:Expr} {fs:Av} {px py pt:Pos} {kt k2 pt2} (hc:X.calm=true) (hN:X.N.Nodup) (ha:DA X ξ [a,b] fs) (hi:X.N[i]?=some x:=by rfl) (hj:X.N[j]?=some y:=by rfl) (hij:i≠j:=by decide)
  (hx:X.env.scope.names.lookup x=some .local:=by rfl) (hy:X.env.scope.names.lookup y=some .local:=by rfl)
  (hw:swappedStores [.Tuple [.Name x px,.Name y py] kt pt] (.Tuple [a,b] k2 pt2) X.env=pure (some [x,y]):=by rfl)
  (hs:swapsWithSole [.Tuple [.Name x px,.Name y py] kt pt] (.Tuple [a,b] k2 pt2) pos.line X.env=pure false:=by rfl):
  DS X ξ (.Assign [.Tuple [.Name x px,.Name y py] kt pt] (.Tuple [a,b] k2 pt2) pos) (Zd6 i j fs):=by
 obtain ⟨t,p,q⟩:=ha
 refine ⟨_,ZlU hc hN hi hj hij hx hy p hw hs,fun σ ρ H α M Dn s hh w=>q σ ρ H α M _ s hh (FP.seq w fun ds M1 vs H1 α1 e1 h1 r1 w1=> ?_)⟩
 match r1 with
 | .nil=>exact w1.elim
 | .cons _ .nil=>exact w1.elim
 | .cons _ (.cons _ (.cons _ _))=>exact w1.elim
 | .cons r (.cons r' .nil)=>exact ⟨_,_,rfl,w1 _ H1 α1 Ext.refl h1 (((s.mono e1).set i r).set j r')⟩
theorem Zjw {o i:Expr} {fo fi:Ev} {pos':Pos} (ho:DE X ξ o fo) (hi:DE X ξ i fi) (he:DE X ξ e f)
  (ha: ∀ v,assign (.Subscript o i pos') X.env v=(do
   let ov <- holding [v] (eval o X.env)
   let iv <- holding [v,ov] (eval i X.env)
   standAt pos'
   holding [v,ov,iv] (setItem ov iv v)
   release [v,ov,iv] []):=by intro _;rfl) (hs:swapsWithSole [.Subscript o i pos'] e pos.line X.env=pure false:=by rfl) (hw:swappedStores [.Subscript o i pos'] e X.env=pure none:=by rfl)
  (h1:(assignEach [.Subscript o i pos'] X.env).map (·.2)=[assign (.Subscript o i pos') X.env]:=by rfl):DS X ξ (.Assign [.Subscript o i pos'] e pos) (Zjv fo fi f):=by
 obtain ⟨t,p,q⟩:=he
 obtain ⟨to,po,qo⟩:=ho
 obtain ⟨ti,pi,qi⟩:=hi
 refine ⟨_,Zji p (ZlS po pi Zit ha) hs hw h1,fun σ ρ H α M Dn s hh w=>q σ ρ H α M _ s hh (FP.seq w fun d M1 v H1 α1 e1 h1 r1 w1=> ?_)⟩
 refine qo σ ρ H1 α1 M1 _ (s.mono e1) h1 (FP.seq w1 fun od M2 ov H2 α2 e2 h2 r2 w2=> ?_)
 refine qi σ ρ H2 α2 M2 _ ((s.mono e1).mono e2) h2 (FP.seq w2 fun kd M3 kv H3 α3 e3 h3 r3 w3=> ?_)
 cases Rep.mono e3 r2 with
 | @ref p n hp=>
  cases r3 with
  |int k=>
   cases em:M3[n]? with
   |none=>simp only[em] at w3;exact w3.elim
   |some so=>
    cases so with
    |lst ds=>
     cases ej:ixN ds.length k with
     |none=>simp only[em,ej] at w3;exact w3.elim
     |some j=>
      simp only[em,ej] at w3
      obtain ⟨xs,g1,g2⟩:=h3.at hp em
      refine ⟨p,xs,k,j,rfl,rfl,g1,by rw[g2.length];exact ej,?_⟩
      exact w3 σ _ α3 (Ext.wr g1) (h3.wr hp g1 (Reps.set (Rep.mono e3 (Rep.mono e2 r1)) j g2)) ((((s.mono e1).mono e2).mono e3).mono (Ext.wr g1))
  |_=>exact w3.elim
 |_=>exact w3.elim
noncomputable def whN (c:Tv) (g:Sv):Nat->Ro->Sto->Option Fl
 |0,_,_=>none
 |n + 1,ρ,M=>match c ρ M with
  | .ok true M1=>(match g ρ M1 with
   | .nx ρ2 M2=>whN c g n ρ2 M2
   | .cnt ρ2 M2=>whN c g n ρ2 M2
   | .brk ρ2 M2=>some (.nx ρ2 M2)
   |o=>some o)
  | .ok false M1=>some (.nx ρ M1)
  | .exc e M1=>some (.exc e M1)
  | .bad=>some .bad
theorem ZcH {c:Tv} {g:Sv}: ∀ {n:Nat} {ρ:Ro} {M:Sto} {o:Fl},whN c g n ρ M=some o-> ∀ k,whN c g (n + k) ρ M=some o
 |0,_,_,_,e,_=>by simp only[whN] at e;cases e
 |n + 1,ρ,M,o,e,k=>by
  have ek:n + 1 + k=(n + k) + 1:=by omega
  rw[ek]
  unfold whN at e ⊢
  cases ec:c ρ M with
  |bad=>rw[ec] at e;exact e
  |exc x M1=>rw[ec] at e;exact e
  |ok b M1=>
   rw[ec] at e
   cases b with
   |false=>exact e
   |true=>
    cases eg:g ρ M1 with
    |nx ρ2 M2=>simp only[eg] at e ⊢;exact ZcH e k
    |cnt ρ2 M2=>simp only[eg] at e ⊢;exact ZcH e k
    |brk ρ2 M2=>simp only[eg] at e ⊢;exact e
    |ret d M2=>simp only[eg] at e ⊢;exact e
    |exc x M2=>simp only[eg] at e ⊢;exact e
    |bad=>simp only[eg] at e ⊢;exact e
open Classical in
noncomputable def sWh (c:Tv) (g:Sv):Sv:=fun ρ M=>if h: ∃ o n,whN c g n ρ M=some o then Classical.choose h else .bad
theorem Zcw {c:Tv} {g:Sv} {n:Nat} {ρ:Ro} {M:Sto} {o:Fl} (e:whN c g n ρ M=some o):sWh c g ρ M=o:=by
 have hx: ∃ o n,whN c g n ρ M=some o:=⟨o,n,e⟩
 unfold sWh
 rw[dif_pos hx]
 obtain ⟨m,em⟩:=Classical.choose_spec hx
 have h1:=ZcH em n
 have h2:=ZcH e m
 rw[Nat.add_comm] at h2
 rw[h1] at h2
 exact Option.some.inj h2
theorem Zhi {c:Tv} {g:Sv} {ρ:Ro} {M:Sto} (e:sWh c g ρ M≠ .bad): ∃ n,whN c g n ρ M=some (sWh c g ρ M):=by
 by_cases hx: ∃ o n,whN c g n ρ M=some o
 ·obtain ⟨o,n,h⟩:=hx
  exact ⟨n,by rw[Zcw h];exact h⟩
 ·unfold sWh at e
  rw[dif_neg hx] at e
  exact absurd rfl e
theorem Zhj {c:Tv} {g:Sv} {ρ:Ro} {M M1:Sto} (h:c ρ M= .ok false M1):sWh c g ρ M= .nx ρ M1:=Zcw (n:=1) (by simp only[whN,h])
theorem ZiH {c:Tv} {g:Sv} {ρ ρ2:Ro} {M M1 M2:Sto} (h:c ρ M= .ok true M1) (h2:g ρ M1= .nx ρ2 M2) (hb:sWh c g ρ2 M2≠ .bad):sWh c g ρ M=sWh c g ρ2 M2:=by
 obtain ⟨n,e⟩:=Zhi hb
 exact Zcw (n:=n + 1) (by simp only[whN,h,h2];exact e)
theorem ZdH {body:List Stmt} (hp:PassesOwn (model X.prog X.w) X.A X.env X.xe) (hc:DT X ξ c fc) (hb:DSs X ξ body g):DS X ξ (.While c body [] pos) (sWh fc g):=by
 obtain ⟨tc,pc,qc⟩:=hc
 obtain ⟨tb,pb,qb⟩:=hb
 refine ⟨_,Zim hp pc pb,fun σ ρ H α M Dn s hh w=> ?_⟩
 have nb:sWh fc g ρ M≠ .bad:=fun z=>by rw[z] at w;exact w
 obtain ⟨n,en⟩:=Zhi nb
 generalize sWh fc g ρ M=o at w en
 refine ⟨fun m σ' H'=> ∃ ρ' α' M',Ext X.K H H' α α'/\SR X.K H' α' σ' ρ'/\HR X.K H' α' M'/\whN fc g m ρ' M'=some o,⟨n,ρ,α,M,Ext.refl,s,hh,en⟩,?_⟩
 rintro m σ1 H1 ⟨ρ1,α1,M1,e1,s1,h1,en1⟩
 cases m with
 |zero=>simp only[whN] at en1;cases en1
 |succ m=>
  refine qc σ1 ρ1 H1 α1 M1 _ s1 h1 ?_
  unfold whN at en1
  cases ec:fc ρ1 M1 with
  |bad=>rw[ec] at en1;cases en1;exact w.elim
  |exc x M2=>
   rw[ec] at en1;cases en1
   exact fun C H' α' nn ex hr=>w C H' α' nn (e1.trans ex) hr
  |ok b M2=>
   rw[ec] at en1
   intro v H2 α2 e2 h2 ev
   cases ev
   cases b with
   |false=>
    cases en1
    exact Zjm (w σ1 H2 α2 (e1.trans e2) h2 (s1.mono e2))
   |true=>
    refine Zjn ⟨fun σ' H'=> ∃ ρ' α' M',Ext X.K H H' α α'/\SR X.K H' α' σ' ρ'/\HR X.K H' α' M'/\whN fc g m ρ' M'=some o,fun σ' H' z=>⟨m,Nat.lt_succ_self m,z⟩,?_⟩
    refine qb σ1 ρ1 H2 α2 M2 _ (s1.mono e2) h2 ?_
    have e12:=e1.trans e2
    cases eg:g ρ1 M2 with
    |nx ρ2 M3=>simp only[eg] at en1;exact fun σ' H' α' ex hr sr=>⟨ρ2,α',M3,e12.trans ex,sr,hr,en1⟩
    |cnt ρ2 M3=>simp only[eg] at en1;exact fun σ' H' α' ex hr sr=>⟨ρ2,α',M3,e12.trans ex,sr,hr,en1⟩
    |brk ρ2 M3=>simp only[eg] at en1;cases en1;exact fun σ' H' α' ex hr sr=>w σ' H' α' (e12.trans ex) hr sr
    |ret d M3=>simp only[eg] at en1;cases en1;exact fun v H' α' ex hr sr=>w v H' α' (e12.trans ex) hr sr
    |exc x M3=>simp only[eg] at en1;cases en1;exact fun C H' α' nn ex hr=>w C H' α' nn (e12.trans ex) hr
    |bad=>simp only[eg] at en1;cases en1;exact w.elim
noncomputable def ZbS (tg:Tg) (g:Sv):List D->Ro->Sto->Fl
 | [],ρ,M=> .nx ρ M
 |d :: r,ρ,M=>match tg d ρ with
  |none=> .bad
  |some ρ1=>(match g ρ1 M with
   | .nx ρ2 M2=>ZbS tg g r ρ2 M2
   | .cnt ρ2 M2=>ZbS tg g r ρ2 M2
   | .brk ρ2 M2=> .nx ρ2 M2
   |o=>o)
noncomputable def Zgv (tg:Tg) (g:Sv) (n:Nat):Nat->Nat->Ro->Sto->Fl
 |f,i,ρ,M=>match M[n]? with
  |some (.lst xs)=>(match xs[i]? with
   |none=> .nx ρ M
   |some d=>(match f with
    |0=> .bad
    |f + 1=>(match tg d ρ with
     |none=> .bad
     |some ρ1=>(match g ρ1 M with
      | .nx ρ2 M2=>Zgv tg g n f (i + 1) ρ2 M2
      | .cnt ρ2 M2=>Zgv tg g n f (i + 1) ρ2 M2
      | .brk ρ2 M2=> .nx ρ2 M2
      |o=>o))))
  |none=> .bad
noncomputable def Zby (lo:Int) (n:Nat):List D:=(List.range n).map fun (i:Nat)=>D.int (lo + i)
noncomputable def Zjx (tg:Tg) (g:Sv) (d:D) (ρ:Ro) (M:Sto):Fl:=match d with
 | .tup xs=>ZbS tg g xs ρ M
 | .rol xs=>ZbS tg g xs ρ M
 | .ref n=>(match M[n]? with | some (.lst xs)=>Zgv tg g n xs.length 0 ρ M | none=> .bad)
 |_=> .bad
noncomputable def Zif (tg:Tg) (f:Ev) (g:Sv):Sv:=fun ρ M=>ZaR (f ρ M) fun d M1=>Zjx tg g d ρ M1
noncomputable def Zbt (tg:Tg) (fs:Av) (g:Sv):Sv:=fun ρ M=>ZaR (fs ρ M) fun ds M1=>match ds with
 | [.int j]=>if -(2 ^ 62)<=j/\j < 2 ^ 62 then ZbS tg g (Zby 0 j.toNat) ρ M1 else .bad
 |_=> .bad
noncomputable def Zhk (tg:Tg) (fs:Av) (g:Sv):Sv:=fun ρ M=>ZaR (fs ρ M) fun ds M1=>match ds with
 | [.int i,.int j]=>if -(2 ^ 62)<=i/\i < 2 ^ 62/\ -(2 ^ 62)<=j/\j < 2 ^ 62 then ZbS tg g (Zby i (j - i).toNat) ρ M1 else .bad
 |_=> .bad
theorem ZfI {lo:Int} {n i:Nat} (h:i < n):(Zby lo n)[i]?=some (.int (lo + i)):=by
 unfold Zby
 rw[List.getElem?_map,List.getElem?_range h]
 rfl
theorem ZdI {lo:Int} {n:Nat}:(Zby lo n).length=n:=by unfold Zby;rw[List.length_map,List.length_range]
theorem Zhl {lo:Int} {n i:Nat} (h:i < n):(Zby lo n).drop i= .int (lo + i) :: (Zby lo n).drop (i + 1):=by
 have hl:i < (Zby lo n).length:=by rw[ZdI];exact h
 have e:=ZfI (lo:=lo) h
 rw[List.getElem?_eq_getElem hl] at e
 rw[List.drop_eq_getElem_cons hl,Option.some.inj e]
theorem ZiI {tg:Expr} {gt:Tg} {tt:TG} {tb:TS} {Dn:Ends} {H H1:Hp} {α α1:List Addr} {o:Fl} {k:Ro->Sto->Fl} (w:FP X.K H α ξ Dn o)
  (qt: ∀ v d σ ρ H α ρ' Q,SR X.K H α σ ρ->Rep X.K H α v d->gt d ρ=some ρ'->(∀ σ',SR X.K H α σ' ρ'->Q σ' H)->tt v σ H Q) (qb: ∀ σ ρ H α M Dn,SR X.K H α σ ρ->HR X.K H α M->FP X.K H α ξ Dn (g ρ M)->tb Dn σ H)
  {v:V} {d:D} {σ1:L2.St} {ρ1:Ro} {M1:Sto} (e1:Ext X.K H H1 α α1) (s1:SR X.K H1 α1 σ1 ρ1) (h1:HR X.K H1 α1 M1) (r:Rep X.K H1 α1 v d)
  (en:(match gt d ρ1 with | none=>Fl.bad | some ρ2=>(match g ρ2 M1 with | .nx ρ3 M3=>k ρ3 M3 | .cnt ρ3 M3=>k ρ3 M3 | .brk ρ3 M3=> .nx ρ3 M3 | o=>o))=o)
  {N:L2.St->Hp->Prop} (hN: ∀ σ' H',(∃ ρ' α' M',Ext X.K H H' α α'/\SR X.K H' α' σ' ρ'/\HR X.K H' α' M'/\k ρ' M'=o)->N σ' H'):tt v σ1 H1 fun σ2 H2=>tb { Dn with nx:=N,ct:=N,bk:=Dn.nx } σ2 H2:=by
 cases eg:gt d ρ1 with
 |none=>rw[eg] at en;cases en;exact w.elim
 |some ρ2=>
  simp only[eg] at en
  refine qt v d σ1 ρ1 H1 α1 ρ2 _ s1 r eg fun σ2 s2=>qb σ2 ρ2 H1 α1 M1 _ s2 h1 ?_
  cases ex:g ρ2 M1 with
  |nx ρ3 M3=>simp only[ex] at en;exact fun σ' H' α' e2 hr sr=>hN _ _ ⟨ρ3,α',M3,e1.trans e2,sr,hr,en⟩
  |cnt ρ3 M3=>simp only[ex] at en;exact fun σ' H' α' e2 hr sr=>hN _ _ ⟨ρ3,α',M3,e1.trans e2,sr,hr,en⟩
  |brk ρ3 M3=>simp only[ex] at en;cases en;exact fun σ' H' α' e2 hr sr=>w σ' H' α' (e1.trans e2) hr sr
  |ret d M3=>simp only[ex] at en;cases en;exact fun v H' α' e2 hr sr=>w v H' α' (e1.trans e2) hr sr
  |exc x M3=>simp only[ex] at en;cases en;exact fun C H' α' nn e2 hr=>w C H' α' nn (e1.trans e2) hr
  |bad=>simp only[ex] at en;cases en;exact w.elim
theorem Zmu {tg:Expr} {gt:Tg} {tt:TG} {tb:TS} {Dn:Ends} {H:Hp} {α:List Addr} {lo:Int} {n:Nat} {σ:L2.St} {ρ:Ro} {M:Sto}
  (qt: ∀ v d σ ρ H α ρ' Q,SR X.K H α σ ρ->Rep X.K H α v d->gt d ρ=some ρ'->(∀ σ',SR X.K H α σ' ρ'->Q σ' H)->tt v σ H Q) (qb: ∀ σ ρ H α M Dn,SR X.K H α σ ρ->HR X.K H α M->FP X.K H α ξ Dn (g ρ M)->tb Dn σ H)
  (s:SR X.K H α σ ρ) (hh:HR X.K H α M) (w:FP X.K H α ξ Dn (ZbS gt g (Zby lo n) ρ M)):
  ∃ W:Nat->Nat->L2.St->Hp->Prop,(∃ m,W 0 m σ H)/\ ∀ i m σ H,W i m σ H->
   ((Itr lo n).stop i H/\Dn.nx σ H)\/((Itr lo n).go i H/\ ∃ N:L2.St->Hp->Prop,(∀ σ' H',N σ' H'-> ∃ m',m' < m/\W (i + 1) m' σ' H')/\ ∀ x H',(Itr lo n).yld i H x H'->tt x σ H' fun σ2 H2=>tb { Dn with nx:=N,ct:=N,bk:=Dn.nx } σ2 H2):=by
 generalize ho:ZbS gt g (Zby lo n) ρ M=o at w
 refine ZgJ (fun i σ' H'=> ∃ ρ' α' M',Ext X.K H H' α α'/\SR X.K H' α' σ' ρ'/\HR X.K H' α' M'/\ZbS gt g ((Zby lo n).drop i) ρ' M'=o) ⟨ρ,α,M,Ext.refl,s,hh,ho⟩ ?_ ?_
 ·rintro i σ1 H1 hi ⟨ρ1,α1,M1,e1,s1,h1,en⟩
  rw[Zhl hi] at en
  exact ZiI (tg:=tg) w qt qb e1 s1 h1 (.int (lo + i)) en (fun σ' H' z=>z)
 ·rintro σ1 H1 ⟨ρ1,α1,M1,e1,s1,h1,en⟩
  rw[List.drop_eq_nil_of_le (by rw[ZdI];exact Nat.le_refl _)] at en
  cases en
  exact w σ1 H1 α1 e1 h1 s1
theorem Zca {tg a:Expr} {gt:Tg} {fs:Av} {body:List Stmt} {p p2:Pos} (hp:PassesOwn (model X.prog X.w) X.A X.env X.xe) (hm:X.mg "range"=none) (ha:DA X ξ [a] fs) (hg:DG X tg gt) (hb:DSs X ξ body g)
  (hgl:Gl X "range":=by rfl) (hs:starEach [a] X.env=[(false,eval a X.env)]:=by rfl) (hf: ∀ x,foldedSetIterable (.Call (.Name "range" p) [a] [] p2) X.env x=pure x:=by intro _;rfl):DS X ξ (.For tg (.Call (.Name "range" p) [a] [] p2) body [] pos) (Zbt gt fs g):=by
 obtain ⟨ta,pa,qa⟩:=ha
 obtain ⟨tt,pt,qt⟩:=hg
 obtain ⟨tb,pb,qb⟩:=hb
 refine ⟨_,ZgI hp (Zea hgl hm pa hs) pt pb hf,fun σ ρ H α M Dn s hh w=>qa σ ρ H α M _ s hh (FP.seq w fun ds M1 vs H1 α1 e1 h1 r1 w1=> ?_)⟩
 match r1 with
 | .nil=>exact w1.elim
 | .cons r (.cons _ _)=>cases r<;>exact w1.elim
 | .cons r .nil=>
  cases r with
  |int j=>
   by_cases c: -(2 ^ 62)<=j/\j < 2 ^ 62
   ·simp only[if_pos c] at w1
    exact ⟨j,rfl,c.1,c.2,Zmu (tg:=tg) qt qb (s.mono e1) h1 w1⟩
   ·simp only[if_neg c] at w1
    exact w1.elim
  |_=>exact w1.elim
noncomputable def Zsr (K:PySem.W.Frag) (tl:TE):TI:=fun σ H R=>tl σ H fun x H1=> ∃ a,x= .ref a/\(((∃ xs,SqL K H1 a xs)/\R (Itl K a) H1)\/((∃ xs,SqT K H1 a xs)/\R (Itt K a) H1))
theorem Zjy {tg l:Expr} {tl:TE} (hl:PE X l tl):PI X tg l (Zsr X.K tl):=by
 intro pins s σ H R I h
 refine thn (hl pins s σ H _ I h) fun v s1 ⟨x,H1,I1,r1,q1⟩=> ?_
 obtain ⟨a,e,q⟩:=q1
 subst e
 cases r1
 have fp: ∀ b∈[s1.heap.objs.size],Zd9 X pins H1 b:=fun b hb=>by
  have e:b=s1.heap.objs.size:=by simpa using hb
  subst e
  exact I1.fpOk (Nat.le_refl _) (I1.hok.fresh (Nat.le_refl _))
 rcases q with ⟨⟨xs,hq⟩,q⟩ | ⟨⟨xs,hq⟩,q⟩
 ·obtain ⟨its,rv,p,hz⟩:=I1.list hq
  refine wpAny_pyIter_list p.isList ?_
  exact ⟨s1.heap.objs.size,[s1.heap.objs.size],_,_,H1,rfl,I1.kept (t':=s1.toks) fun b o e=>Heap.get?_push_of_some _ e,ZgG a _,⟨_,Heap.get?_push_size _ rfl,rfl,rfl⟩,fp,q⟩
 ·obtain ⟨its,rv,p,hz⟩:=I1.tuple hq
  refine wpAny_pyIter_tuple (show s1.heap.IsTuple a its.toArray from p) ?_
  exact ⟨s1.heap.objs.size,[s1.heap.objs.size],_,_,H1,rfl,I1.kept (t':=s1.toks) fun b o e=>Heap.get?_push_of_some _ e,Zf1 a _,⟨_,Heap.get?_push_size _ rfl,rfl,rfl⟩,fp,q⟩
theorem ZfJ {tg l:Expr} {gt:Tg} {f:Ev} {body:List Stmt} (hp:PassesOwn (model X.prog X.w) X.A X.env X.xe) (hl:DE X ξ l f) (hg:DG X tg gt) (hb:DSs X ξ body g)
  (hf: ∀ x,foldedSetIterable l X.env x=pure x:=by intro _;rfl):DS X ξ (.For tg l body [] pos) (Zif gt f g):=by
 obtain ⟨ta,pa,qa⟩:=hl
 obtain ⟨tt,pt,qt⟩:=hg
 obtain ⟨tb,pb,qb⟩:=hb
 refine ⟨_,ZgI hp (Zjy pa) pt pb hf,fun σ ρ H α M Dn s hh w=>qa σ ρ H α M _ s hh (FP.seq w fun d M1 v H1 α1 e1 h1 r1 w1=> ?_)⟩
 have s1:=s.mono e1
 have pure_: ∀ (ds:List D) (xs:List V),Reps X.K H1 α1 xs ds->FP X.K H1 α1 ξ Dn (ZbS gt g ds ρ M1)-> ∀ (i:Nat) σ' H',(∃ ρ' α' M',Ext X.K H1 H' α1 α'/\SR X.K H' α' σ' ρ'/\HR X.K H' α' M'/\ZbS gt g (ds.drop i) ρ' M'=ZbS gt g ds ρ M1)->
   (∀ x,xs[i]?=some x->tt x σ' H' fun σ2 H2=>tb { Dn with nx:=fun σ H=> ∃ ρ' α' M',Ext X.K H1 H α1 α'/\SR X.K H α' σ ρ'/\HR X.K H α' M'/\ZbS gt g (ds.drop (i + 1)) ρ' M'=ZbS gt g ds ρ M1,ct:=fun σ H=> ∃ ρ' α' M',Ext X.K H1 H α1 α'/\SR X.K H α' σ ρ'/\HR X.K H α' M'/\ZbS gt g (ds.drop (i + 1)) ρ' M'=ZbS gt g ds ρ M1,bk:=Dn.nx } σ2 H2)/\
   (i=xs.length->Dn.nx σ' H'):=by
  intro ds xs r w1 i σ' H' ⟨ρ',α',M',ex,sr,hr,en⟩
  refine ⟨fun x hx=> ?_,fun hi=> ?_⟩
  ·have hi:i < ds.length:=by rw[<- r.length];exact (List.getElem?_eq_some_iff.mp hx).1
   obtain ⟨v,g1,g2⟩:=r.get (List.getElem?_eq_getElem hi)
   rw[hx] at g1
   cases g1
   rw[List.drop_eq_getElem_cons hi] at en
   exact ZiI (tg:=tg) w1 qt qb ex sr hr (Rep.mono ex g2) en (fun σ' H' z=>z)
  ·rw[hi,r.length,List.drop_length] at en
   have en':Fl.nx ρ' M'=ZbS gt g ds ρ M1:=en
   rw[<- en'] at w1
   exact w1 σ' H' α' ex hr sr
 cases r1 with
 | @tup p xs ds hp rp=>
  have w2:FP X.K H1 α1 ξ Dn (ZbS gt g ds ρ M1):=w1
  refine ⟨p,rfl,.inr ⟨⟨xs,(SqT.of hp)⟩,Zj4 (K:=X.K) (a:=p) (xs:=xs) (fun i σ' H'=> ∃ ρ' α' M',Ext X.K H1 H' α1 α'/\SR X.K H' α' σ' ρ'/\HR X.K H' α' M'/\ZbS gt g (ds.drop i) ρ' M'=ZbS gt g ds ρ M1) ⟨ρ,α1,M1,Ext.refl,s1,h1,rfl⟩ ?_ ?_ ?_⟩⟩
  ·rintro i σ' H' _ ⟨ρ',α',M',ex,_⟩
   exact SqT.of (ex.tup _ _ hp)
  ·intro i x σ' H' hx z
   exact (pure_ ds xs rp w2 i σ' H' z).1 x hx
  ·intro σ' H' z
   exact (pure_ ds xs rp w2 _ σ' H' z).2 rfl
 | @rol p xs ds hp rp=>
  have w2:FP X.K H1 α1 ξ Dn (ZbS gt g ds ρ M1):=w1
  refine ⟨p,rfl,.inl ⟨⟨xs,hp.sq⟩,Zip (K:=X.K) (a:=p) (xs:=xs) (fun i σ' H'=> ∃ ρ' α' M',Ext X.K H1 H' α1 α'/\SR X.K H' α' σ' ρ'/\HR X.K H' α' M'/\ZbS gt g (ds.drop i) ρ' M'=ZbS gt g ds ρ M1) ⟨ρ,α1,M1,Ext.refl,s1,h1,rfl⟩ ?_ ?_ ?_⟩⟩
  ·rintro i σ' H' _ ⟨ρ',α',M',ex,_⟩
   exact (ex.rol _ _ hp).sq
  ·intro i x σ' H' hx z
   exact (pure_ ds xs rp w2 i σ' H' z).1 x hx
  ·intro σ' H' z
   exact (pure_ ds xs rp w2 _ σ' H' z).2 rfl
 | @ref p n hp=>
  cases em:M1[n]? with
  |none=>simp only[Zjx,em] at w1;exact w1.elim
  |some so=>
   cases so with
   |lst ds=>
    simp only[Zjx,em] at w1
    obtain ⟨xs0,g0,r0⟩:=h1.at hp em
    generalize eo:Zgv gt g n ds.length 0 ρ M1=o at w1
    refine ⟨p,rfl,.inl ⟨⟨xs0,SqL.of g0⟩,fun i m σ' H'=> ∃ ρ' α' M',Ext X.K H1 H' α1 α'/\SR X.K H' α' σ' ρ'/\HR X.K H' α' M'/\Zgv gt g n m i ρ' M'=o,⟨ds.length,ρ,α1,M1,Ext.refl,s1,h1,eo⟩,?_⟩⟩
    rintro i m σ' H' ⟨ρ',α',M',ex,sr,hr,en⟩
    unfold Zgv at en
    cases em2:M'[n]? with
    |none=>simp only[em2] at en;cases en;exact w1.elim
    |some so2=>
     cases so2 with
     |lst ds2=>
      simp only[em2] at en
      obtain ⟨xs,g1,g2⟩:=hr.at (ex.get hp) em2
      cases ei:ds2[i]? with
      |none=>
       simp only[ei] at en
       cases en
       refine .inl ⟨⟨xs,SqL.of g1,?_⟩,w1 σ' H' α' ex hr sr⟩
       rw[g2.length]
       exact List.getElem?_eq_none_iff.mp ei
      |some d=>
       simp only[ei] at en
       obtain ⟨v,k1,k2⟩:=g2.get ei
       cases m with
       |zero=>cases en;exact w1.elim
       |succ m=>
        refine .inr ⟨⟨xs,v,SqL.of g1,k1⟩,fun σ2 H2=> ∃ ρ' α' M',Ext X.K H1 H2 α1 α'/\SR X.K H2 α' σ2 ρ'/\HR X.K H2 α' M'/\Zgv gt g n m (i + 1) ρ' M'=o,fun σ2 H2 z=>⟨m,Nat.lt_succ_self m,z⟩,fun x H2 y=> ?_⟩
        obtain ⟨ey,y⟩:=y
        subst ey
        have ev:=y xs (SqL.of g1)
        rw[k1] at ev
        cases ev
        exact ZiI (tg:=tg) w1 qt qb ex sr hr k2 en (fun σ' H' z=>z)
 |_=>exact w1.elim
end
noncomputable def fnF (g:Sv) (n k:Nat):List D->Sto->Out D:=fun ds M=>if ds.length=n then (match g (ds.map some ++ List.replicate k none) M with
 | .ret d M'=> .ok d M'
 | .nx _ M'=> .ok .non M'
 | .exc c M'=> .exc c M'
 |_=> .bad) else .bad
noncomputable def spD (K:PySem.W.Frag) (F:List D->Sto->Out D):Sp:=fun vs H Q E=> ∃ ds α M,Reps K H α vs ds/\HR K H α M/\OP K H α E Q (F ds M)
theorem Zen: ∀ {ds:List D} {k i:Nat} {d:D},(ds.map some ++ List.replicate k none)[i]?=some (some d)->ds[i]?=some d
 | [],k,i,d,h=>by
  rw[List.map_nil,List.nil_append] at h
  have:=List.mem_of_getElem? h
  rw[List.mem_replicate] at this
  cases this.2
 |x :: r,k,0,d,h=>by simpa using h
 |x :: r,k,i + 1,d,h=>by
  rw[List.map_cons,List.cons_append,List.getElem?_cons_succ] at h
  rw[List.getElem?_cons_succ]
  exact Zen h
theorem SR.start {K:PySem.W.Frag} {H:Hp} {α:List Addr} {N:List Str} {vs:List V} {ds:List D} {k:Nat} (r:Reps K H α vs ds) (hk:k=N.length - ds.length):SR K H α (start N vs) (ds.map some ++ List.replicate k none):=by
 unfold L2.start
 refine ⟨by simp only[List.length_append,List.length_map,List.length_replicate,r.length,hk],fun i d h=> ?_⟩
 obtain ⟨v,h1,h2⟩:=r.get (Zen h)
 refine ⟨v,?_,h2⟩
 have hl:i < vs.length:=(List.getElem?_eq_some_iff.mp h1).1
 rw[List.getElem?_append_left (by rw[List.length_map];exact hl),List.getElem?_map,h1]
 rfl
section
variable {P:Program} {w:World} {K:PySem.W.Frag} {mg:Str->Option Value} {base:Heap}
theorem Zaz {x qual:Str} {st:Stmt} {f:Addr} {fd:FuncData} {N ps:List Str} {k n m:Nat} {g:Sv} (F:Fun K x qual st f fd) (S:FnScope N ps (Zi st)) (hn:n=ps.length) (hm:m=N.length - n)
  (hb: ∀ (cdv:Value) (A:Around) (outer:List Env) (s:Shared) (H:Hp) (E:XK),Room k (A.deeper (envOfC qual (Zi st) s.heap.objs.size f cdv))->Thr (ZeQ (CXE P w) P w K mg base N qual (Zi st) f cdv A outer s H E) E->DSs (ZeQ (CXE P w) P w K mg base N qual (Zi st) f cdv A outer s H E) E (Zv st) g):
  FnOk P w K mg base (CXE P w) (k + 1) f fd ps (spD K (fnF g n m)):=by
 obtain ⟨oc,od,kV,doc,pm,an,cdv,ct,osl,rfl,lk,hcd⟩:=F.ex
 refine Zo4 lk hcd S (fun vs H Q E h=> ?_) (fun A outer s H vs Q E hr h=> ?_)
 ·obtain ⟨ds,α,M,r,_,q⟩:=h
  by_cases c:ds.length=n
  ·rw[r.length,c,hn]
  ·simp only[fnF,if_neg c] at q
   exact q.elim
 ·obtain ⟨ds,α,M,r,hh,q⟩:=h
  obtain ⟨t,p,w'⟩:=hb cdv A outer s H E hr Zmt
  by_cases c:ds.length=n
  ·simp only[fnF,if_pos c] at q
   refine ⟨t,p,w' _ _ H α M _ (SR.start (N:=N) r (k:=m) (by rw[hm,c])) hh ?_⟩
   cases e:g (ds.map some ++ List.replicate m none) M with
   |nx ρ' M'=>simp only[e] at q;exact fun σ' H' α' ex hr sr=>q _ H' α' ex hr .non
   |ret d M'=>simp only[e] at q;exact q
   |exc x M'=>simp only[e] at q;exact q
   |brk ρ' M'=>simp only[e] at q;exact q.elim
   |cnt ρ' M'=>simp only[e] at q;exact q.elim
   |bad=>simp only[e] at q;exact q.elim
  ·simp only[fnF,if_neg c] at q
   exact q.elim
end
section
variable {X:Cx} {ξ:XK} {k:Nat} {f:Addr} {fd:FuncData} {ps:List Str} {F:List D->Sto->Out D} {x:Str} {p pos:Pos} {e:Expr} {es:List Expr} {fs:Av}
theorem Zkr (G:FnOk X.prog X.w X.K X.mg X.base (CXE X.prog X.w) k f fd ps (spD X.K F)) (T:Thr X ξ) (hr:Room k X.A) (hm:X.mg x=some (.ref f)) (hk:PySem.W.keepIn X.K (.ref f)=true) (hb:ZeX X.K fd ps []) (ha:DA X ξ (e :: es) fs) (hg:Gl X x:=by rfl)
  (hdb:(x == ("__debug__":Str))=false:=by decide) (he:starEach (e :: es) X.env=(false,eval e X.env) :: starEach es X.env:=by rfl) (hpl:(backTo pos (starEach es X.env)).any (·.1)=false:=by rfl):DE X ξ (.Call (.Name x p) (e :: es) [] pos) (Zh F fs):=by
 obtain ⟨t,pa,qa⟩:=ha
 refine ⟨_,Zj9 G hr hg hm hk hb .nil T.ps pa hdb he hpl,fun σ ρ H α M Q s hh q=>qa σ ρ H α M _ s hh (OG.seq q fun ds M1 vs H1 α1 e1 h1 r1 q1=> ?_)⟩
 rw[List.append_nil]
 exact ⟨ds,α1,M1,r1,h1,q1⟩
end
end DL
end
section
namespace DL
open PySem PySem.Spec PyProof.Rows L2
theorem Zdr:bootBuiltins "abs"=some (.builtin "abs"):=by decide +kernel
theorem ZcS:bootBuiltins "int"=some (.type "int"):=by decide +kernel
theorem ZcT:bootBuiltins "list"=some (.type "list"):=by decide +kernel
theorem ZiJ:bootBuiltins "tuple"=some (.type "tuple"):=by decide +kernel
theorem ZfK:bootBuiltins "max"=some (.builtin "max"):=by decide +kernel
theorem Zjz:bootBuiltins "min"=some (.builtin "min"):=by decide +kernel
theorem Zmv:bootBuiltins "all"=some (.builtin "all"):=by decide +kernel
noncomputable def Cal (P:Program) (w:World) (K:PySem.W.Frag) (mg:Str->Option Value) (base:Heap) (x:Str) (k n:Nat) (F:List D->Sto->Out D):Prop:=
 ∃ (f:Addr) (fd:FuncData) (ps:List Str),FnOk P w K mg base (CXE P w) k f fd ps (spD K F)/\mg x=some (.ref f)/\PySem.W.keepIn K (.ref f)=true/\ps.length=n/\ZeX K fd ps []
theorem Zj {X:Cx} {ξ:XK} {k n:Nat} {F:List D->Sto->Out D} {x:Str} {p pos:Pos} {e:Expr} {es:List Expr} {fs:Av} (C:Cal X.prog X.w X.K X.mg X.base x k n F) (T:Thr X ξ) (hr:Room k X.A) (ha:DA X ξ (e :: es) fs) (hg:Gl X x:=by rfl)
  (hdb:(x == ("__debug__":Str))=false:=by decide) (he:starEach (e :: es) X.env=(false,eval e X.env) :: starEach es X.env:=by rfl) (hpl:(backTo pos (starEach es X.env)).any (·.1)=false:=by rfl):DE X ξ (.Call (.Name x p) (e :: es) [] pos) (Zh F fs):=by
 obtain ⟨f,fd,ps,G,hm,hk,_,hb⟩:=C
 exact Zkr G T hr hm hk hb ha hg hdb he hpl
theorem Zmw {K:PySem.W.Frag} {H:Hp} {a:Addr} {ns:List Int} {n:Nat} {F:List D->Sto->Out D} (hl:ns.length<=n) (hO:ZoH H) (hS:SqL K H a (ns.map V.int)) (h: ∃ M',F [.rol (ns.map D.int)] []= .ok (.bl true) M'):
  spD K F [.ref a] H (fun v _=>v= .bl true) (fun _ _ _=>False):=by
 obtain ⟨M',e⟩:=h
 have hF:SqF K H a (ns.map V.int):=by
  rcases hS with (h | ⟨o,h⟩) | h
  ·rcases hO a with z | ⟨o,xs,z⟩
   ·rw[h] at z;cases z
   ·rw[h] at z;cases z
  ·exact .inl ⟨o,h⟩
  ·exact .inr h
 refine ⟨[.rol (ns.map D.int)],[],[],.cons (.rol hF (Reps.ints ns)) .nil,HR.nil,?_⟩
 rw[e]
 intro v H' α' _ _ r
 cases r
 rfl
end DL
end
section
namespace DL
open PySem PySem.Spec PyProof.Rows L2
inductive Src where
 |pur (ds:List D)
 |sto (n:Nat)
 |zip (n m:Nat)
 |enu (n:Nat)
 |rev (n l:Nat)
 |zips (ns:List Nat)
noncomputable def Zak (M:Sto) (i:Nat):List Nat->Option (Option (List D))
 | []=>some (some [])
 |n :: ns=>match M[n]? with
  |none=>none
  |some (.lst xs)=>match Zak M i ns with
   |none=>none
   |some r=>match xs[i]?,r with | some x,some ds=>some (some (x :: ds)) | _,_=>some none
noncomputable def nxt (src:Src) (i:Nat) (M:Sto):Option (Option D):=match src with
 | .pur ds=>some ds[i]?
 | .sto n=>match M[n]? with | some (.lst xs)=>some xs[i]? | none=>none
 | .zip n m=>match M[n]?,M[m]? with
  |some (.lst xs),some (.lst ys)=>(match xs[i]?,ys[i]? with | some x,some y=>some (some (.tup [x,y])) | _,_=>some none)
  |_,_=>none
 | .enu n=>match M[n]? with | some (.lst xs)=>(match xs[i]? with | some x=>some (some (.tup [.int i,x])) | none=>some none) | none=>none
 | .zips ns=>match Zak M i ns with | some (some ds)=>some (some (.tup ds)) | some none=>some none | none=>none
 | .rev n l=>match M[n]? with | some (.lst xs)=>if i < l then (match xs[l - 1 - i]? with | some x=>some (some x) | none=>none) else (if i=l then some none else none) | none=>none
noncomputable def cnt (src:Src) (M:Sto):Nat:=match src with
 | .pur ds=>ds.length
 | .sto n=>match M[n]? with | some (.lst xs)=>xs.length | none=>0
 | .zip n _=>match M[n]? with | some (.lst xs)=>xs.length | none=>0
 | .enu n=>match M[n]? with | some (.lst xs)=>xs.length | none=>0
 | .rev _ l=>l
 | .zips ns=>match ns with | n :: _=>(match M[n]? with | some (.lst xs)=>xs.length | none=>0) | []=>0
noncomputable def Ze2:List D->Option (List Nat)
 | []=>some []
 | .ref n :: r=>match Ze2 r with | some ns=>some (n :: ns) | none=>none
 |_ :: _=>none
noncomputable def Ats (H:Hp) (α:List Addr):List Nat->List Addr->Prop
 | [],[]=>True
 |n :: ns,l :: ls=>RefK H α 0 n l/\Ats H α ns ls
 |_,_=>False
theorem Zhm {K:PySem.W.Frag} {H:Hp} {α:List Addr}: ∀ {vs:List V} {ds:List D} {ns:List Nat},Reps K H α vs ds->Ze2 ds=some ns-> ∃ ls:List Addr,vs=ls.map V.ref/\Ats H α ns ls
 |_,_,_,.nil,e=>by cases e;exact ⟨[],rfl,trivial⟩
 |_,_,ns,.cons (d:=d) (ds:=ds) r t,e=>by
  cases r with
  | @ref p n hp=>
   cases e1:Ze2 ds with
   |none=>simp only[Ze2,e1] at e;cases e
   |some cs=>
    simp only[Ze2,e1,Option.some.injEq] at e
    subst e
    obtain ⟨ls,h1,h2⟩:=Zhm t e1
    exact ⟨p :: ls,by rw[h1];rfl,hp,h2⟩
  |_=>cases e
noncomputable def Zgd (M:Sto):List Nat->Prop
 | []=>True
 |n :: ns=>(∃ xs,M[n]?=some (.lst xs))/\Zgd M ns
theorem Zds {M:Sto} {i:Nat}: ∀ {ns:List Nat},Zgd M ns-> ∃ r,Zak M i ns=some r
 | [],_=>⟨_,rfl⟩
 |n :: ns,⟨⟨xs,e⟩,h⟩=>by
  obtain ⟨r,hr⟩:=Zds (i:=i) h
  rw[Zak,e]
  simp only[hr]
  cases xs[i]?<;>cases r<;>exact ⟨_,rfl⟩
theorem Zdt {M:Sto} {i:Nat}: ∀ {ns:List Nat},Zgd M ns-> ∀ {n:Nat} {xs:List D},n∈ns->M[n]?=some (.lst xs)->xs[i]?=none->Zak M i ns=some none
 | [],_,_,_,h,_,_=>by cases h
 |m :: ns,⟨⟨ys,e⟩,h⟩,n,xs,hn,e1,e2=>by
  obtain ⟨r,hr⟩:=Zds (i:=i) h
  rw[Zak,e]
  simp only[hr]
  rcases List.mem_cons.mp hn with z | z
  ·subst z
   rw[e1] at e
   cases e
   rw[e2]
  ·have:=Zdt h z e1 e2
   rw[hr] at this
   cases this
   cases ys[i]?<;>rfl
theorem ZaA {M:Sto} {i:Nat} {ns:List Nat} (h:Zgd M ns) {n:Nat} {xs:List D} (hn:n∈ns) (e1:M[n]?=some (.lst xs)) (e2:xs[i]?=none):nxt (.zips ns) i M=some none:=by
 show (match Zak M i ns with | some (some ds)=>some (some (D.tup ds)) | some none=>some none | none=>none)=_
 rw[Zdt h hn e1 e2]
noncomputable def Zmx (K:PySem.W.Frag) (H:Hp) (α:List Addr) (J:It) (src:Src):Prop:= ∀ (i:Nat) H' α' M',Ext K H H' α α'->HR K H' α' M'->match nxt src i M' with
 |some none=>J.stop i H'
 |some (some d)=>J.go i H'/\ ∀ x H'',J.yld i H' x H''->Ext K H' H'' α' α'/\HR K H'' α' M'/\Rep K H'' α' x d
 |none=>True
noncomputable def DI (X:Cx) (ξ:XK) (tg iter:Expr) (f:Ro->Sto->Out Src):Prop:= ∃ wi:TI,PI X tg iter wi/\ ∀ σ ρ H α M R,SR X.K H α σ ρ->HR X.K H α M->OG X.K (Zmx X.K) H α ξ R (f ρ M)->wi σ H R
section
variable {X:Cx} {ξ:XK} {tg iter a b:Expr} {fs:Av} {f:Ev} {p pos:Pos}
noncomputable def iR1 (fs:Av):Ro->Sto->Out Src:=fun ρ M=>(fs ρ M).bind fun ds M1=>match ds with
 | [.int j]=>if -(2 ^ 62)<=j/\j < 2 ^ 62 then .ok (.pur (Zby 0 j.toNat)) M1 else .bad
 |_=> .bad
theorem Zge {K:PySem.W.Frag} {H:Hp} {α:List Addr} {lo:Int} {n:Nat}:Zmx K H α (Itr lo n) (.pur (Zby lo n)):=by
 intro i H' α' M' ex hr
 show match some (Zby lo n)[i]? with | some none=>_ | some (some d)=>_ | none=>True
 by_cases h:i < n
 ·rw[ZfI h]
  refine ⟨h,fun x H'' y=> ?_⟩
  obtain ⟨e1,e2⟩:=y
  subst e1 e2
  exact ⟨Ext.refl,hr,.int _⟩
 ·rw[List.getElem?_eq_none (by rw[ZdI];omega)]
  exact Nat.le_of_not_lt h
theorem Zhn (hm:X.mg "range"=none) (ha:DA X ξ [a] fs) (hgl:Gl X "range":=by rfl) (hs:starEach [a] X.env=[(false,eval a X.env)]:=by rfl):DI X ξ tg (.Call (.Name "range" p) [a] [] pos) (iR1 fs):=by
 obtain ⟨ta,pa,qa⟩:=ha
 refine ⟨_,Zea hgl hm pa hs,fun σ ρ H α M R s hh q=>qa σ ρ H α M _ s hh (OG.seq q fun ds M1 vs H1 α1 e1 h1 r1 w1=> ?_)⟩
 match r1 with
 | .nil=>exact w1.elim
 | .cons r (.cons _ _)=>cases r<;>exact w1.elim
 | .cons r .nil=>
  cases r with
  |int j=>
   by_cases c: -(2 ^ 62)<=j/\j < 2 ^ 62
   ·simp only[if_pos c] at w1
    exact ⟨j,rfl,c.1,c.2,w1 _ H1 α1 Ext.refl h1 Zge⟩
   ·simp only[if_neg c] at w1
    exact w1.elim
  |_=>exact w1.elim
noncomputable def iSq (f:Ev):Ro->Sto->Out Src:=fun ρ M=>(f ρ M).bind fun d M1=>match d with
 | .tup ds=> .ok (.pur ds) M1
 | .rol ds=> .ok (.pur ds) M1
 | .ref n=> .ok (.sto n) M1
 |_=> .bad
theorem Zeo (ha:DE X ξ a f):DI X ξ tg a (iSq f):=by
 obtain ⟨ta,pa,qa⟩:=ha
 refine ⟨_,Zjy pa,fun σ ρ H α M R s hh q=>qa σ ρ H α M _ s hh (OG.seq q fun d M1 v H1 α1 e1 h1 r1 w1=> ?_)⟩
 cases r1 with
 | @tup p xs ds hp rp=>
  refine ⟨p,rfl,.inr ⟨⟨xs,(SqT.of hp)⟩,w1 (Itt X.K p) H1 α1 Ext.refl h1 ?_⟩⟩
  intro i H' α' M' ex hr
  show match some ds[i]? with | some none=>_ | some (some d)=>_ | none=>True
  cases ei:ds[i]? with
  |none=>exact ⟨xs,SqT.of (ex.tup _ _ hp),by rw[rp.length];exact List.getElem?_eq_none_iff.mp ei⟩
  |some d=>
   obtain ⟨v,k1,k2⟩:=rp.get ei
   refine ⟨⟨xs,v,SqT.of (ex.tup _ _ hp),k1⟩,fun x H'' y=> ?_⟩
   obtain ⟨ey,y⟩:=y
   have z:=y xs (SqT.of (ex.tup _ _ hp))
   rw[k1] at z
   cases z
   subst ey
   exact ⟨Ext.refl,hr,Rep.mono ex k2⟩
 | @rol p xs ds hp rp=>
  refine ⟨p,rfl,.inl ⟨⟨xs,hp.sq⟩,w1 (Itl X.K p) H1 α1 Ext.refl h1 ?_⟩⟩
  intro i H' α' M' ex hr
  show match some ds[i]? with | some none=>_ | some (some d)=>_ | none=>True
  have hq:=(ex.rol _ _ hp).sq
  cases ei:ds[i]? with
  |none=>exact ⟨xs,hq,by rw[rp.length];exact List.getElem?_eq_none_iff.mp ei⟩
  |some d=>
   obtain ⟨v,k1,k2⟩:=rp.get ei
   refine ⟨⟨xs,v,hq,k1⟩,fun x H'' y=> ?_⟩
   obtain ⟨ey,y⟩:=y
   have z:=y xs hq
   rw[k1] at z
   cases z
   subst ey
   exact ⟨Ext.refl,hr,Rep.mono ex k2⟩
 | @ref p n hp=>
  obtain ⟨xs0,g0⟩:=h1.some_at hp
  refine ⟨p,rfl,.inl ⟨⟨xs0,SqL.of g0⟩,w1 (Itl X.K p) H1 α1 Ext.refl h1 ?_⟩⟩
  intro i H' α' M' ex hr
  show match (match M'[n]? with | some (.lst xs)=>some xs[i]? | none=>none) with | some none=>_ | some (some d)=>_ | none=>True
  cases em:M'[n]? with
  |none=>exact True.intro
  |some so=>
   cases so with
   |lst ds=>
    obtain ⟨xs,g1,g2⟩:=hr.at (ex.get hp) em
    show match some ds[i]? with | some none=>_ | some (some d)=>_ | none=>True
    cases ei:ds[i]? with
    |none=>exact ⟨xs,SqL.of g1,by rw[g2.length];exact List.getElem?_eq_none_iff.mp ei⟩
    |some d=>
     obtain ⟨v,k1,k2⟩:=g2.get ei
     refine ⟨⟨xs,v,SqL.of g1,k1⟩,fun x H'' y=> ?_⟩
     obtain ⟨ey,y⟩:=y
     have z:=y xs (SqL.of g1)
     rw[k1] at z
     cases z
     subst ey
     exact ⟨Ext.refl,hr,k2⟩
 |_=>exact w1.elim
end
noncomputable def blk (X:Cx) (scope:Scope) (cl:List (Str × Addr)) (N:List Str) (C:Addr) (fp:List Addr) (s:Shared) (H:Hp):Cx:=
 { X with N:=N,s₀:=s,H₀:=H,env:=compEnvC scope cl C X.env,outer:=X.stack,stack:=X.stack,ex:=fp,fn:=fun _=>false,pn:=[],xe:=fun _ _=>False }
theorem Ze3 {X:Cx} {scope:Scope} {cl:List (Str × Addr)} {N:List Str} {C:Addr} {fp:List Addr} {s:Shared} {H:Hp}:Thr (blk X scope cl N C fp s H) E0:=
 ⟨PassesOwn.never,fun _ _ _ _ _ _ _ ⟨_,_,_,_,_,_,_,_,_,_,_,_,_,q⟩=>q,fun _ _ _ _ _ _ _ _ _ _ _ _ _ _ _ _ _ _ q=>q⟩
noncomputable def ZcB (src:Src) (tg:Tg) (c:Tv) (f:Ev) (n:Nat):Nat->Nat->Ro->Sto->Out Unit
 |fuel,i,ρ,M=>match nxt src i M with
  |none=> .bad
  |some none=> .ok () M
  |some (some d)=>(match fuel with
   |0=> .bad
   |fuel + 1=>(match tg d ρ with
    |none=> .bad
    |some ρ1=>(match c ρ1 M with
     | .ok true M1=>(match f ρ1 M1 with
      | .ok x M2=>(match M2[n]? with
       |some (.lst xs)=>if xs.length < 10000000 then ZcB src tg c f n fuel (i + 1) ρ1 (M2.set n (.lst (xs ++ [x]))) else .bad
       |none=> .bad)
      |_=> .bad)
     | .ok false M1=>ZcB src tg c f n fuel (i + 1) ρ1 M1
     |_=> .bad)))
noncomputable def roB (k:Nat) (fr:List Nat) (ρ:Ro):Ro:=List.replicate k none ++ fr.map fun i=>(ρ[i]?).join
noncomputable def ZaW (fi:Ro->Sto->Out Src) (k:Nat) (fr:List Nat) (tg:Tg) (c:Tv) (f:Ev):Ev:=fun ρ M=>(fi ρ M).bind fun src M1=>match ZcB src tg c f M1.length (cnt src M1) 0 (roB k fr ρ) (M1 ++ [.lst []]) with
 | .ok _ M2=> .ok (.ref M1.length) M2
 |_=> .bad
structure Blk (X:Cx) (scope:Scope) (cl:List (Str × Addr)) (N:List Str) (k:Nat) (fr:List Nat):Prop where
 clos:closureFor scope X.env=pure cl
 kind:scope.kind= .function
 cell: ∀ y∈scope.names,y.2≠ .cell
 names: ∀ y∈scope.names,y.2= .local->scope.names.lookup y.1=some .local
 sub: ∀ x c,cl.lookup x=some c->X.env.cells.lookup x=some c
 has: ∀ x,((relabel scope X.env).names.lookup x=some .cell\/(relabel scope X.env).names.lookup x=some .free)-> ∃ c,cl.lookup x=some c
 len:N.length=k + fr.length
 at_: ∀ (j i:Nat),fr[j]?=some i-> ∃ x,N[k + j]?=some x/\X.N[i]?=some x/\X.env.kindOf x=some .cell/\((relabel scope X.env).names.lookup x=some .cell\/(relabel scope X.env).names.lookup x=some .free)/\cl.lookup x=X.env.cells.lookup x
theorem Zcx {prog:Program} {w:World} {A:Around} {R:Result->Shared->Prop} {s:Shared} {elt target iter:Expr} {ifs:List Expr} {scope:Scope} {pos:Pos} {it acc:Value} {env:Env} (I:Nat->Shared->Prop)
  (turn: ∀ n s,I n s->wpAny (model prog w) A (pyNext it) (fun r s₁=>match r with
   |none=>R (.ok .next) s₁
   |some v=>wpAny (model prog w) A (letOwnedTupleGo target it v) (fun _ s₁=>wpAny (model prog w) A (assign target env v) (fun _ s₂=>
     wpAny (model prog w) A (forIn ifs true fun c r=>if r=true then do let ok <- isTrue c env (eval c env);pure (ForInStep.yield ok) else pure (ForInStep.yield r)) (fun ok s₃=>
      if ok=true then wpAny (model prog w) A (eval elt env) (fun x s₄=>
       wpAny (model prog w) A (call (.builtin "list.append") [acc,x]) (fun _ s₅=> ∃ m,m < n/\I m s₅) (fun _ _=>False) s₄) (fun _ _=>False) s₃
      else ∃ m,m < n/\I m s₃) (fun _ _=>False) s₂) (fun _ _=>False) s₁) (fun _ _=>False) s₁) (fun _ _=>False) s)
  (n:Nat) (h:I n s):
  codeAny (model prog w) A (.compLoop (.ListComp elt [⟨target,iter,ifs,0⟩] scope pos) 0 it acc env) R s:=by
 refine codeAny_loop rfl I (fun n s hI=> ?_) n h
 show wpAny _ A ((compTurn (.ListComp elt [⟨target,iter,ifs,0⟩] scope pos) 0 it acc env).onRaise (fun x=>do noteFrame x env;theTreesLotGoes x)) _ _ s
 refine wpAny_noted ?_
 rw[compTurn_list]
 refine wpAny_bind (wpAny_standAt (wpAny_bind (wpAny_mono (turn n s hI) (fun r s₁ h₁=> ?_) fun _ _ h'=>h'.elim)))
 cases r with
 |none=>exact wpAny_pure h₁
 |some v=>
  refine wpAny_bind (wpAny_mono h₁ (fun _ s₁ h₁=> ?_) fun _ _ h'=>h'.elim)
  refine wpAny_bind (wpAny_mono h₁ (fun _ s₂ h₂=>wpAny_bind (wpAny_mono h₂ (fun ok s₃ h₃=> ?_) fun _ _ h'=>h'.elim)) fun _ _ h'=>h'.elim)
  cases ok with
  |false=>exact wpAny_pure ⟨rfl,h₃⟩
  |true=>
   exact wpAny_bind (wpAny_bind (wpAny_mono h₃ (fun x s₄ h₄=>wpAny_bind (wpAny_mono h₄ (fun _ s₅ h₅=>wpAny_pure (wpAny_pure ⟨rfl,h₅⟩)) fun _ _ h'=>h'.elim)) fun _ _ h'=>h'.elim))
noncomputable def DC (X:Cx) (ifs:List Expr) (c:Tv):Prop:=(ifs=[]/\c=fun _ M=> .ok true M)\/ ∃ e,ifs=[e]/\DT X E0 e c
section
variable {X:Cx} {ξ:XK} {tg iter elt:Expr} {ifs:List Expr} {scope:Scope} {cl:List (Str × Addr)} {N:List Str} {k:Nat} {fr:List Nat} {fi:Ro->Sto->Out Src} {gt:Tg} {c:Tv} {f:Ev} {pos:Pos}
theorem ZfL (B:Blk X scope cl N k fr) {pins:List (Addr × Obj)} {σ:L2.St} {H:Hp} {s:Shared} {fp:List Addr} (I:Inv X pins σ H s) (hf: ∀ b∈fp,Zd9 X pins H b) (hlt: ∀ b∈fp,b < s.heap.objs.size):(blk X scope cl N s.heap.objs.size fp s H).Ok where
 mod:=I.ok.mod
 kind:=B.kind
 glob:=I.ok.glob
 blt:=I.ok.blt
 above:=Nat.le_refl _
 inj:=fun x y c h1 h2=>I.ok.inj x y c (B.sub x c h1) (B.sub y c h2)
 has:=fun x h=>B.has x h
 cab:=fun x c h=>(by cases h)
 hd:=I.ok.hd
 frames:=I.ok.frames
 stk:= .inl rfl
 exf:=fun b hb=>⟨Nat.ne_of_lt (hlt b hb),fun x c h=>(hf b hb).2.2.2.2.1 x c (B.sub x c h)⟩
 bs:=I.bs
 bsz:=Nat.le_trans I.ok.bsz I.sz
 noex:=fun b o e hb=>by
  rcases (hf b hb).2.2.2.1 with z | z
  ·exact I.ok.noex b o e z
  ·exact absurd (Nat.lt_of_lt_of_le (Heap.lt_size (I.ok.bs b o e).1) z) (Nat.lt_irrefl _)
 exfs:=fun b hb z=>by
  rcases List.mem_cons.mp (I.stkSub b z) with e | e
  ·exact (hf b hb).2.1 e
  ·exact (hf b hb).2.2.1 e
 funs:=I.stack
 frf:=I.stkFree
theorem join_some {α:Type} {o:Option (Option α)} {v:α} (h:o.join=some v):o=some (some v):=by
 cases o with
 |none=>cases h
 |some x=>cases x with
  |none=>cases h
  |some y=>cases h;rfl
theorem Zks {ρ:Ro} {i:Nat} {d:D} (h:(roB k fr ρ)[i]?=some (some d)): ∃ j r,i=k + j/\fr[j]?=some r/\ρ[r]?=some (some d):=by
 unfold roB at h
 by_cases hi:i < k
 ·rw[List.getElem?_append_left (by rw[List.length_replicate];exact hi)] at h
  have:=List.mem_of_getElem? h
  rw[List.mem_replicate] at this
  cases this.2
 ·rw[List.getElem?_append_right (by rw[List.length_replicate];omega),List.length_replicate,List.getElem?_map] at h
  cases e:fr[i - k]? with
  |none=>rw[e] at h;cases h
  |some r=>
   rw[e] at h
   exact ⟨i - k,r,by omega,e,join_some (Option.some.inj h)⟩
noncomputable def stB (k:Nat) (fr:List Nat) (σ:L2.St):L2.St:=List.replicate k none ++ fr.map fun i=>(σ[i]?).join
theorem Zkt {σ:L2.St} {i:Nat} {d:V} (h:(stB k fr σ)[i]?=some (some d)): ∃ j r,i=k + j/\fr[j]?=some r/\σ[r]?=some (some d):=by
 unfold stB at h
 by_cases hi:i < k
 ·rw[List.getElem?_append_left (by rw[List.length_replicate];exact hi)] at h
  have:=List.mem_of_getElem? h
  rw[List.mem_replicate] at this
  cases this.2
 ·rw[List.getElem?_append_right (by rw[List.length_replicate];omega),List.length_replicate,List.getElem?_map] at h
  cases e:fr[i - k]? with
  |none=>rw[e] at h;cases h
  |some r=>
   rw[e] at h
   exact ⟨i - k,r,by omega,e,join_some (Option.some.inj h)⟩
theorem SR.blk {K:PySem.W.Frag} {H:Hp} {α:List Addr} {σ:L2.St} {ρ:Ro} (h:SR K H α σ ρ):SR K H α (stB k fr σ) (roB k fr ρ):=by
 refine ⟨by simp[stB,roB],fun i d e=> ?_⟩
 obtain ⟨j,r,rfl,e1,e2⟩:=Zks e
 obtain ⟨v,e3,e4⟩:=h.2 r d e2
 refine ⟨v,?_,e4⟩
 unfold stB
 rw[List.getElem?_append_right (by rw[List.length_replicate];omega),List.length_replicate,List.getElem?_map,Nat.add_sub_cancel_left,e1]
 show some (σ[r]?).join=_
 rw[e3]
 rfl
theorem Ze4 (B:Blk X scope cl N k fr) {pins:List (Addr × Obj)} {σ:L2.St} {H:Hp} {s:Shared} {fp:List Addr} {h1:Heap} {tk:Nat} {m:Str->Option Value} (I:Inv X pins σ H s) (hf: ∀ b∈fp,Zd9 X pins H b) (hlt: ∀ b∈fp,b < s.heap.objs.size)
  (hn:h1.Ns s.heap.objs.size m) (hk: ∀ b o,s.heap.get? b=some o->h1.get? b=some o):Inv (blk X scope cl N s.heap.objs.size fp s H) [] (stB k fr σ) H { s with heap:=h1,toks:=tk } where
 ok:=ZfL B I hf hlt
 os:=rfl
 bare:=I.bare
 base:=Un.kept hk
 loc:=by
  refine ⟨m,hn,fun i x v e1 e2 e3=> ?_⟩
  obtain ⟨j,r,rfl,g1,g2⟩:=Zkt e2
  obtain ⟨y,k1,k2,k3,k4,k5⟩:=B.at_ j r g1
  have exy:x=y:=Option.some.inj (e1.symm.trans k1)
  subst exy
  obtain ⟨m0,hm0,hl⟩:=I.loc
  obtain ⟨u,ru,lk⟩:=hl r x v k2 g2 (.inr (.inl k3))
  refine ⟨u,ru,?_⟩
  rcases lk with ⟨z,_⟩ | ⟨_,c,z1,⟨o,z2,z3⟩⟩
  ·rw[k3] at z;cases z
  ·exact .inr ⟨k4,c,k5.trans z1,⟨o,hk _ _ z2,z3⟩⟩
 cell:=fun x c h=>by
  obtain ⟨v,o,e1,e2⟩:=I.cell x c (B.sub x c h)
  exact ⟨v,o,hk _ _ e1,e2⟩
 free:=I.fresh
 freeC:=fun x c h=>I.freeC x c (B.sub x c h)
 pin:=fun p hp=>(by simp[blk] at hp)
 hok:=I.hok.kept hk
 len:=by
  show (stB k fr σ).length=N.length
  rw[B.len]
  simp[stB]
 qd:=I.qd
theorem ZdJ (B:Blk X scope cl N k fr) (hi:DI X ξ tg iter fi) (hg: ∀ C fp s H,DG (blk X scope cl N C fp s H) tg gt) (ht: ∀ C fp s H,DC (blk X scope cl N C fp s H) ifs c) (he: ∀ C fp s H,DE (blk X scope cl N C fp s H) E0 elt f)
  (hs: ∀ x,foldedSetIterable iter X.env x=pure x:=by intro _;rfl):DE X ξ (.ListComp elt [⟨tg,iter,ifs,0⟩] scope pos) (ZaW fi k fr gt c f):=by
 obtain ⟨wi,pi,qi⟩:=hi
 refine ⟨fun σ H Q=> ∃ ρ α M,SR X.K H α σ ρ/\HR X.K H α M/\OP X.K H α ξ Q (ZaW fi k fr gt c f ρ M),?_,fun σ ρ H α M Q s h q=>⟨ρ,α,M,s,h,q⟩⟩
 rintro pins s σ H Q I ⟨ρ,α,M,sr,hr,op⟩
 rw[eval_ListComp]
 refine wpAny_comprehension_free (use:=none) rfl hs B.clos B.kind B.names ?_
 refine thn (pi pins s σ H (fun J H2=> ∃ α2 M2 src,Ext X.K H H2 α α2/\HR X.K H2 α2 M2/\Zmx X.K H2 α2 J src/\OP X.K H2 α2 ξ Q (match ZcB src gt c f M2.length (cnt src M2) 0 (roB k fr ρ) (M2 ++ [.lst []]) with | .ok _ M2'=> .ok (.ref M2.length) M2' | _=> .bad)) I
  (qi σ ρ H α M _ sr hr (OG.seq op fun src M1 J H1 α1 e1 h1 r1 q1=>⟨α1,M1,src,e1,h1,r1,q1⟩))) fun v s1 w1=>thn w1 fun itv s2 w2=> ?_
 obtain ⟨it,fp,tn,J,H2,rfl,I2,T,st2,f2,α2,M2,src,e2,h2,sc,op2⟩:=w2
 have srI:=sr.mono e2
 refine wpAny_newObj_type ?_
 have I3:Inv X pins σ (upd H2 s2.heap.objs.size (.lst [])) { s2 with heap:=s2.heap.push { cls:= .type "list",data:= .seq ([]:List Value).toArray } }:=I2.lnew (its:=[]) (t':=s2.toks) .nil (Nat.zero_le _)
 have fD:H2 s2.heap.objs.size=none:=I2.fresh
 generalize hD:s2.heap.objs.size=D at I3 fD
 generalize hs3:({ s2 with heap:=s2.heap.push { cls:= .type "list",data:= .seq ([]:List Value).toArray } }:Shared)=s3 at I3
 generalize hH3:upd H2 D (.lst [])=H3 at I3
 have h3:HR X.K H3 (α2 ++ [D]) (M2 ++ [.lst []]):=by rw[<- hH3];exact h2.new fD .nil
 have e3:Ext X.K H2 H3 α2 (α2 ++ [D]):=by rw[<- hH3];exact Ext.new fD
 have aD:RefK H3 (α2 ++ [D]) 0 M2.length D:=⟨h2.last D,by first | exact Kn.lst Zr | (rw[<- hH3];exact Kn.lst Zr)⟩
 have lt2: ∀ b∈fp,b < s2.heap.objs.size:=fun b hb=>let ⟨o,e,_⟩:=T.obj _ _ st2 b hb;Heap.lt_size e
 have keep3: ∀ b o,s2.heap.get? b=some o->s3.heap.get? b=some o:=fun b o e=>by rw[<- hs3];exact Heap.get?_push_of_some _ e
 have f3: ∀ b∈fp,Zd9 X pins H3 b:=fun b hb=>⟨by rw[<- hH3,ZI (by rw[<- hD];exact Nat.ne_of_lt (lt2 b hb))];exact (f2 b hb).1,(f2 b hb).2⟩
 have lt3: ∀ b∈fp,b < s3.heap.objs.size:=fun b hb=>let ⟨o,e,_⟩:=T.obj _ _ st2 b hb;Heap.lt_size (keep3 b o e)
 have st3:tn 0 s3.heap:=T.keep _ _ _ st2 fun b _ o e=>keep3 b o e
 refine wpAny_newFunctionEnv B.cell (by intro y hy;simp at hy) (fun h₁ hns₁ hsb₁=> ?_) B.kind
 have keep4: ∀ b o,s3.heap.get? b=some o->h₁.get? b=some o:=fun b o e=>hsb₁.extBut b o (Nat.ne_of_lt (Heap.lt_size e)) (Heap.get?_push_of_some _ e)
 have I4:=Ze4 (tk:=s3.toks + ([]:List (Str × Value)).length) B I3 f3 lt3 hns₁ keep4
 have st4:tn 0 h₁:=T.keep _ _ _ st3 fun b _ o e=>keep4 b o e
 generalize hX:blk X scope cl N s3.heap.objs.size fp s3 H3=Y at I4
 have YK:Y.K=X.K:=by rw[<- hX];rfl
 have Yp:Y.prog=X.prog:=by rw[<- hX];rfl
 have Yw:Y.w=X.w:=by rw[<- hX];rfl
 have YA:Y.A=X.A:=by rw[<- hX];rfl
 have Ye:Y.env=compEnvC scope cl s3.heap.objs.size X.env:=by rw[<- hX];rfl
 obtain ⟨tt,pt,qt⟩:=hg s3.heap.objs.size fp s3 H3
 obtain ⟨te,pe,qe⟩:=he s3.heap.objs.size fp s3 H3
 have tst:=ht s3.heap.objs.size fp s3 H3
 rw[hX] at pt qt pe qe tst
 cases er:ZcB src gt c f M2.length (cnt src M2) 0 (roB k fr ρ) (M2 ++ [.lst []]) with
 |exc x M9=>rw[er] at op2;exact op2.elim
 |bad=>rw[er] at op2;exact op2.elim
 |ok u9 M9=>
  rw[er] at op2
  have loop:codeAny (model X.prog X.w) X.A (.compLoop (.ListComp elt [⟨tg,iter,ifs,0⟩] scope pos) 0 (.ref it) (.ref D) (compEnvC scope cl s3.heap.objs.size X.env)) (compPost (model X.prog X.w) X.A X.xe none (EP X pins σ Q) (.ref D) s3.heap.objs.size) { s3 with heap:=h₁,toks:=s3.toks + ([]:List (Str × Value)).length }:=by
   refine Zcx (fun n s'=> ∃ i σ' ρ' H' α' M',Inv Y [] σ' H' s'/\tn i s'.heap/\(∀ b∈fp,H' b=none)/\SR X.K H' α' σ' ρ'/\HR X.K H' α' M'/\Ext X.K H3 H' (α2 ++ [D]) α'/\ZcB src gt c f M2.length n i ρ' M'= .ok u9 M9) ?_ (cnt src M2)
    ⟨0,stB k fr σ,roB k fr ρ,H3,α2 ++ [D],M2 ++ [.lst []],I4,st4,fun b hb=>(f3 b hb).1,(srI.blk).mono e3,h3,Ext.refl,er⟩
   rintro n s5 ⟨i,σ5,ρ5,H5,α5,M5,I5,st5,fr5,sr5,hr5,ex5,en⟩
   have fp5: ∀ {H':Hp},(∀ b∈fp,H' b=none)-> ∀ b∈fp,Zd9 Y [] H' b:=fun hn b hb=>⟨hn b hb,by rw[Ye];exact Nat.ne_of_lt (lt3 b hb),by
    have:=(ZfL B I3 f3 lt3).exfs b hb
    rw[hX] at this;exact this,.inl (by rw[<- hX];exact hb),fun x c h=>(by rw[Ye] at h;exact (f3 b hb).2.2.2.2.1 x c (B.sub x c h)),fun p hp=>(by rw[<- hX] at hp;simp[blk] at hp)⟩
   have src5:=sc i H5 α5 M5 (e3.trans ex5) hr5
   rw[ZcB] at en
   cases ex:nxt src i M5 with
   |none=>rw[ex] at en;cases en
   |some od=>
    rw[ex] at src5 en
    cases od with
    |none=>
     cases en
     have fin:=T.done Y Yp Yw YK YA i [] s5 σ5 H5 (fun _ _=>False) I5 (fp5 fr5) st5 src5
     rw[YA] at fin
     refine thn fin fun r s6 ⟨hr6,I6⟩=> ?_
     subst hr6
     obtain ⟨m6,hm6,_⟩:=id I6.loc
     rw[Ye] at hm6
     refine ⟨m6,hm6,fun h' sb=> ?_⟩
     have un:=I6.base
     have hok6:=I6.hok
     have I7:Inv X pins σ H5 s6:=by
      refine I3.call' (s':=s6) (ch:=fp) ?_ ?_ ?_ I6.bare fun b hb=> ?_
      ·have:=I6.os
       rw[this,<- hX];rfl
      ·rw[<- hX] at un
       exact un
      ·rw[Yp,Yw] at hok6
       exact hok6
      ·obtain ⟨_,z1,z2,z3,z4,z5⟩:=f3 b hb
       exact ⟨z3,z1,z4,z5⟩
     have hC:H5 s3.heap.objs.size=none:=by have:=I6.free;rw[Ye] at this;exact this
     have I8:Inv X pins σ H5 { s6 with heap:=h',toks:=s6.toks }:=I7.turned (it:=s3.heap.objs.size) (fun b o hb e=>(sb.2 b hb).trans e) hC (Nat.ne_of_gt I3.lt) (.inr I3.sz)
      (fun x c h z=>by
       obtain ⟨v,o,e,_⟩:=I3.cell x c h
       exact absurd (Heap.lt_size e) (by rw[z];exact Nat.lt_irrefl _)) (fun p hp z=>by
       have:=(I3.pin p hp).1
       exact absurd (Heap.lt_size this) (by rw[z];exact Nat.lt_irrefl _))
     exact ⟨.ref D,H5,I8,rfl,op2 _ H5 α5 (e3.trans ex5) hr5 (.ref (ex5.get aD))⟩
    |some d=>
     obtain ⟨go,yl⟩:=src5
     cases n with
     |zero=>cases en
     |succ n=>
      simp only at en
      have itm:=T.item Y Yp Yw YK YA i [] s5 σ5 H5 (fun _ _=>False) I5 (fp5 fr5) st5 go
      rw[YA] at itm
      refine thn itm fun r s6 ⟨u,hr6,w6⟩=> ?_
      subst hr6
      refine thn w6 fun _ s7 ⟨x,H7,I7,r7,y7,st7,fr7⟩=> ?_
      obtain ⟨ex7,hr7,rp7⟩:=yl x H7 y7
      have sr5:=sr5.mono ex7
      have hr5:=hr7
      have ex5:=ex5.trans ex7
      have I7':=I7.pinned (fp5 fr7) (T.obj _ _ st7)
      cases eg:gt d ρ5 with
      |none=>rw[eg] at en;cases en
      |some ρ6=>
       rw[eg] at en
       simp only at en
       have asg:=pt _ s7 σ5 H7 x u _ I7' r7 (qt x d σ5 ρ5 H7 α5 ρ6 (fun σ' H'=>H'=H7/\SR X.K H7 α5 σ' ρ6) (by rw[YK];exact sr5) (by rw[YK];exact rp7) eg fun σ' s'=>⟨rfl,by rw[YK] at s';exact s'⟩)
       rw[Yp,Yw,YA,Ye] at asg
       refine wpAny_mono asg (fun _ s8 ⟨σ8,H8,I8,z8,sr8⟩=> ?_) (fun _ _ z=>by rw[<- hX] at z;exact z)
       subst z8
       have again: ∀ {σ9:L2.St} {H9:Hp} {s9:Shared},Inv Y ([] ++ Zbz fp s7.heap) σ9 H9 s9->Inv Y [] σ9 H9 s9/\tn (i + 1) s9.heap/\ ∀ b∈fp,H9 b=none:=fun {σ9 H9 s9} I9=>by
        refine ⟨I9.unpinned,T.keep _ _ _ st7 fun b hb o e=>(I9.pin (b,o) (List.mem_append_right _ (List.mem_append_right _ (Z8 hb e)))).1,fun b hb=> ?_⟩
        obtain ⟨o,e,_⟩:=T.obj _ _ st7 b hb
        exact (I9.pin (b,o) (List.mem_append_right _ (List.mem_append_right _ (Z8 hb e)))).2.1
       have after: ∀ (kk:Bool) (M8:Sto) (H9:Hp) (α9:List Addr) (s9:Shared),Inv Y ([] ++ Zbz fp s7.heap) σ8 H9 s9->Ext X.K H8 H9 α5 α9->HR X.K H9 α9 M8->c ρ6 M5= .ok kk M8->
         (if kk=true then wpAny (model X.prog X.w) X.A (eval elt (compEnvC scope cl s3.heap.objs.size X.env)) (fun x s₄=>wpAny (model X.prog X.w) X.A (call (.builtin "list.append") [.ref D,x]) (fun _ s₅=> ∃ m,m < n + 1/\ ∃ i σ' ρ' H' α' M',Inv Y [] σ' H' s₅/\tn i s₅.heap/\(∀ b∈fp,H' b=none)/\SR X.K H' α' σ' ρ'/\HR X.K H' α' M'/\Ext X.K H3 H' (α2 ++ [D]) α'/\ZcB src gt c f M2.length m i ρ' M'= .ok u9 M9) (fun _ _=>False) s₄) (fun _ _=>False) s9
          else ∃ m,m < n + 1/\ ∃ i σ' ρ' H' α' M',Inv Y [] σ' H' s9/\tn i s9.heap/\(∀ b∈fp,H' b=none)/\SR X.K H' α' σ' ρ'/\HR X.K H' α' M'/\Ext X.K H3 H' (α2 ++ [D]) α'/\ZcB src gt c f M2.length m i ρ' M'= .ok u9 M9):=by
        intro kk M8 H9 α9 s9 I9 ex9 hr9 ec
        rw[ec] at en
        cases kk with
        |false=>
         obtain ⟨a1,a2,a3⟩:=again I9
         exact Zjm ⟨n,Nat.lt_succ_self n,i + 1,σ8,ρ6,H9,α9,M8,a1,a2,a3,sr8.mono ex9,hr9,ex5.trans ex9,en⟩
        |true=>
         simp only at en
         refine Zjn ?_
         cases ef:f ρ6 M8 with
         |exc x9 M10=>rw[ef] at en;cases en
         |bad=>rw[ef] at en;cases en
         |ok y M10=>
          rw[ef] at en
          simp only at en
          have ev:=pe _ s9 σ8 H9 (fun v H'=> ∃ α',Ext X.K H9 H' α9 α'/\HR X.K H' α' M10/\Rep X.K H' α' v y) I9 (qe σ8 ρ6 H9 α9 M8 _ (by rw[YK];exact sr8.mono ex9) (by rw[YK];exact hr9) (by
           rw[ef,YK]
           exact fun v H' α' e h r=>⟨α',e,h,r⟩))
          rw[Yp,Yw,YA,Ye] at ev
          refine wpAny_mono ev (fun yv s10 ⟨v,H10,I10,r10,α10,ex10,hr10,rp10⟩=> ?_) (fun _ _ z=>by rw[<- hX] at z;exact z)
          cases em:M10[M2.length]? with
          |none=>rw[em] at en;cases en
          |some so=>
           cases so with
           |lst ds=>
            rw[em] at en
            simp only at en
            by_cases cz:ds.length < 10000000
            ·rw[if_pos cz] at en
             have aD10:=ex10.get (ex9.get (ex5.get aD))
             obtain ⟨xs,g1,g2⟩:=hr10.at aD10 em
             have ap:=ZcM (X:=Y) _ s10 σ8 H10 (.ref D) [v] (.ref D) [yv] (fun _ H'=>H'=upd H10 D (.lst (xs ++ [v]))) I10 rfl (.cons r10 .nil) ⟨D,xs,v,rfl,rfl,g1,by rw[g2.length];exact Nat.lt_of_lt_of_le cz (by decide),rfl⟩
             rw[Yp,Yw,YA] at ap
             refine wpAny_mono ap (fun _ s11 ⟨v11,H11,I11,_,z11⟩=> ?_) (fun _ _ z=>by rw[<- hX] at z;exact z)
             subst z11
             obtain ⟨a1,a2,a3⟩:=again I11
             have exw:Ext X.K H10 (upd H10 D (.lst (xs ++ [v]))) α10 α10:=Ext.wr g1
             exact ⟨n,Nat.lt_succ_self n,i + 1,σ8,ρ6,_,α10,_,a1,a2,a3,((sr8.mono ex9).mono ex10).mono exw,hr10.wr aD10 g1 (g2.append (.cons rp10 .nil)),((ex5.trans ex9).trans ex10).trans exw,en⟩
            ·rw[if_neg cz] at en
             cases en
       rcases tst with ⟨rfl,ec⟩ | ⟨e,rfl,tt',ptt,qtt⟩
       ·refine wpAny_tests_nil ?_
        exact after true M5 H8 α5 s8 I8 Ext.refl hr5 (by rw[ec])
       ·refine wpAny_tests_one ?_
        cases ec:c ρ6 M5 with
        |exc x9 M10=>rw[ec] at en;cases en
        |bad=>rw[ec] at en;cases en
        |ok kk M8=>
         have tv':=ptt _ s8 σ8 H8 (fun b H'=>b=kk/\ ∃ α',Ext X.K H8 H' α5 α'/\HR X.K H' α' M8) I8 (qtt σ8 ρ6 H8 α5 M5 _ (by rw[YK];exact sr8) (by rw[YK];exact hr5) (by
          rw[ec,YK]
          exact fun v H' α' e h r=>⟨r,α',e,h⟩))
         rw[Yp,Yw,YA,Ye] at tv'
         refine wpAny_mono tv' (fun b s9 ⟨H9,I9,zb,α9,ex9,hr9⟩=> ?_) (fun _ _ z=>by rw[<- hX] at z;exact z)
         subst zb
         exact after b M8 H9 α9 s9 I9 ex9 hr9 ec
  exact codeAny_compStart_list loop (T.self X.A 0 _ _ _ st4 loop)
end
end DL
end
section
namespace DL
open PySem PySem.Spec PyProof.Rows L2
theorem Zmy {names:List (Str × NameKind)} (h:names.all (fun y=>y.2 != .cell && y.2 != .free)=true) (x:Str): ¬ (names.lookup x=some .cell\/names.lookup x=some .free):=by
 induction names with
 |nil=>intro z;rcases z with z | z<;>simp at z
 |cons y r ih=>
  rw[List.all_cons,Bool.and_eq_true] at h
  obtain ⟨n,kd⟩:=y
  rw[List.lookup_cons]
  cases e:x == n with
  |true=>
   simp only
   intro z
   have h1:=h.1
   rcases z with z | z<;>(cases z;simp at h1)
  |false=>exact ih h.2
theorem ZiK {names:List (Str × NameKind)} {env:Env} (h:names.all (fun y=>y.2 != .cell && y.2 != .free)=true):
  (names.map fun (n,k)=>if (k == NameKind.free && env.scope.kind == .function && env.kindOf n == some .cell) then (n,NameKind.cell) else (n,k))=names:=by
 induction names with
 |nil=>rfl
 |cons y r ih=>
  rw[List.all_cons,Bool.and_eq_true] at h
  obtain ⟨n,kd⟩:=y
  have hk:(kd == NameKind.free)=false:=by
   have h1:=h.1
   rw[Bool.and_eq_true] at h1
   have h2:=h1.2
   cases kd<;>first | rfl | simp at h2
  rw[List.map_cons,ih h.2]
  simp[hk]
theorem ZoJ {X:Cx} {scope:Scope} {N:List Str} {k:Nat} (h:scope.names.all (fun y=>y.2 != .cell && y.2 != .free)=true) (hk:scope.kind= .function) (hn: ∀ y∈scope.names,y.2= .local->scope.names.lookup y.1=some .local) (hl:N.length=k):Blk X scope [] N k [] where
 clos:=closureFor_none fun y hy z=>by
  have:=List.all_eq_true.mp h y hy
  rw[z] at this
  simp at this
 kind:=hk
 cell:=fun y hy z=>by
  have:=List.all_eq_true.mp h y hy
  rw[z] at this
  simp at this
 names:=hn
 sub:=fun x c z=>(by cases z)
 has:=fun x z=>by
  have e:(relabel scope X.env).names=scope.names:=ZiK h
  rw[e] at z
  exact absurd z (Zmy h x)
 len:=hl
 at_:=fun j i z=>(by simp at z)
theorem Ze5 {env:Env}: ∀ (names:List (Str × NameKind)) (acc:List (Str × Addr)),(∀ y∈names,y.2= .free-> ∃ c,env.cells.lookup y.1=some c)->
  (forIn names acc fun (x:Str × NameKind) (cs:List (Str × Addr))=>if x.2 == NameKind.free then (do let a <- cellOf env x.1;pure (ForInStep.yield ((x.1,a) :: cs))) else (pure (ForInStep.yield cs):Sem _))=
   (pure (((names.filter fun y=>y.2 == .free).map fun y=>(y.1,(env.cells.lookup y.1).getD 0)).reverse ++ acc):Sem (List (Str × Addr)))
 | [],acc,_=>by simp
 | (n,kd) :: r,acc,h=>by
  rw[List.forIn_cons]
  by_cases hk:(kd == NameKind.free)=true
  ·obtain ⟨c,hc⟩:=h (n,kd) List.mem_cons_self (by simpa using hk)
   have e1:cellOf env n=pure c:=by unfold cellOf;rw[hc]
   have ih:=Ze5 r ((n,c) :: acc) fun y hy=>h y (List.mem_cons_of_mem _ hy)
   simp only[hk,if_true,e1,pure_bind]
   refine Eq.trans ih ?_
   simp[List.filter_cons,hk,hc]
  ·have ih:=Ze5 r acc fun y hy=>h y (List.mem_cons_of_mem _ hy)
   simp only[hk,if_false,pure_bind]
   refine Eq.trans ih ?_
   simp[List.filter_cons,hk]
noncomputable def clF (scope:Scope) (env:Env):List (Str × Addr):=((scope.names.filter fun y=>y.2 == .free).map fun y=>(y.1,(env.cells.lookup y.1).getD 0)).reverse
theorem Zdu {env:Env}: ∀ {l:List (Str × NameKind)} {x:Str} {c:Addr},(l.map fun y=>(y.1,(env.cells.lookup y.1).getD 0)).lookup x=some c->c=(env.cells.lookup x).getD 0/\ ∃ y∈l,y.1=x
 | [],x,c,h=>by simp at h
 |y :: r,x,c,h=>by
  rw[List.map_cons,List.lookup_cons] at h
  cases e:x == y.1 with
  |true=>
   rw[e] at h
   have ex:x=y.1:=by simpa using e
   cases h
   exact ⟨by rw[ex],y,List.mem_cons_self,ex.symm⟩
  |false=>
   rw[e] at h
   obtain ⟨h1,z,h2,h3⟩:=Zdu h
   exact ⟨h1,z,List.mem_cons_of_mem _ h2,h3⟩
theorem Zcb {α:Type}: ∀ {l:List (Str × α)} {x:Str},(∃ y∈l,y.1=x)-> ∃ c,l.lookup x=some c
 | [],x,h=>by obtain ⟨y,h1,_⟩:=h;simp at h1
 |z :: r,x,h=>by
  rw[List.lookup_cons]
  cases e:x == z.1 with
  |true=>exact ⟨_,rfl⟩
  |false=>
   obtain ⟨y,h1,h2⟩:=h
   rcases List.mem_cons.mp h1 with q | q
   ·subst q;rw[h2] at e;simp at e
   ·exact Zcb ⟨y,q,h2⟩
theorem Zat {env:Env} (nc: ∀ n,env.scope.names.lookup n=env.kindOf n): ∀ {names:List (Str × NameKind)} {x:Str} {kd:NameKind},(names.map fun (n,k)=>if (k == NameKind.free && env.scope.kind == .function && env.kindOf n == some .cell) then (n,NameKind.cell) else (n,k)).lookup x=some kd->
  names.lookup x=some kd\/(names.lookup x=some .free/\kd= .cell)
 | [],x,kd,h=>by simp at h
 | (n,q) :: r,x,kd,h=>by
  rw[List.map_cons,List.lookup_cons] at h
  rw[List.lookup_cons]
  dsimp only at h ⊢
  by_cases c:(q == NameKind.free && env.scope.kind == .function && env.kindOf n == some .cell)=true
  ·rw[if_pos c] at h
   dsimp only at h
   cases e:x == n with
   |true=>
    rw[e] at h
    cases h
    simp only[Bool.and_eq_true,beq_iff_eq] at c
    exact .inr ⟨by rw[c.1.1],rfl⟩
   |false=>rw[e] at h;exact Zat nc h
  ·rw[if_neg c] at h
   dsimp only at h
   cases e:x == n with
   |true=>rw[e] at h;exact .inl h
   |false=>rw[e] at h;exact Zat nc h
theorem ZbD {env:Env}: ∀ {names:List (Str × NameKind)} {x:Str},names.lookup x=some .free->(∃ kd,(kd=NameKind.cell\/kd=NameKind.free)/\(names.map fun (n,k)=>if (k == NameKind.free && env.scope.kind == .function && env.kindOf n == some .cell) then (n,NameKind.cell) else (n,k)).lookup x=some kd)
 | [],x,h=>by simp at h
 | (n,q) :: r,x,h=>by
  rw[List.lookup_cons] at h
  rw[List.map_cons,List.lookup_cons]
  by_cases c:(q == NameKind.free && env.scope.kind == .function && env.kindOf n == some .cell)=true
  ·dsimp only
   rw[if_pos c]
   cases e:x == n with
   |true=>exact ⟨_,.inl rfl,rfl⟩
   |false=>rw[e] at h;exact ZbD h
  ·dsimp only
   rw[if_neg c]
   cases e:x == n with
   |true=>rw[e] at h;exact ⟨q,.inr (Option.some.inj h),rfl⟩
   |false=>rw[e] at h;exact ZbD h
noncomputable def Zrc (XN N:List Str) (dn sn:List (Str × NameKind)) (k:Nat) (fr:List Nat):Bool:=
 (sn.all fun y=>y.2 != .cell && (y.2 != .free || dn.lookup y.1 == some .cell) && (y.2 != .local || sn.lookup y.1 == some .local)) && N.length == k + fr.length &&
  (List.range fr.length).all fun j=>match fr[j]? with
   |some i=>(match N[k + j]?,XN[i]? with | some x,some y=>x == y && dn.lookup x == some .cell && sn.lookup x == some .free | _,_=>false)
   |none=>false
theorem ZoK {X:Cx} {scope:Scope} {N:List Str} {k n:Nat} {fr:List Nat} {XN:List Str} {dn:List (Str × NameKind)} (hN:X.N=XN) (hd:X.env.scope.names=dn) (hc:X.env.cells=cellsFrom n dn []) (hk:scope.kind= .function) (h:Zrc XN N dn scope.names k fr=true):Blk X scope (clF scope X.env) N k fr:=by
 unfold Zrc at h
 simp only[Bool.and_eq_true,List.all_eq_true,bne_iff_ne,ne_eq,Bool.or_eq_true,beq_iff_eq] at h
 obtain ⟨⟨h1,h2⟩,h3⟩:=h
 have kind: ∀ x,X.env.kindOf x=dn.lookup x:=fun x=>by rw[<- hd];rfl
 have cel: ∀ x,dn.lookup x=some .cell-> ∃ c,X.env.cells.lookup x=some c:=fun x e=>by
  have:=PySem.W.cellsFrom_some dn n [] (.inl e)
  rw[hc]
  exact Option.isSome_iff_exists.mp this
 have frc: ∀ y∈scope.names,y.2= .free-> ∃ c,X.env.cells.lookup y.1=some c:=fun y hy e=>by
  rcases (h1 y hy).1.2 with z | z
  ·exact absurd e z
  ·exact cel _ z
 have sub: ∀ x c,(clF scope X.env).lookup x=some c->X.env.cells.lookup x=some c:=fun x c e=>by
  unfold clF at e
  rw[<- List.map_reverse] at e
  obtain ⟨e1,y,e2,e3⟩:=Zdu e
  have e4:=List.mem_filter.mp (List.mem_reverse.mp e2)
  obtain ⟨c',g⟩:=frc y e4.1 (by simpa using e4.2)
  rw[e3] at g
  rw[g] at e1 ⊢
  rw[e1]
  rfl
 have has: ∀ x,scope.names.lookup x=some .free-> ∃ c,(clF scope X.env).lookup x=some c:=fun x e=>by
  refine Zcb ?_
  have m:=PySem.mem_of_lookup e
  exact ⟨(x,(X.env.cells.lookup x).getD 0),List.mem_reverse.mpr (List.mem_map.mpr ⟨(x,.free),List.mem_filter.mpr ⟨m,by simp⟩,rfl⟩),rfl⟩
 refine ⟨?_,hk,fun y hy=>(h1 y hy).1.1,fun y hy e=> ?_,sub,fun x z=> ?_,h2,fun j i e=> ?_⟩
 ·have:=Ze5 (env:=X.env) scope.names [] frc
  rw[List.append_nil] at this
  unfold closureFor
  exact (congrArg (fun (m:Sem (List (Str × Addr)))=>m >>= fun cs=>(pure cs:Sem (List (Str × Addr)))) this).trans (pure_bind _ _)
 ·rcases (h1 y hy).2 with z | z
  ·exact absurd e z
  ·exact z
 ·have nc: ∀ m,X.env.scope.names.lookup m=X.env.kindOf m:=fun m=>rfl
  refine has x ?_
  rcases z with z | z
  ·rcases Zat nc z with q | q
   ·exact absurd rfl (h1 _ (PySem.mem_of_lookup q)).1.1
   ·exact q.1
  ·rcases Zat nc z with q | q
   ·exact q
   ·cases q.2
 ·have hj:j < fr.length:=(List.getElem?_eq_some_iff.mp e).1
  have q:=h3 j (List.mem_range.mpr hj)
  rw[e] at q
  dsimp only at q
  cases e1:N[k + j]? with
  |none=>rw[e1] at q;cases q
  |some x=>
   cases e2:XN[i]? with
   |none=>rw[e1,e2] at q;cases q
   |some y=>
    rw[e1,e2] at q
    simp only[Bool.and_eq_true,beq_iff_eq] at q
    obtain ⟨⟨q1,q2⟩,q3⟩:=q
    subst q1
    obtain ⟨kd,r1,r2⟩:=ZbD (env:=X.env) q3
    obtain ⟨c,r3⟩:=has x q3
    refine ⟨x,rfl,by rw[hN];exact e2,by rw[kind];exact q2,?_,r3.trans (sub x c r3).symm⟩
    rcases r1 with r1 | r1
    ·exact .inl (r1 ▸ r2)
    ·exact .inr (r1 ▸ r2)
section
variable {X:Cx} {ξ:XK}
noncomputable def Zrd (X:Cx):List V->Hp->VK->Prop:=fun vs H Q=> ∃ (p:Addr) (bs:List Bool),vs=[.ref p]/\SqL X.K H p (bs.map V.bl)/\Q (.bl (bs.all id)) H
theorem Zep: ∀ {bs:List Bool} {us:List Value} {i:Nat} {u:Value},ZW (bs.map V.bl) us->us[i]?=some u-> ∃ b,bs[i]?=some b/\u= .bool b
 | [],us,i,u,h,e=>by cases h;simp at e
 |b :: r,us,i,u,h,e=>by
  cases h with
  |cons h1 h2=>
   cases i with
   |zero=>simp at e;subst e;exact ⟨b,rfl,h1⟩
   |succ i=>simp at e;obtain ⟨b',g1,g2⟩:=Zep h2 e;exact ⟨b',by simpa using g1,g2⟩
theorem Zgf (bs:List Bool):((List.range bs.length).all fun i=>(bs[i]?).getD true)=bs.all id:=by
 rw[Bool.eq_iff_iff,List.all_eq_true,List.all_eq_true]
 constructor
 ·intro h b hb
  obtain ⟨i,hi,e⟩:=List.getElem_of_mem hb
  have:=h i (List.mem_range.mpr hi)
  simp only[List.getElem?_eq_getElem hi,Option.getD_some,e] at this
  exact this
 ·intro h i hi
  have hi':=List.mem_range.mp hi
  simp only[List.getElem?_eq_getElem hi',Option.getD_some]
  exact h _ (List.getElem_mem hi')
theorem ZiL (hc:X.calm=true):Zb7 X (.builtin "all") (Zrd X):=by
 intro pins s σ H vs us Q I rs ⟨p,bs,e,hl,q⟩
 subst e
 obtain ⟨u,rfl,ru⟩:=Zdc rs
 cases ru
 obtain ⟨its,hv,hp,hz⟩:=I.list hl
 have hlt:p < s.heap.objs.size:=by obtain ⟨_,e,_⟩:=hp.isList;exact Heap.lt_size e
 refine call_all_walk (wpAny_pyIter_list hp.isList ?_)
 refine ⟨s.heap.objs.size,[s.heap.objs.size,p],[s.heap.objs.size],its.toArray.size,_,_,fun i=>(bs[i]?).getD true,rfl,Walks.list (A:=X.A.in1) (I.ok.hd hc) _ p (Nat.ne_of_lt hlt) its.toArray,
  ⟨⟨_,Heap.get?_push_size _ rfl,rfl,rfl⟩,hp.isList.push _⟩,fun i v s' Q' E' hP hQ=> ?_,fun h' tk hk=> ?_⟩
 ·obtain ⟨b,e,rfl⟩:=Zep (i:=i) (u:=v) hv (by simpa using hP)
  simp only[e,Option.getD_some] at hQ
  exact wpAny_truthy_bool hQ
 ·have e:((List.range its.toArray.size).all fun i=>(bs[i]?).getD true)=bs.all id:=by
   rw[List.size_toArray,<- hv.length,List.length_map];exact Zgf bs
  rw[e]
  exact ⟨.bl (bs.all id),H,I.kept fun b o e=>hk b o (fun hm=>by rw[List.mem_singleton.mp hm] at e;exact Nat.lt_irrefl _ (Heap.lt_size e)) (Heap.get?_push_of_some _ e),rfl,q⟩
noncomputable def ZaB:List D->Option (List Bool)
 | []=>some []
 | .bl b :: r=>match ZaB r with | some bs=>some (b :: bs) | none=>none
 |_ :: _=>none
theorem Zeq {K:PySem.W.Frag} {H:Hp} {α:List Addr}: ∀ {vs:List V} {ds:List D} {bs:List Bool},Reps K H α vs ds->ZaB ds=some bs->vs=bs.map V.bl
 |_,_,_,.nil,e=>by cases e;rfl
 |_,_,bs,.cons (d:=d) (ds:=ds) r t,e=>by
  cases r with
  |bl b=>
   cases e1:ZaB ds with
   |none=>simp only[ZaB,e1] at e;cases e
   |some cs=>
    simp only[ZaB,e1,Option.some.injEq] at e
    subst e
    rw[Zeq t e1]
    rfl
  |_=>cases e
noncomputable def bAll:List D->Sto->Out D:=fun ds M=>match ds with
 | [.ref n]=>(match M[n]? with | some (.lst xs)=>(match ZaB xs with | some bs=> .ok (.bl (bs.all id)) M | none=> .bad) | none=> .bad)
 |_=> .bad
theorem Zmz:CO X ξ (Zrd X) bAll:=by
 intro H α M vs ds Q h rs q
 match rs with
 | .nil=>exact q.elim
 | .cons r (.cons _ _)=>cases r<;>exact q.elim
 | .cons r .nil=>
  cases r with
  | @ref p n hp=>
   cases e1:M[n]? with
   |none=>simp only[bAll,e1] at q;exact q.elim
   |some so=>
    cases so with
    |lst es=>
     cases e2:ZaB es with
     |none=>simp only[bAll,e1,e2] at q;exact q.elim
     |some bs=>
      simp only[bAll,e1,e2] at q
      obtain ⟨xs,g1,g2⟩:=h.at hp e1
      have:=Zeq g2 e2
      subst this
      exact ⟨p,bs,rfl,SqL.of g1,q _ H α Ext.refl h (.bl _)⟩
  |_=>exact q.elim
end
section
variable {prog:Program} {w:World} {A:Around} {E:Value->Shared->Prop} {s:Shared}
theorem ZcC {sl:Addr} {t:Tok} {n:Nat} {Q:Int × Int × Nat->Shared->Prop} (hs:s.heap.IsSliceOf sl .none .none (.int (-1) t)) (h:Q ((n:Int) - 1,-1,n) s):wpAny (model prog w) A (Builtin.Slice.sliceApplied (.ref sl) (pure (n:Int))) Q E s:=by
 obtain ⟨os,hos,hcs,hds⟩:=id hs
 unfold Builtin.Slice.sliceApplied Builtin.Slice.sliceFields
 refine wpAny_bind (wpAny_bind (wpAny_field hos hds (x:= .none) rfl (wpAny_bind (wpAny_field hos hds (x:= .none) rfl (wpAny_bind (wpAny_field hos hds (x:= .int (-1) t) rfl (wpAny_pure ?_)))))))
 refine wpAny_bind (HT.Zba (.int (-1) t) ?_)
 show wpAny _ _ (if ((-1:Int) == 0)=true then _ else _) _ _ s
 rw[if_neg (by decide)]
 refine wpAny_bind (HT.Zba .none (wpAny_bind (HT.Zba .none (wpAny_bind (wpAny_pure ?_)))))
 have e1:Builtin.Slice.sliceAdjust none none (-1) (n:Int)=((n:Int) - 1,-1):=rfl
 have e2:Builtin.Slice.slicePlaces ((n:Int) - 1) (-1) (-1)=n:=by
  unfold Builtin.Slice.slicePlaces
  rw[if_neg (by decide)]
  by_cases c:0 < n
  ·rw[if_pos (by omega)]
   have:((n:Int) - 1 - -1 - 1) / (- -1) + 1=n:=by
    rw[show (- -1:Int)=1 from rfl,Int.ediv_one];omega
   rw[this]
   omega
  ·rw[if_neg (by omega)]
   omega
 show wpAny _ _ (match Builtin.Slice.sliceAdjust none none (-1) (n:Int) with | (lo,hi)=>pure (lo,(-1:Int),Builtin.Slice.slicePlaces lo hi (-1))) _ _ s
 rw[e1]
 show wpAny _ _ (pure ((n:Int) - 1,(-1:Int),Builtin.Slice.slicePlaces ((n:Int) - 1) (-1) (-1))) _ _ s
 rw[e2]
 exact wpAny_pure h
theorem ZcI {α β:Type} {f g:α->Option β}: ∀ {l:List α},(∀ m∈l,f m=g m)->l.filterMap f=l.filterMap g
 | [],_=>rfl
 |x :: r,h=>by
  rw[List.filterMap_cons,List.filterMap_cons,h x List.mem_cons_self,ZcI fun m hm=>h m (List.mem_cons_of_mem _ hm)]
theorem ZdK (xs:Array Value):((List.range xs.size).filterMap fun (m:Nat)=>xs[((xs.size:Int) - 1 + (m:Int) * (-1)).toNat]?).toArray=xs.toList.reverse.toArray:=by
 congr 1
 apply List.ext_getElem?
 intro i
 have all:(List.range xs.size).filterMap (fun (m:Nat)=>xs[((xs.size:Int) - 1 + (m:Int) * (-1)).toNat]?)=(List.range xs.size).map fun m=>xs[xs.size - 1 - m]?.getD .none:=by
  rw[<- List.filterMap_eq_map]
  refine ZcI fun m hm=> ?_
  have hm':=List.mem_range.mp hm
  have e:((xs.size:Int) - 1 + (m:Int) * (-1)).toNat=xs.size - 1 - m:=by omega
  rw[e]
  have hlt:xs.size - 1 - m < xs.size:=by omega
  simp[hlt]
 rw[all]
 by_cases hi:i < xs.size
 ·have hlt:xs.size - 1 - i < xs.size:=by omega
  rw[List.getElem?_map,List.getElem?_range hi,List.getElem?_reverse (by simpa using hi)]
  simp[hlt]
 ·rw[List.getElem?_eq_none (by simpa using hi),List.getElem?_eq_none (by simpa using hi)]
theorem Zcr {t sl:Addr} {items:Array Value} {u:Tok} {Q:Value->Shared->Prop} (ht:IsTup s.heap t items) (hs:s.heap.IsSliceOf sl .none .none (.int (-1) u))
  (h:Q (.ref s.heap.objs.size) { s with heap:=s.heap.push { cls:= .type "tuple",data:= .seq items.toList.reverse.toArray } }) (hsz:items.size<=sizeLine):wpAny (model prog w) A (getItem (.ref t) (.ref sl)) Q E s:=by
 have htake:sizeOk (.seq items.toList.reverse.toArray):=by
  show items.toList.reverse.toArray.size<=sizeLine
  rw[List.size_toArray,List.length_reverse,Array.length_toList]
  exact hsz
 obtain ⟨os,hos,hcs,hds⟩:=id hs
 have hTs:s.TypeIs (.ref sl) "slice":=⟨os,hos,hcs⟩
 unfold getItem
 try with_reducible refine wpAny_holding ?_
 first | refine wpAny_bind (wpAny_pure ?_) | skip
 refine wpAny_bind (wpAny_sequenceKey ht.typeIs (by decide) ?_)
 refine wpAny_bind (wpAny_callSpecial?_slot (name:=Str.ofString "__getitem__") ht.typeIs PyProof.Rows.slot_tuple_getitem
  (wpAny_call_entry PyProof.Rows.slot_tuple_getitem ht.typeIs entry_tuple_getitem ?_ (args_tuple_getitem _ _)))
 show wpAny _ _ (Builtin.Tuple.tupleItemsOf (.ref t) >>= _) _ _ s
 refine wpAny_bind (tupleItemsOf_ ht ?_)
 refine wpAny_bind (wpAny_typeOf hTs ?_)
 rw[if_pos (by decide)]
 refine wpAny_bind (ZcC hs ?_)
 have hno: ¬ ((((items.size:Int) - 1) == 0 && (-1:Int) == 1 && items.size == items.size)=true):=by
  intro q
  rw[Bool.and_eq_true,Bool.and_eq_true] at q
  exact absurd q.1.2 (by decide)
 show wpAny _ _ (if (((items.size:Int) - 1) == 0 && (-1:Int) == 1 && items.size == items.size)=true then _ else _) _ _ s
 rw[if_neg hno,ZdK]
 first
  |exact wpAny_bind (m:=Builtin.Tuple.tupleExact _) (wpAny_newObj_type (wpAny_pure ⟨_,rfl,wpAny_pure h⟩) htake)
  |exact wpAny_bind (m:=Builtin.Tuple.tupleExact _) (wpAny_newObj_type (wpAny_bind (wpAny_pure (wpAny_pure ⟨_,rfl,wpAny_pure h⟩))) htake)
  |exact wpAny_bind (wpAny_bind (m:=Builtin.Tuple.tupleExact _) (wpAny_newObj_type (wpAny_pure (wpAny_pure ⟨_,rfl,wpAny_pure h⟩)) htake))
  |exact wpAny_bind (wpAny_bind (m:=Builtin.Tuple.tupleExact _) (wpAny_newObj_type (wpAny_pure ⟨_,rfl,wpAny_pure h⟩) htake))
end
section
variable {X:Cx} {ξ:XK} {e:Expr} {f:Ev} {p2 p3 p4 pos:Pos} {j:Nat}
theorem Reps.rev {K:PySem.W.Frag} {H:Hp} {α:List Addr}: ∀ {vs:List V} {ds:List D},Reps K H α vs ds->Reps K H α vs.reverse ds.reverse
 |_,_,.nil=> .nil
 |_,_,.cons r t=>by
  rw[List.reverse_cons,List.reverse_cons]
  exact (Reps.rev t).append (.cons r .nil)
end
end DL
end
section
namespace DL
open PySem PySem.Spec PyProof.Rows L2
section
variable {X:Cx} {ξ:XK}
end
end DL
end
section
namespace DL
open PySem PySem.Spec PyProof.Rows L2
section
variable {M:Model} {A:Around} {E:Value->Shared->Prop} {s:Shared}
end
section
variable {X:Cx} {ξ:XK} {tg iter elt:Expr} {ifs:List Expr} {scope:Scope} {cl:List (Str × Addr)} {N:List Str} {k:Nat} {fr:List Nat} {fi:Ro->Sto->Out Src} {gt:Tg} {c:Tv} {f:Ev} {pos:Pos}
end
section
variable {X:Cx} {scope0:Scope} {cl0:List (Str × Addr)} {N0:List Str} {k0:Nat} {fr0:List Nat} {C:Addr} {fp:List Addr} {s:Shared} {H:Hp} {scope:Scope} {N:List Str} {k:Nat} {fr:List Nat} {dn:List (Str × NameKind)}
end
end DL
end
section
namespace DL
open PySem PySem.Spec PyProof.Rows L2
open PySem.W (nsIn excIn tailIn nsOkIn mroIn clsIn typeIn findIn specialIn takesIn kitOne Looks)
noncomputable abbrev bmV:List Value:=[.type "ValueError",.type "Exception",.type "BaseException",.type "object"]
noncomputable def Zku (K:PySem.W.Frag) (c:Str):Option Addr:=match nsIn K mainGlobals c with | some (some (.ref C))=>some C | _=>none
theorem ZiM {K:PySem.W.Frag} {c:Str} {C:Addr} (h:Zku K c=some C):nsIn K mainGlobals c=some (some (.ref C)):=by
 unfold Zku at h
 split at h
 ·rename_i C' e;cases h;exact e
 ·cases h
noncomputable def Zkv (K:PySem.W.Frag) (c:Str):Bool:=match Zku K c with
 |some C=>excIn K C bmV "ValueError.__new__" && findIn K (.ref C) "__getattribute__" == some (some (.builtin "BaseException.__getattribute__")) && findIn K (.ref C) "__getattr__" == some none && findIn K (.ref C) "__class__" == some (some (.builtin "object.__class__")) &&
  specialIn K (.builtin "object.__class__") "__get__" == some (some (.builtin "getset_descriptor.__get__")) && takesIn K (.builtin "object.__class__") == some true && mroIn K C (.type "BaseException") == some true && mroIn K C (.type "object") == some true && (clsIn K C).isSome
 |none=>false
theorem Zkw {K:PySem.W.Frag} {c:Str} (h:Zkv K c=true): ∃ C,nsIn K mainGlobals c=some (some (.ref C))/\excIn K C bmV "ValueError.__new__"=true/\DQ.ExcC K C:=by
 unfold Zkv at h
 split at h
 ·rename_i C e
  simp only[Bool.and_eq_true,beq_iff_eq] at h
  obtain ⟨⟨⟨⟨⟨⟨⟨⟨h1,h2⟩,h3⟩,h4⟩,h5⟩,h6⟩,h7⟩,h8⟩,h9⟩:=h
  exact ⟨C,ZiM e,h1,h2,h3,h4,h5,h6,h7,h8,h9⟩
 ·cases h
theorem Zkx {K:PySem.W.Frag} {h:Heap} {C:Addr} {bmB:List Value} {newId:String} (X:K.In h) (q:excIn K C bmB newId=true):
  ∃ bm N nm q bs hdct sn sub ab col dd k0 k1 k2 k3 k5 mN,h.get? C=some (excClassObj nm q C N bs bm hdct sn sub ab col dd k0 k1 k2 k3 k5 newId)/\h.Ns N mN/\mN "__init__"=none/\OwnTail h bmB bm:=by
 unfold excIn at q
 split at q
 ·rename_i dd cd sl ho
  split at q
  ·rename_i C' bm k0 k1 k2 k3 n k5 hm hs
   simp only[Bool.and_eq_true,beq_iff_eq,Bool.not_eq_true'] at q
   obtain ⟨⟨⟨⟨⟨rfl,rfl⟩,hdel⟩,ht⟩,hok⟩,hni⟩:=q
   obtain ⟨nm,bs,mro,ns,qn,hd,sn,sub,ab,col,del⟩:=cd
   dsimp only at hm hdel hok hni
   subst hm hdel
   obtain ⟨l⟩:=sl
   simp only at hs
   subst hs
   exact ⟨bm,ns,nm,qn,bs,hd,sn,sub,ab,col,dd,k0,k1,k2,k3,k5,_,X _ _ ho,.of_isNs (PySem.W.isNs_of_in X hok),PySem.W.nsMap_none_of_in X hok hni,PySem.W.tail_of_in X ht⟩
  ·cases q
 ·cases q
noncomputable def Zre (tab:List (Str × Bool)) (f:Ev):Ev:=fun ρ M=>(f ρ M).bind fun x M1=>match x with | .err c _=>(match tab.lookup c with | some b=> .ok (.bl b) M1 | none=> .bad) | _=> .bad
section
variable {X:Cx} {ξ:XK} {e:Expr} {fa:Ev} {p pos:Pos} {tab:List (Str × Bool)}
noncomputable def Zcc (c:Str) (fs:Av):Sv:=fun ρ M=>ZaR (fs ρ M) fun ds M1=>if ds.length<=1000 then .exc c M1 else .bad
theorem ZfM {x:Str} {np cpos:Pos} {a:Expr} {as:List Expr} {fs:Av} (T:Thr X ξ) (hx:Zkv X.K x=true) (gl: ∀ c v,nsIn X.K mainGlobals c=some (some v)->X.mg c=some v) (hh:X.A.handled=none) (ha:DA X ξ (a :: as) fs) (hg:Gl X x:=by rfl) (hdb:(x == ("__debug__":Str))=false:=by decide)
  (he:starEach (a :: as) X.env=(false,eval a X.env) :: starEach as X.env:=by rfl) (hpl:(backTo cpos (starEach as X.env)).any (·.1)=false:=by rfl):DS X ξ (.Raise (some (.Call (.Name x np) (a :: as) [] cpos)) none pos) (Zcc x fs):=by
 obtain ⟨ta,pa,qa⟩:=ha
 obtain ⟨C,hC,hq,_⟩:=Zkw hx
 refine ⟨fun Dn σ H=>ta σ H fun vs H1=>vs.length<=sizeLine/\ξ (.ref C) none H1,fun pins s σ H Dn I h=> ?_,fun σ ρ H α M Dn s h q=> ?_⟩
 ·obtain ⟨tl,N,nm,q,bs,hdct,sn,sub,ab,col,dd,k0,k1,k2,k3,k5,mN,gC,hN,hni,TL⟩:=Zkx I.ok.mod.kin hq
  refine wpAny_Raise_call_subT (C:=C) (nm:=nm) (q:=q) (N:=N) (bs:=bs) (bm:=tl) (hdct:=hdct) (sn:=sn) (sub:=sub) (ab:=ab) (col:=col) (dd:=dd) (k0:=k0) (k1:=k1) (k2:=k2) (k3:=k3) (k5:=k5) F.excBase_ValueError (mN:=mN)
   (TL.hasType F.excBase_ValueError.hasBase) hh (by rw[he];show (false || (backTo cpos (starEach as X.env)).any (·.1))=false;rw[hpl];rfl) hni (ZgF I hg (gl x _ hC) ⟨rfl,?_⟩ hdb)
  have hs:=pa cpos pins s σ H _ I h
  rw[he] at hs ⊢
  refine Calls.evalArgs_plain (wpAny_mono hs (fun us s2 ⟨vs,H1,I1,r1,z1,z2⟩=>⟨rfl,by rw[<- r1.length];exact z1,I1.bk _ _ gC,hN.keeps I1.bk,TL.keeps I1.bk,fun h' e m=> ?_⟩) fun _ _ y=>y)
  obtain ⟨t,g1,g2,g3⟩:=m.there
  exact T.mak pins σ H1 s2 h' e _ _ C I1 m.keeps m.new g1 rfl rfl rfl rfl rfl z2
 ·refine qa σ ρ H α M _ s h (FP.seq q fun ds M1 vs H1 α1 e1 h1 r1 w1=> ?_)
  by_cases hl:ds.length<=1000
  ·rw[if_pos hl] at w1
   exact ⟨by rw[r1.length];exact Zko hl,w1 C H1 α1 hC Ext.refl h1⟩
  ·rw[if_neg hl] at w1
   exact w1.elim
end
end DL
end
section
namespace DL
open PySem PySem.Spec PyProof.Rows L2
open PySem.W (nsIn excIn tailIn nsOkIn mroIn clsIn typeIn findIn specialIn takesIn kitOne Looks looks_mroIn looks_typeIn)
section
variable {X:Cx} {pins pins' pn:List (Addr × Obj)} {σ:L2.St} {H H':Hp} {s:Shared} {xe:Value->Shared->Prop} {e:Addr}
end
noncomputable def Zrf (gb:Sv) (cs:List Str) (i:Nat) (gh:Sv):Sv:=fun ρ M=>match gb ρ M with
 | .exc c M1=>if cs.contains c=true then (match gh ((List.replicate ρ.length none).set i (some (.err c []))) M1 with
  | .ret d M2=> .ret d M2
  | .nx _ M2=> .nx (List.replicate ρ.length none) M2
  |_=> .bad) else .bad
 |o=>o
section
variable {X:Cx} {ξ:XK} {d n:Str} {cs:List Str} {i:Nat} {body suite:List Stmt} {b0:Stmt} {gb gh:Sv} {pos hpos np:Pos}
end
theorem ZD {k:Nat} {A:Around} {env:Env} (hr:Room k (A.deeper env)) (h:100<=k):A.handled.isNone=true:=by
 have e:A.handled=none:=hr.hd h
 rw[e]
 rfl
end DL
end
section
namespace DL
open PySem PySem.Spec PyProof.Rows L2
noncomputable abbrev Me:=D->List D->Sto->Out D
noncomputable def MO (X:Cx) (ξ:XK) (r:V->List V->Hp->VK->Prop) (g:Me):Prop:= ∀ H α M v vs x ds Q,HR X.K H α M->Rep X.K H α v x->Reps X.K H α vs ds->OP X.K H α ξ Q (g x ds M)->r v vs H Q
theorem HR.wrE {K:PySem.W.Frag} {H:Hp} {α:List Addr} {M:Sto} {n:Nat} {p:Addr} {xs ys:List V} {ds:List D} (h:HR K H α M) (e:RefK H α 0 n p) (hp:H p=some (.lst ys)) (r:Reps K H α xs ds):Ext K H (upd H p (.lst xs)) α α/\HR K (upd H p (.lst xs)) α (M.set n (.lst ds)):=
 ⟨Ext.wr hp,h.wr e hp r⟩
section
variable {X:Cx} {ξ:XK} {o e:Expr} {es:List Expr} {fo fa:Ev} {fs:Av} {name:Str} {apos cpos pos:Pos} {T id:String} {r:V->List V->Hp->VK->Prop} {g:Me}
noncomputable def Zky (x:D) (M:Sto):Bool:=match x with | .ref n=>M[n]?.isSome | _=>false
noncomputable def Zer (g:Me) (fo:Ev) (fs:Av):Ev:=fun ρ M=>(fo ρ M).bind fun x M1=>if Zky x M1=true then (fs ρ M1).bind fun ds M2=>g x ds M2 else .bad
theorem Zkz {K:PySem.W.Frag} {H:Hp} {α:List Addr} {M:Sto} {v:V} {x:D} (h:HR K H α M) (rx:Rep K H α v x) (k:Zky x M=true):tyV K "list" v H:=by
 cases rx with
 | @ref p n hp=>
  obtain ⟨xs,g⟩:=h.some_at hp
  exact .inl ⟨rfl,_,SqL.of g⟩
 |_=>cases k
theorem ZkA (slot:Slot "list" name id) (hty:typeOf (.builtin id)=pure (.type "method_descriptor")) (hm:MtR X id r) (hf:MO X ξ r g) (ho:DE X ξ o fo) (ha:DA X ξ (e :: es) fs)
  (hbase:attributeBase o name X.env (eval o X.env)=eval o X.env:=by rfl)
  (hfew:((backTo cpos (starEach (e :: es) X.env)).all (fun x=> !x.1) && (backToKw cpos (keywordEach [] X.env)).all (fun x=>x.1.isSome)
   && decide ((e :: es).length + ([]:List Keyword).length + (if ([]:List Keyword).isEmpty then 0 else 1) < 30))=true:=by rfl)
  (hline:(apos.endLine == cpos.line)=true:=by rfl) (hs:starEach (e :: es) X.env=(false,eval e X.env) :: starEach es X.env:=by rfl) (hplain:(backTo cpos (starEach es X.env)).any (·.1)=false:=by rfl):
  DE X ξ (.Call (.Attribute o name apos) (e :: es) [] cpos) (Zer g fo fs):=by
 obtain ⟨to,po,qo⟩:=ho
 obtain ⟨ta,pa,qa⟩:=ha
 refine ⟨_,Zo7 PySem.F.plainAttrs_list slot hty hm po pa hbase hfew hline hs hplain,fun σ ρ H α M Q s h q=> ?_⟩
 refine qo σ ρ H α M _ s h (OG.seq q fun x M1 v H1 α1 e1 h1 r1 q1=> ?_)
 by_cases k:Zky x M1=true
 ·rw[if_pos k] at q1
  exact ⟨Zkz h1 r1 k,qa σ ρ H1 α1 M1 _ (s.mono e1) h1 (OG.seq q1 fun ds M2 vs H2 α2 e2 h2 r2 q2=>hf H2 α2 M2 v vs x ds Q h2 (Rep.mono e2 r1) r2 q2)⟩
 ·rw[if_neg k] at q1
  exact q1.elim
noncomputable def mApp:Me:=fun x ds M=>match x,ds with
 | .ref n,[d]=>(match M[n]? with | some (.lst xs)=>if xs.length < 10000000 then .ok .non (M.set n (.lst (xs ++ [d]))) else .bad | none=> .bad)
 |_,_=> .bad
theorem ZmA:MO X ξ rAppend mApp:=by
 intro H α M v vs x ds Q h rx rs q
 cases rx with
 | @ref p n hp=>
  match rs with
  | .nil=>exact q.elim
  | .cons _ (.cons _ _)=>exact q.elim
  | .cons (v:=u) (d:=d) ru .nil=>
   cases em:M[n]? with
   |none=>simp only[mApp,em] at q;exact q.elim
   |some so=>
    cases so with
    |lst es=>
     obtain ⟨xs,g1,g2⟩:=h.at hp em
     by_cases c:es.length < 10000000
     ·simp only[mApp,em,if_pos c] at q
      obtain ⟨k1,k2⟩:=h.wrE hp g1 (g2.append (.cons ru .nil))
      exact ⟨p,xs,u,rfl,rfl,g1,by rw[g2.length];exact Nat.lt_of_lt_of_le c (by decide),q _ _ α k1 k2 .non⟩
     ·simp only[mApp,em,if_neg c] at q
      exact q.elim
 |_=>cases rs<;>exact q.elim
noncomputable def Zrg:Me:=fun x ds M=>match x,ds with
 | .ref n,[]=>(match M[n]? with | some (.lst _)=> .ok .non (M.set n (.lst [])) | none=> .bad)
 |_,_=> .bad
noncomputable def mExt:Me:=fun x ds M=>match x,ds with
 | .ref n,[.ref m]=>(match M[n]?,M[m]? with | some (.lst xs),some (.lst ys)=>if xs.length + ys.length<=10000000 then .ok .non (M.set n (.lst (xs ++ ys))) else .bad | _,_=> .bad)
 |_,_=> .bad
theorem ZmB:MO X ξ rExtend mExt:=by
 intro H α M v vs x ds Q h rx rs q
 cases rx with
 | @ref p n hp=>
  match rs with
  | .nil=>exact q.elim
  | .cons ru (.cons _ _)=>cases ru<;>exact q.elim
  | .cons ru .nil=>
   cases ru with
   | @ref p2 m hp2=>
    cases em:M[n]? with
    |none=>simp only[mExt,em] at q;exact q.elim
    |some so=>
     cases em2:M[m]? with
     |none=>cases so;simp only[mExt,em,em2] at q;exact q.elim
     |some so2=>
      cases so with
      |lst es=>
       cases so2 with
       |lst es2=>
        obtain ⟨xs,g1,g2⟩:=h.at hp em
        obtain ⟨ys,g3,g4⟩:=h.at hp2 em2
        by_cases c:es.length + es2.length<=10000000
        ·simp only[mExt,em,em2,if_pos c] at q
         obtain ⟨k1,k2⟩:=h.wrE hp g1 (g2.append g4)
         exact ⟨p,p2,xs,ys,rfl,rfl,g1,g3,by rw[g2.length,g4.length];exact Nat.le_trans c (by decide),q _ _ α k1 k2 .non⟩
        ·simp only[mExt,em,em2,if_neg c] at q
         exact q.elim
   |_=>exact q.elim
 |_=>cases rs with
  |nil=>exact q.elim
  |cons ru rt=>cases ru<;>cases rt<;>exact q.elim
theorem ZbE (ho:DE X ξ o fo) (ha:DE X ξ e fa) (hbase:attributeBase o "append" X.env (eval o X.env)=eval o X.env:=by rfl)
  (hfew:((backTo cpos (starEach [e] X.env)).all (fun x=> !x.1) && (backToKw cpos (keywordEach [] X.env)).all (fun x=>x.1.isSome)
   && decide ([e].length + ([]:List Keyword).length + (if ([]:List Keyword).isEmpty then 0 else 1) < 30))=true:=by rfl)
  (hline:(apos.endLine == cpos.line)=true:=by rfl) (hs:starEach [e] X.env=(false,eval e X.env) :: starEach [] X.env:=by rfl) (hplain:(backTo cpos (starEach [] X.env)).any (·.1)=false:=by rfl):
  DE X ξ (.Call (.Attribute o "append" apos) [e] [] cpos) (Zer mApp fo (Zb fa aNil)):=ZkA PySem.F.slot_list_append PySem.F.type_list_append ZcM ZmA ho (Za ha Ze hs) hbase hfew hline hs hplain
noncomputable def DO (X:Cx) (ξ:XK) (e:Option Expr) (f:Ro->Sto->Out (Option Int)):Prop:= ∃ t:TO,PO X e t/\ ∀ σ ρ H α M (Q:Option Int->Hp->Prop),SR X.K H α σ ρ->HR X.K H α M->OG X.K (fun _ _ v d=>v=d) H α ξ Q (f ρ M)->t σ H Q
noncomputable def oNo:Ro->Sto->Out (Option Int):=fun _ M=> .ok none M
noncomputable def oSo (f:Ev):Ro->Sto->Out (Option Int):=fun ρ M=>(f ρ M).bind fun x M1=>match x with | .int i=> .ok (some i) M1 | _=> .bad
theorem Zb0:DO X ξ none oNo:=⟨_,Zkb,fun σ ρ H α M Q s h q=>q none H α Ext.refl h rfl⟩
theorem Zb1 (ha:DE X ξ e fa):DO X ξ (some e) (oSo fa):=by
 obtain ⟨ta,pa,qa⟩:=ha
 refine ⟨_,Zkc pa,fun σ ρ H α M Q s h q=> ?_⟩
 refine qa σ ρ H α M _ s h (OG.seq q fun x M1 v H1 α1 e1 h1 r1 q1=> ?_)
 cases r1 with
 |int i=>exact ⟨i,rfl,q1 (some i) H1 α1 Ext.refl h1 rfl⟩
 |_=>exact q1.elim
noncomputable def Zd7 (xs:List D) (lo hi:Option Int):List D:=(xs.drop (HT.sIx xs.length 0 lo)).take (HT.sIx xs.length xs.length hi - HT.sIx xs.length 0 lo)
theorem Reps.drop {K:PySem.W.Frag} {H:Hp} {α:List Addr}: ∀ (n:Nat) {vs:List V} {ds:List D},Reps K H α vs ds->Reps K H α (vs.drop n) (ds.drop n)
 |0,_,_,h=>h
 |_ + 1,_,_,.nil=> .nil
 |n + 1,_,_,.cons _ t=>Reps.drop n t
theorem Reps.take {K:PySem.W.Frag} {H:Hp} {α:List Addr}: ∀ (n:Nat) {vs:List V} {ds:List D},Reps K H α vs ds->Reps K H α (vs.take n) (ds.take n)
 |0,_,_,_=> .nil
 |_ + 1,_,_,.nil=> .nil
 |n + 1,_,_,.cons r t=> .cons r (Reps.take n t)
theorem Reps.cut {K:PySem.W.Frag} {H:Hp} {α:List Addr} {vs:List V} {ds:List D} (r:Reps K H α vs ds) (lo hi:Option Int):Reps K H α (Zjl vs lo hi) (Zd7 ds lo hi):=by
 unfold Zjl Zd7
 rw[r.length]
 exact (r.drop _).take _
noncomputable def eSl (f:Ev) (lo hi:Ro->Sto->Out (Option Int)):Ev:=fun ρ M=>(f ρ M).bind fun x M1=>(lo ρ M1).bind fun l M2=>(hi ρ M2).bind fun u M3=>match x with
 | .ref n=>(match M3[n]? with | some (.lst xs)=> .ok (.ref M3.length) (M3 ++ [.lst (Zd7 xs l u)]) | none=> .bad)
 | .rol xs=> .ok (.ref M3.length) (M3 ++ [.lst (Zd7 xs l u)])
 | .tup xs=>if HT.sIx xs.length 0 l=0/\HT.sIx xs.length xs.length u=xs.length then .bad else .ok (.tup (Zd7 xs l u)) M3
 |_=> .bad
theorem Zb2 {lo hi:Option Expr} {fl fh:Ro->Sto->Out (Option Int)} {p2:Pos} (he:DE X ξ e fa) (hl:DO X ξ lo fl) (hh:DO X ξ hi fh):DE X ξ (.Subscript e (.Slice lo hi none p2) pos) (eSl fa fl fh):=by
 obtain ⟨ta,pa,qa⟩:=he
 obtain ⟨tl,pl,ql⟩:=hl
 obtain ⟨th,ph,qh⟩:=hh
 refine ⟨_,Zis (SlR.or Zkh Zl6) pa pl ph,fun σ ρ H α M Q s h q=> ?_⟩
 refine qa σ ρ H α M _ s h (OG.seq q fun x M1 v H1 α1 e1 h1 r1 q1=> ?_)
 refine ql σ ρ H1 α1 M1 _ (s.mono e1) h1 (OG.seq q1 fun l M2 l' H2 α2 e2 h2 r2 q2=> ?_)
 refine qh σ ρ H2 α2 M2 _ ((s.mono e1).mono e2) h2 (OG.seq q2 fun u M3 u' H3 α3 e3 h3 r3 q3=> ?_)
 cases r2
 cases r3
 cases Rep.mono e3 (Rep.mono e2 r1) with
 | @ref p n hp=>
  cases em:M3[n]? with
  |none=>simp only[em] at q3;exact q3.elim
  |some so=>
   cases so with
   |lst es=>
    simp only[em] at q3
    obtain ⟨xs,g1,g2⟩:=h3.at hp em
    exact .inl ⟨p,xs,rfl,SqL.of g1,fun a ha=>q3 _ _ (α3 ++ [a]) (Ext.new ha) (h3.new ha (g2.cut l u)) (.ref ⟨h3.last a,Kn.lst Zr⟩)⟩
 | @rol p xs ds hp rp=>
  have q4:OP X.K H3 α3 ξ Q (.ok (.ref M3.length) (M3 ++ [.lst (Zd7 ds l u)])):=q3
  exact .inl ⟨p,xs,rfl,hp.sq,fun a ha=>q4 _ _ (α3 ++ [a]) (Ext.new ha) (h3.new ha (rp.cut l u)) (.ref ⟨h3.last a,Kn.lst Zr⟩)⟩
 | @tup p xs ds hp rp=>
  by_cases c:HT.sIx ds.length 0 l=0/\HT.sIx ds.length ds.length u=ds.length
  ·simp only[if_pos c] at q3
   exact q3.elim
  ·simp only[if_neg c] at q3
   exact .inr ⟨p,xs,rfl,(SqT.of hp),by rw[rp.length];exact c,fun a ha=>q3 _ _ α3 (Ext.new0 ha) (h3.tup ha) (.tup Zr (Reps.mono (Ext.new0 ha) (rp.cut l u)))⟩
 |_=>exact q3.elim
noncomputable def iR2 (fs:Av):Ro->Sto->Out Src:=fun ρ M=>(fs ρ M).bind fun ds M1=>match ds with
 | [.int i,.int j]=>if -(2 ^ 62)<=i/\i < 2 ^ 62/\ -(2 ^ 62)<=j/\j < 2 ^ 62 then .ok (.pur (Zby i (j - i).toNat)) M1 else .bad
 |_=> .bad
end
theorem ZiN (its:List Value):slicePick its.toArray none none (some (-1))=its.reverse.toArray:=by
 have h:=ZdK its.toArray
 have e:slicePick its.toArray none none (some (-1))=((List.range its.toArray.size).filterMap fun (m:Nat)=>its.toArray[((its.toArray.size:Int) - 1 + (m:Int) * (-1)).toNat]?).toArray:=by
  unfold slicePick sliceBounds sliceRange
  simp only[Option.getD_some]
  congr 1
  rw[List.filterMap_map]
  have hc:(if (-1:Int) > 0 then (if (if (-1:Int) > 0 then (0:Int) else (its.toArray.size:Int) - 1) < (if (-1:Int) > 0 then (its.toArray.size:Int) else -1) then ((if (-1:Int) > 0 then (its.toArray.size:Int) else -1) - (if (-1:Int) > 0 then (0:Int) else (its.toArray.size:Int) - 1) + -1 - 1) / -1 else 0) else (if (if (-1:Int) > 0 then (0:Int) else (its.toArray.size:Int) - 1) > (if (-1:Int) > 0 then (its.toArray.size:Int) else -1) then ((if (-1:Int) > 0 then (0:Int) else (its.toArray.size:Int) - 1) - (if (-1:Int) > 0 then (its.toArray.size:Int) else -1) - -1 - 1) / (- -1) else 0)).toNat=its.toArray.size:=by
   simp
   split<;>omega
  rw[hc]
  refine ZcI fun m hm=> ?_
  simp only[Function.comp]
  have e2:((if (-1:Int) > 0 then (0:Int) else (its.toArray.size:Int) - 1) + -1 * (m:Int))=(its.toArray.size:Int) - 1 + (m:Int) * (-1):=by
   rw[if_neg (by decide)]
   omega
  rw[e2]
 rw[e,h]
noncomputable def eRv (f:Ev):Ev:=fun ρ M=>(f ρ M).bind fun x M1=>match x with
 | .tup xs=> .ok (.tup xs.reverse) M1
 | .ref n=>(match M1[n]? with | some (.lst xs)=> .ok (.ref M1.length) (M1 ++ [.lst xs.reverse]) | none=> .bad)
 | .rol xs=> .ok (.ref M1.length) (M1 ++ [.lst xs.reverse])
 |_=> .bad
noncomputable def tRv (K:PySem.W.Frag) (te:TE):TE:=fun σ H Q=>te σ H fun x H1=>(∃ a xs,x= .ref a/\SqT K H1 a xs/\ ∀ p,H1 p=none->Q (.ref p) (upd H1 p (.tup xs.reverse)))\/ ∃ a xs,x= .ref a/\SqL K H1 a xs/\ ∀ p,H1 p=none->Q (.ref p) (upd H1 p (.lst xs.reverse))
theorem Zpf {X:Cx} {e:Expr} {p2 p3 p4 pos:Pos} {j:Nat} {te:TE} (he:PE X e te):PE X (.Subscript e (.Slice none none (some (.UnaryOp .USub (.Constant (.int 1) j p3) p4)) p2) pos) (tRv X.K te):=by
 intro pins s σ H Q I h
 refine Subscript_ (thn (he pins s σ H _ I h) fun v s1 ⟨x,H1,I1,r1,q1⟩=> ?_)
 refine wpAny_Slice ?_
 rw[evalPart_none]
 refine wpAny_pure (wpAny_pure ?_)
 rw[evalPart_some]
 refine thn (Zj5 ZgK Zfz pins s1 σ H1 (fun v H'=>v= .int (-1)/\H'=H1) I1 ⟨1,rfl,rfl,rfl⟩) fun u s2 ⟨y,H2,I2,r2,ey,eH⟩=> ?_
 subst ey eH
 obtain ⟨t,rfl⟩:=r2
 have I4:Inv X pins σ H2 { s2 with heap:=s2.heap.push { cls:= .type "slice",data:= .fields #[.none,.none,.int (-1) t] } }:=I2.kept (t':=s2.toks) fun b ob q=>Heap.get?_push_of_some _ q
 show wpAny (model X.prog X.w) X.A (subscriptTail e (.Slice none none (some (.UnaryOp .USub (.Constant (.int 1) j p3) p4)) p2) v (.ref s2.heap.objs.size)) (EP X pins σ Q) X.xe { s2 with heap:=s2.heap.push { cls:= .type "slice",data:= .fields #[.none,.none,.int (-1) t] } }
 rcases q1 with ⟨a,xs,rfl,hq,q⟩ | ⟨a,xs,rfl,hq,q⟩
 ·cases r1
  obtain ⟨its,rv,ht,hz⟩:=I4.tuple hq
  have hsz:its.toArray.size<=sizeLine:=by rw[List.size_toArray,<- rv.length];exact hz
  refine tail_any (ops:=[.ref a,.ref s2.heap.objs.size]) ht.typeIs PyProof.Rows.slot_tuple_getitem.lookup (Zcr ht (Heap.IsSliceOf.new ..) ?_ hsz) (by with_unfolding_all rfl)
  have fr:=I4.fresh
  refine ⟨.ref _,_,I4.laid (t':=s2.toks) (fun _ _ q=>Heap.get?_push_of_some _ q) (Nat.le_refl _) ?_,rfl,q _ fr⟩
  exact ⟨by rw[List.length_reverse];exact hz,its.reverse,rv.reverse,_,Heap.get?_push_size _ rfl,rfl,_,rfl⟩
 ·cases r1
  obtain ⟨its,rv,ht,hz⟩:=I4.list hq
  have hsz:its.toArray.size<=sizeLine:=by rw[List.size_toArray,<- rv.length];exact hz
  refine tail_any (ops:=[.ref a,.ref s2.heap.objs.size]) ht.isList.typeIs slot_list_getitem.lookup (wpAny_getItem_list_slice ht.isList (Heap.IsSliceOf.new ..) .none .none (.int (-1) t) (by decide) ?_ hsz) (by with_unfolding_all rfl)
  rw[ZiN]
  refine ⟨.ref _,_,I4.laid (t':=s2.toks) (o:= .lst xs.reverse) (fun _ _ q=>Heap.get?_push_of_some _ q) (Nat.le_refl _) ?_,rfl,q _ (I4.hok.fresh (Nat.le_refl _))⟩
  exact ⟨by rw[List.length_reverse];exact hz,its.reverse,0,rv.reverse,Heap.get?_push_size _ rfl⟩
theorem Zpg {X:Cx} {ξ:XK} {e:Expr} {f:Ev} {p2 p3 p4 pos:Pos} {j:Nat} (he:DE X ξ e f):DE X ξ (.Subscript e (.Slice none none (some (.UnaryOp .USub (.Constant (.int 1) j p3) p4)) p2) pos) (eRv f):=by
 obtain ⟨t,p,q⟩:=he
 refine ⟨_,Zpf p,fun σ ρ H α M Q s h w=>q σ ρ H α M _ s h (OG.seq w fun x M1 v H1 α1 e1 h1 r1 w1=> ?_)⟩
 cases r1 with
 | @tup a xs ds hp rp=>exact .inl ⟨a,xs,rfl,(SqT.of hp),fun l hl=>w1 _ _ α1 (Ext.new0 hl) (h1.tup hl) (.tup Zr (Reps.mono (Ext.new0 hl) rp.rev))⟩
 | @rol a xs ds hp rp=>
  have w2:OP X.K H1 α1 ξ Q (.ok (.ref M1.length) (M1 ++ [.lst ds.reverse])):=w1
  exact .inr ⟨a,xs,rfl,hp.sq,fun l hl=>w2 _ _ (α1 ++ [l]) (Ext.new hl) (h1.new hl rp.rev) (.ref ⟨h1.last l,Kn.lst Zr⟩)⟩
 | @ref a n hp=>
  cases em:M1[n]? with
  |none=>simp only[em] at w1;exact w1.elim
  |some so=>
   cases so with
   |lst es=>
    simp only[em] at w1
    obtain ⟨xs,g1,g2⟩:=h1.at hp em
    exact .inr ⟨a,xs,rfl,SqL.of g1,fun l hl=>w1 _ _ (α1 ++ [l]) (Ext.new hl) (h1.new hl g2.rev) (.ref ⟨h1.last l,Kn.lst Zr⟩)⟩
 |_=>exact w1.elim
end DL
end
section
namespace DL
open PySem PySem.Spec PyProof.Rows L2
noncomputable def ZeS (tg:Tg) (g:Sv) (src:Src):Nat->Nat->Ro->Sto->Fl
 |f,i,ρ,M=>match nxt src i M with
  |none=> .bad
  |some none=> .nx ρ M
  |some (some d)=>(match f with
   |0=> .bad
   |f + 1=>(match tg d ρ with
    |none=> .bad
    |some ρ1=>(match g ρ1 M with
     | .nx ρ2 M2=>ZeS tg g src f (i + 1) ρ2 M2
     | .cnt ρ2 M2=>ZeS tg g src f (i + 1) ρ2 M2
     | .brk ρ2 M2=> .nx ρ2 M2
     |o=>o)))
noncomputable def ZcU (tg:Tg) (fi:Ro->Sto->Out Src) (g:Sv):Sv:=fun ρ M=>ZaR (fi ρ M) fun src M1=>ZeS tg g src (cnt src M1) 0 ρ M1
section
variable {X:Cx} {ξ:XK} {tg iter a b:Expr} {gt:Tg} {fi:Ro->Sto->Out Src} {g:Sv} {body:List Stmt} {f fa fb:Ev} {fs:Av} {p pos:Pos}
theorem ZdL (hp:PassesOwn (model X.prog X.w) X.A X.env X.xe) (hi:DI X ξ tg iter fi) (hg:DG X tg gt) (hb:DSs X ξ body g) (hf: ∀ x,foldedSetIterable iter X.env x=pure x:=by intro _;rfl):DS X ξ (.For tg iter body [] pos) (ZcU gt fi g):=by
 obtain ⟨wi,pi,qi⟩:=hi
 obtain ⟨tt,pt,qt⟩:=hg
 obtain ⟨tb,pb,qb⟩:=hb
 refine ⟨_,ZgI hp pi pt pb hf,fun σ ρ H α M Dn s hh w=>qi σ ρ H α M _ s hh (FP.seq w fun src M1 J H1 α1 e1 h1 sc w1=> ?_)⟩
 generalize eo:ZeS gt g src (cnt src M1) 0 ρ M1=o at w1
 refine ⟨fun i m σ' H'=> ∃ ρ' α' M',Ext X.K H1 H' α1 α'/\SR X.K H' α' σ' ρ'/\HR X.K H' α' M'/\ZeS gt g src m i ρ' M'=o,⟨cnt src M1,ρ,α1,M1,Ext.refl,s.mono e1,h1,eo⟩,?_⟩
 rintro i m σ' H' ⟨ρ',α',M',ex,sr,hr,en⟩
 have s5:=sc i H' α' M' ex hr
 unfold ZeS at en
 cases en1:nxt src i M' with
 |none=>rw[en1] at en;cases en;exact w1.elim
 |some od=>
  rw[en1] at en s5
  cases od with
  |none=>cases en;exact .inl ⟨s5,w1 σ' H' α' ex hr sr⟩
  |some d=>
   obtain ⟨go,yl⟩:=s5
   cases m with
   |zero=>cases en;exact w1.elim
   |succ m=>
    simp only at en
    refine .inr ⟨go,fun σ2 H2=> ∃ ρ' α' M',Ext X.K H1 H2 α1 α'/\SR X.K H2 α' σ2 ρ'/\HR X.K H2 α' M'/\ZeS gt g src m (i + 1) ρ' M'=o,fun σ2 H2 z=>⟨m,Nat.lt_succ_self m,z⟩,fun x H2 y=> ?_⟩
    obtain ⟨ex7,hr7,rp7⟩:=yl x H2 y
    exact ZiI (tg:=tg) w1 qt qb (ex.trans ex7) (sr.mono ex7) hr7 rp7 en (fun σ' H' z=>z)
end
theorem Ze6 {X:Cx} {pins:List (Addr × Obj)} {σ:L2.St} {H:Hp} {s:Shared} {h':Heap} {t':Nat} {ch:List Addr} (I:Inv X pins σ H s) (k: ∀ b o,b ∉ ch->s.heap.get? b=some o->h'.get? b=some o) (hf: ∀ b∈ch,Zd9 X pins H b):Inv X pins σ H { s with heap:=h',toks:=t' }:=by
 have nit: ∀ b u,H b=some u->b ∉ ch:=fun b u e z=>by rw[(hf b z).1] at e;cases e
 have hL:X.env.locals ∉ ch:=fun z=>(hf _ z).2.1 rfl
 refine I.step (g':=s.gens) (d':=s.drawn) (ch:=ch) (fun b hb=> ?_) (fun b o _ _ hc e _=>k b o hc e) (fun b o _ _ hc e _=>⟨o.slots,k b o hc e⟩) (fun _ _ _ _ n=>n)
  (fun b o hc e=>⟨o,k b o hc e⟩) (fun _ _ e=>e) (fun _ _ _ e=>e) (fun b ps e=>⟨#[],by rw[e];simp⟩) (fun m hm=> ?_) (fun b u e=> ?_) I.bare
 ·obtain ⟨_,z1,_,z3,z4,z5⟩:=hf b hb
  exact ⟨z3,z1,z4,z5⟩
 ·obtain ⟨o,es,ep,ho,r⟩:=hm
  exact ⟨o,es,ep,k _ o hL ho,r⟩
 ·refine (I.hok b u e).stay (fun c v hc q=>k c v ?_ q) (fun _ q=>q) fun _ _ q=>q
  rcases hc with z | z
  ·rw[z];exact nit b u e
  ·exact nit c _ z
theorem Zho {X:Cx} {pins:List (Addr × Obj)} {σ:L2.St} {H:Hp} {s:Shared} {h':Heap} {t':Nat} {ch:List Addr} {vs:List V} {us:List Value} (I:Inv X pins σ H s) (hf: ∀ b∈ch,Zd9 X pins H b) (hlt: ∀ b∈ch,b < s.heap.objs.size) (rv:ZW vs us) (hz:vs.length<=sizeLine)
  (k: ∀ b o,b ∉ ch->s.heap.get? b=some o->h'.get? b=some o) (ht:h'.get? s.heap.objs.size=some { cls:= .type "tuple",data:= .seq us.toArray }):
  Inv X pins σ (upd H s.heap.objs.size (.tup vs)) { s with heap:=h',toks:=t' }/\H s.heap.objs.size=none/\ ∀ b∈ch,upd H s.heap.objs.size (.tup vs) b=none:=by
 have fr:H s.heap.objs.size=none:=I.hok.fresh (Nat.le_refl _)
 have hn: ∀ b∈ch,upd H s.heap.objs.size (.tup vs) b=none:=fun b hb=>by rw[ZI (Nat.ne_of_lt (hlt b hb))];exact (hf b hb).1
 have I1:Inv X pins σ (upd H s.heap.objs.size (.tup vs)) { s with heap:=s.heap.push { cls:= .type "tuple",data:= .seq us.toArray },toks:=t' }:=
  I.laid (t':=t') (o:= .tup vs) (fun _ _ q=>Heap.get?_push_of_some _ q) (Nat.le_refl _) ⟨hz,us,rv,_,Heap.get?_push_size _ rfl,rfl,_,rfl⟩
 refine ⟨Ze6 (s:={ s with heap:=s.heap.push { cls:= .type "tuple",data:= .seq us.toArray },toks:=t' }) (t':=t') (ch:=ch) I1 (fun b o hb e=> ?_) (fun b hb=>⟨hn b hb,(hf b hb).2⟩),fr,hn⟩
 by_cases c:b=s.heap.objs.size
 ·subst c
  have e':(s.heap.push { cls:= .type "tuple",data:= .seq us.toArray }).get? s.heap.objs.size=some o:=e
  rw[Heap.get?_push_size _ rfl] at e'
  cases e'
  exact ht
 ·refine k b o hb ?_
  have e':(s.heap.push { cls:= .type "tuple",data:= .seq us.toArray }).get? b=some o:=e
  have hl:b < s.heap.objs.size:=by
   have q:b < s.heap.objs.size + 1:=by
    have z:=Heap.lt_size e'
    rwa [Heap.size_push] at z
   exact Nat.lt_of_le_of_ne (Nat.le_of_lt_succ q) c
  have q:(s.heap.push { cls:= .type "tuple",data:= .seq us.toArray }).get? b=s.heap.get? b:=by
   unfold Heap.get? Heap.push
   simp only[Array.getElem?_push]
   rw[if_neg (Nat.ne_of_lt hl)]
  rwa [q] at e'
noncomputable def Ite (K:PySem.W.Frag) (a:Addr):It:=
 ⟨fun i H=> ∃ xs x,SqL K H a xs/\xs[i]?=some x,fun i H y H'=> ∃ p,H p=none/\y= .ref p/\ ∀ xs x,SqL K H a xs->xs[i]?=some x->H'=upd H p (.tup [.int i,x]),fun i H=> ∃ xs,SqL K H a xs/\xs.length<=i⟩
noncomputable def Itz (K:PySem.W.Frag) (a b:Addr):It:=
 ⟨fun i H=> ∃ xs ys x y,SqL K H a xs/\SqL K H b ys/\xs[i]?=some x/\ys[i]?=some y,fun i H v H'=> ∃ p,H p=none/\v= .ref p/\ ∀ xs ys x y,SqL K H a xs->SqL K H b ys->xs[i]?=some x->ys[i]?=some y->H'=upd H p (.tup [x,y]),
  fun i H=> ∃ xs ys,SqL K H a xs/\SqL K H b ys/\(xs.length<=i\/ys.length<=i)⟩
theorem Zhp {P:Program} {w:World} {K:PySem.W.Frag} {B:Around} {elts:List Expr} {k0:Nat} {tp:Pos} (hB:B.handled=none) (a e it:Addr) (hne:e≠it):
  Turn P w K B (.Tuple elts k0 tp) (Ite K a) [e,it] e (fun i h=>(∃ old,IsEnum h e it (i:Int) old)/\h.IsListIter it a i) where
 mem:=by simp
 obj:=fun i h st b hb=>by
  obtain ⟨⟨old,h1⟩,o,e2,c2,d2⟩:=st
  rcases List.mem_cons.mp hb with z | z
  ·subst z;exact ⟨_,h1,fun v z=>by cases z⟩
  ·have z':b=it:=by simpa using z
   subst z'
   exact ⟨o,e2,fun v z=>by rw[d2] at z;cases z⟩
 keep:=fun i h h' st k=>⟨let ⟨old,z⟩:=st.1;⟨old,k e (by simp) _ z⟩,st.2.at fun o z=>k it (by simp) o z⟩
 item:=by
  intro X hP hw hK hA i pins s σ H E I hf st hg
  subst hP hw hK hA
  obtain ⟨⟨old,h1⟩,h2⟩:=st
  obtain ⟨xs,x,hq,hx⟩:=hg
  obtain ⟨its,rv,p,hz⟩:=I.list hq
  obtain ⟨u,hu,ru⟩:=rv.get hx
  have lt: ∀ b∈[e,it],b < s.heap.objs.size:=fun b hb=>by
   rcases List.mem_cons.mp hb with z | z
   ·subst z;exact Heap.lt_size h1
   ·have z':b=it:=by simpa using z
    subst z'
    obtain ⟨o,e2,_⟩:=h2
    exact Heap.lt_size e2
  refine wpAny_pyNext_enum_item h1 h2 p.isList (x:=u) (by simpa using hu) hne fun h' o1 o2 o3 o4 o5=>⟨_,rfl,?_⟩
  refine wpAny_letOwnedTupleGo_enum (s:={ s with heap:=h',toks:=s.toks + 1 }) o1 fun h'' q1 q2=> ?_
  have pe:s.heap.objs.size≠e:=Nat.ne_of_gt (lt e (by simp))
  have ie:it≠e:=Ne.symm hne
  obtain ⟨J1,J2,J3⟩:=Zho (h':=h'') (t':=s.toks + 1) (ch:=[e,it]) (vs:=[.int i,x]) (us:=[.int i s.toks,u]) I hf lt (.cons ⟨_,rfl⟩ (.cons ru .nil)) (by show 2<=sizeLine;decide)
   (fun b o hb z=>by
    have n1:b≠e:=fun y=>hb (by simp[y])
    have n2:b≠it:=fun y=>hb (by simp[y])
    exact (q2.2 b n1).trans (o5 b o n1 n2 z)) ((q2.2 _ pe).trans o3)
  refine ⟨.ref s.heap.objs.size,_,J1,rfl,⟨_,J2,rfl,fun ys y hy hy2=> ?_⟩,⟨⟨u,by simpa using q1⟩,o2.at fun o z=>(q2.2 it ie).trans z⟩,J3⟩
  rw[I.list_inj hy hq,hx] at hy2
  cases hy2
  rfl
 done:=by
  intro X hP hw hK hA i pins s σ H E I hf st hg
  subst hP hw hK hA
  obtain ⟨⟨old,h1⟩,h2⟩:=st
  obtain ⟨xs,hq,hx⟩:=hg
  obtain ⟨its,rv,p,hz⟩:=I.list hq
  obtain ⟨f0,f1,f2,f3,f4,f5⟩:=hf it (by simp)
  refine wpAny_pyNext_enum_end hB h1 h2 p.isList (by simp only[List.getElem?_toArray];exact List.getElem?_eq_none (by rw[<- rv.length];exact hx)) fun h' ext=>⟨rfl,?_⟩
  exact I.turned (t':=s.toks) (it:=it) (fun b o hb z=>ext b o hb z) f0 f1 f3 f4 f5
 self:=fun A i s Q E st q=>by
  obtain ⟨⟨old,h1⟩,_⟩:=st
  have hT:s.TypeIs (.ref e) "enumerate":=⟨_,h1,rfl⟩
  refine wpAny_pyIter_slot hT F.slot_enumerate_iter (wpAny_call_entry F.slot_enumerate_iter hT F.entry_enumerate_iter ?_ (F.args_enumerate_iter_1 _))
  show wpAny _ _ (ret (.ref e)) _ _ s
  exact wpAny_pure ⟨_,rfl,"enumerate",_,hT,F.slot_enumerate_next.lookup,q⟩
theorem ZdM {P:Program} {w:World} {K:PySem.W.Frag} {B:Around} {elts:List Expr} {k0:Nat} {tp:Pos} (hB:B.handled=none) {z TI TO i1 i2 a b:Addr} (D:ZipApart z TI TO i1 i2 a b):
  Turn P w K B (.Tuple elts k0 tp) (Itz K a b) [z,TI,TO,i1,i2] z (fun i h=>IsZip h z TI TO .none/\IsPair h TI (.ref i1) (.ref i2)/\(∃ x y,IsPair h TO x y)/\h.IsListIter i1 a i/\h.IsListIter i2 b i) where
 mem:=by simp
 obj:=fun i h st c hc=>by
  obtain ⟨h1,h2,⟨x,y,h3⟩,⟨o4,e4,c4,d4⟩,⟨o5,e5,c5,d5⟩⟩:=st
  simp only[List.mem_cons,List.not_mem_nil,or_false] at hc
  rcases hc with rfl | rfl | rfl | rfl | rfl
  ·exact ⟨_,h1,fun v q=>by cases q⟩
  ·exact ⟨_,h2,fun v q=>by cases q⟩
  ·exact ⟨_,h3,fun v q=>by cases q⟩
  ·exact ⟨o4,e4,fun v q=>by rw[d4] at q;cases q⟩
  ·exact ⟨o5,e5,fun v q=>by rw[d5] at q;cases q⟩
 keep:=fun i h h' st k=>by
  obtain ⟨h1,h2,⟨x,y,h3⟩,h4,h5⟩:=st
  exact ⟨k z (by simp) _ h1,k TI (by simp) _ h2,⟨x,y,k TO (by simp) _ h3⟩,h4.at fun o q=>k i1 (by simp) o q,h5.at fun o q=>k i2 (by simp) o q⟩
 item:=by
  intro X hP hw hK hA i pins s σ H E I hf st hg
  subst hP hw hK hA
  obtain ⟨h1,h2,⟨x0,y0,h3⟩,h4,h5⟩:=st
  obtain ⟨xs,ys,x,y,hq,hq2,hx,hy⟩:=hg
  obtain ⟨its,rv,p,hz⟩:=I.list hq
  obtain ⟨its2,rv2,p2,hz2⟩:=I.list hq2
  obtain ⟨u,hu,ru⟩:=rv.get hx
  obtain ⟨u2,hu2,ru2⟩:=rv2.get hy
  have lt: ∀ c∈[z,TI,TO,i1,i2],c < s.heap.objs.size:=fun c hc=>by
   simp only[List.mem_cons,List.not_mem_nil,or_false] at hc
   rcases hc with rfl | rfl | rfl | rfl | rfl
   ·exact Heap.lt_size h1
   ·exact Heap.lt_size h2
   ·exact Heap.lt_size h3
   ·obtain ⟨o,e2,_⟩:=h4;exact Heap.lt_size e2
   ·obtain ⟨o,e2,_⟩:=h5;exact Heap.lt_size e2
  refine wpAny_pyNext_zip_item D h1 h2 h3 h4 h5 p.isList p2.isList (x:=u) (y:=u2) (by simpa using hu) (by simpa using hu2) fun h' o1 o2 o3 o4 o5 o6 o7=>⟨_,rfl,?_⟩
  refine wpAny_letOwnedTupleGo_zip (s:={ s with heap:=h' }) o1 fun h'' q1 q2=> ?_
  have pe:s.heap.objs.size≠z:=Nat.ne_of_gt (lt z (by simp))
  obtain ⟨J1,J2,J3⟩:=Zho (h':=h'') (t':=s.toks) (ch:=[z,TI,TO,i1,i2]) (vs:=[x,y]) (us:=[u,u2]) I hf lt (.cons ru (.cons ru2 .nil)) (by show 2<=sizeLine;decide)
   (fun c o hc q=>by
    simp only[List.mem_cons,List.not_mem_nil,or_false,not_or] at hc
    exact (q2.2 c hc.1).trans (o7 c o hc.1 hc.2.2.1 hc.2.2.2.1 hc.2.2.2.2 q)) ((q2.2 _ pe).trans o5)
  refine ⟨.ref s.heap.objs.size,_,J1,rfl,⟨_,J2,rfl,fun xs' ys' x' y' hx1 hy1 hx2 hy2=> ?_⟩,⟨q1,(q2.2 TI D.TIz).trans (o7 TI _ D.TIz D.TITO D.TIi1 D.TIi2 h2),⟨u,u2,(q2.2 TO D.TOz).trans o2⟩,o3.at fun o q=>(q2.2 i1 D.i1z).trans q,o4.at fun o q=>(q2.2 i2 D.i2z).trans q⟩,J3⟩
  rw[I.list_inj hx1 hq,hx] at hx2
  rw[I.list_inj hy1 hq2,hy] at hy2
  cases hx2
  cases hy2
  rfl
 done:=by
  intro X hP hw hK hA i pins s σ H E I hf st hg
  subst hP hw hK hA
  obtain ⟨h1,h2,⟨x0,y0,h3⟩,h4,h5⟩:=st
  obtain ⟨xs,ys,hq,hq2,hx⟩:=hg
  obtain ⟨its,rv,p,hz⟩:=I.list hq
  obtain ⟨its2,rv2,p2,hz2⟩:=I.list hq2
  have he:its.toArray[i]?=none\/its2.toArray[i]?=none:=by
   rcases hx with hx | hx
   ·exact .inl (by simp only[List.getElem?_toArray];exact List.getElem?_eq_none (by rw[<- rv.length];exact hx))
   ·exact .inr (by simp only[List.getElem?_toArray];exact List.getElem?_eq_none (by rw[<- rv2.length];exact hx))
  refine wpAny_pyNext_zip_end hB D h1 h2 h3 h4 h5 p.isList p2.isList he fun h' keep=>⟨rfl,?_⟩
  refine Ze6 (t':=s.toks) (ch:=[z,TI,TO,i1,i2]) I (fun c o hc q=> ?_) hf
  simp only[List.mem_cons,List.not_mem_nil,or_false,not_or] at hc
  exact keep c o hc.1 hc.2.2.1 hc.2.2.2.1 hc.2.2.2.2 q
 self:=fun A i s Q E st q=>wpAny_pyIter_zip st.1 q
theorem Zhq {n a b:Nat} (h1:a < n) (h2:b < n):ZipApart (n + 4) (n + 2) (n + 3) n (n + 1) a b:=⟨Nat.ne_of_lt (by omega),Nat.ne_of_lt (by omega),Nat.ne_of_lt (by omega),Nat.ne_of_lt (by omega),Nat.ne_of_lt (by omega),Nat.ne_of_gt (by omega),Nat.ne_of_gt (by omega),Nat.ne_of_gt (by omega),Nat.ne_of_gt (by omega),Nat.ne_of_lt (by omega),Nat.ne_of_lt (by omega),Nat.ne_of_lt (by omega),Nat.ne_of_lt (by omega),Nat.ne_of_lt (by omega),Nat.ne_of_lt (by omega),Nat.ne_of_lt (by omega),Nat.ne_of_lt (by omega),Nat.ne_of_lt (by omega)⟩
theorem ZjA:bootBuiltins "zip"=some (.type "zip"):=by decide +kernel
theorem Zes:bootBuiltins "enumerate"=some (.type "enumerate"):=by decide +kernel
section
variable {X:Cx} {ξ:XK} {a b:Expr} {elts:List Expr} {k0:Nat} {tp:Pos} {fa:Ev} {fs:Av} {p pos:Pos} {ta:TA}
noncomputable def Zph (K:PySem.W.Frag) (t:TA):TI:=fun σ H R=>t σ H fun vs H1=> ∃ l xs,vs=[.ref l]/\SqL K H1 l xs/\R (Ite K l) H1
noncomputable def Zpi (K:PySem.W.Frag) (t:TA):TI:=fun σ H R=>t σ H fun vs H1=> ∃ l l2 xs ys,vs=[.ref l,.ref l2]/\SqL K H1 l xs/\SqL K H1 l2 ys/\R (Itz K l l2) H1
theorem ZkB (hc:X.A.handled=none) (hg:Gl X "enumerate") (hm:X.mg "enumerate"=none) (ha:PA X [a] ta) (hs:starEach [a] X.env=(false,eval a X.env) :: starEach [] X.env:=by rfl) (hpl:(backTo pos (starEach [] X.env)).any (·.1)=false:=by rfl):
  PI X (.Tuple elts k0 tp) (.Call (.Name "enumerate" p) [a] [] pos) (Zph X.K ta):=by
 intro pins s σ H R I h
 refine wpAny_Call_Name_kw (Zcu I hg hm Zes (PyProof.Rows.callWith_type1 (thn (ha pos pins s σ H _ I h) fun us s1 ⟨vs,H1,I1,r1,q1⟩=> ?_) hs hpl) (by decide) (by decide))
 obtain ⟨l,xs,rfl,hq,q⟩:=q1
 obtain ⟨u,rfl,ru⟩:=Zdc r1
 cases ru
 obtain ⟨its,rv,pl,hz⟩:=I1.list hq
 refine call_enumerate_list pl.isList fun h' e1 e2 e3 e4=> ?_
 have T:=Zhp (P:=X.prog) (w:=X.w) (K:=X.K) (B:=X.A) (elts:=elts) (k0:=k0) (tp:=tp) hc l (s1.heap.objs.size + 1) s1.heap.objs.size (Nat.ne_of_gt (Nat.lt_succ_self _))
 have I2:Inv X pins σ H1 { s1 with heap:=h',toks:=s1.toks }:=I1.kept (t':=s1.toks) e4
 refine T.self X.A 0 { s1 with heap:=h' } _ _ ⟨⟨_,e1⟩,e2⟩ ⟨_,_,_,_,H1,rfl,I2,T,⟨⟨_,e1⟩,e2⟩,fun b hb=> ?_,q⟩
 have hb':s1.heap.objs.size<=b:=by
  simp only[List.mem_cons,List.not_mem_nil,or_false] at hb
  rcases hb with rfl | rfl<;>omega
 exact I1.fpOk hb' (I1.hok.fresh hb')
theorem Zhr (hc:X.A.handled=none) (hg:Gl X "zip") (hm:X.mg "zip"=none) (ha:PA X [a,b] ta) (hs:starEach [a,b] X.env=(false,eval a X.env) :: starEach [b] X.env:=by rfl) (hpl:(backTo pos (starEach [b] X.env)).any (·.1)=false:=by rfl):
  PI X (.Tuple elts k0 tp) (.Call (.Name "zip" p) [a,b] [] pos) (Zpi X.K ta):=by
 intro pins s σ H R I h
 refine wpAny_Call_Name_kw (Zcu I hg hm ZjA (PyProof.Rows.callWith_type1 (thn (ha pos pins s σ H _ I h) fun us s1 ⟨vs,H1,I1,r1,q1⟩=> ?_) hs hpl) (by decide) (by decide))
 obtain ⟨l,l2,xs,ys,rfl,hq,hq2,q⟩:=q1
 obtain ⟨u,u2,rfl,ru,ru2⟩:=ZgL r1
 cases ru
 cases ru2
 obtain ⟨its,rv,pl,hz⟩:=I1.list hq
 obtain ⟨its2,rv2,pl2,hz2⟩:=I1.list hq2
 have lt1:l < s1.heap.objs.size:=by obtain ⟨_,e,_⟩:=pl.isList;exact Heap.lt_size e
 have lt2:l2 < s1.heap.objs.size:=by obtain ⟨_,e,_⟩:=pl2.isList;exact Heap.lt_size e
 refine call_zip_2 pl.isList pl2.isList fun h' e1 e2 e3 e4 e5 e6 e7=> ?_
 have D:=Zhq lt1 lt2
 have T:=ZdM (P:=X.prog) (w:=X.w) (K:=X.K) (B:=X.A) (elts:=elts) (k0:=k0) (tp:=tp) hc D
 have I2:Inv X pins σ H1 { s1 with heap:=h',toks:=s1.toks }:=I1.kept (t':=s1.toks) e7
 refine T.self X.A 0 { s1 with heap:=h' } _ _ ⟨e1,e2,⟨_,_,e3⟩,e4,e5⟩ ⟨_,_,_,_,H1,rfl,I2,T,⟨e1,e2,⟨_,_,e3⟩,e4,e5⟩,fun c hc=> ?_,q⟩
 have hb':s1.heap.objs.size<=c:=by
  simp only[List.mem_cons,List.not_mem_nil,or_false] at hc
  rcases hc with rfl | rfl | rfl | rfl | rfl<;>omega
 exact I1.fpOk hb' (I1.hok.fresh hb')
noncomputable def iEn (fs:Av):Ro->Sto->Out Src:=fun ρ M=>(fs ρ M).bind fun ds M1=>match ds with | [.ref n]=> .ok (.enu n) M1 | _=> .bad
noncomputable def iZp (fs:Av):Ro->Sto->Out Src:=fun ρ M=>(fs ρ M).bind fun ds M1=>match ds with | [.ref n,.ref m]=> .ok (.zip n m) M1 | _=> .bad
theorem Ze7 (hc:X.A.handled=none) (hm:X.mg "enumerate"=none) (ha:DA X ξ [a] fs) (hg:Gl X "enumerate":=by rfl) (hs:starEach [a] X.env=(false,eval a X.env) :: starEach [] X.env:=by rfl) (hpl:(backTo pos (starEach [] X.env)).any (·.1)=false:=by rfl):
  DI X ξ (.Tuple elts k0 tp) (.Call (.Name "enumerate" p) [a] [] pos) (iEn fs):=by
 obtain ⟨ta,pa,qa⟩:=ha
 refine ⟨_,ZkB hc hg hm pa hs hpl,fun σ ρ H α M R s hh q=>qa σ ρ H α M _ s hh (OG.seq q fun ds M1 vs H1 α1 e1 h1 r1 w1=> ?_)⟩
 match r1 with
 | .nil=>exact w1.elim
 | .cons r (.cons _ _)=>cases r<;>exact w1.elim
 | .cons r .nil=>
  cases r with
  | @ref l n hp=>
   obtain ⟨xs0,g0⟩:=h1.some_at hp
   refine ⟨l,xs0,rfl,SqL.of g0,w1 _ H1 α1 Ext.refl h1 fun i H' α' M' ex hr=> ?_⟩
   cases em:M'[n]? with
   |none=>rw[show nxt (.enu n) i M'=none by simp only[nxt,em]];exact True.intro
   |some so=>
    cases so with
    |lst es=>
     obtain ⟨xs,g1,g2⟩:=hr.at (ex.get hp) em
     cases ei:es[i]? with
     |none=>rw[show nxt (.enu n) i M'=some none by simp only[nxt,em,ei]];exact ⟨xs,SqL.of g1,by rw[g2.length];exact List.getElem?_eq_none_iff.mp ei⟩
     |some d=>
      obtain ⟨v,k1,k2⟩:=g2.get ei
      rw[show nxt (.enu n) i M'=some (some (D.tup [D.int i,d])) by simp only[nxt,em,ei]]
      refine ⟨⟨xs,v,SqL.of g1,k1⟩,fun x H'' y=> ?_⟩
      obtain ⟨pp,y1,rfl,y3⟩:=y
      have y4:=y3 xs v (SqL.of g1) k1
      subst y4
      exact ⟨Ext.new0 y1,hr.tup y1,.tup Zr (.cons (.int i) (.cons (Rep.mono (Ext.new0 y1) k2) .nil))⟩
  |_=>exact w1.elim
theorem Zhs (hc:X.A.handled=none) (hm:X.mg "zip"=none) (ha:DA X ξ [a,b] fs) (hg:Gl X "zip":=by rfl) (hs:starEach [a,b] X.env=(false,eval a X.env) :: starEach [b] X.env:=by rfl) (hpl:(backTo pos (starEach [b] X.env)).any (·.1)=false:=by rfl):
  DI X ξ (.Tuple elts k0 tp) (.Call (.Name "zip" p) [a,b] [] pos) (iZp fs):=by
 obtain ⟨ta,pa,qa⟩:=ha
 refine ⟨_,Zhr hc hg hm pa hs hpl,fun σ ρ H α M R s hh q=>qa σ ρ H α M _ s hh (OG.seq q fun ds M1 vs H1 α1 e1 h1 r1 w1=> ?_)⟩
 match r1 with
 | .nil=>exact w1.elim
 | .cons r .nil=>cases r<;>exact w1.elim
 | .cons r (.cons r' (.cons _ _))=>cases r<;>cases r'<;>exact w1.elim
 | .cons r (.cons r' .nil)=>
  cases r with
  | @ref l n hp=>
   cases r' with
   | @ref l2 m hp2=>
    obtain ⟨xs0,g0⟩:=h1.some_at hp
    obtain ⟨ys0,g0'⟩:=h1.some_at hp2
    refine ⟨l,l2,xs0,ys0,rfl,SqL.of g0,SqL.of g0',w1 _ H1 α1 Ext.refl h1 fun i H' α' M' ex hr=> ?_⟩
    cases em:M'[n]? with
    |none=>rw[show nxt (.zip n m) i M'=none by simp only[nxt,em]];exact True.intro
    |some so=>
     cases em2:M'[m]? with
     |none=>cases so;rw[show nxt (.zip n m) i M'=none by simp only[nxt,em,em2]];exact True.intro
     |some so2=>
      cases so with
      |lst es=>
       cases so2 with
       |lst es2=>
        obtain ⟨xs,g1,g2⟩:=hr.at (ex.get hp) em
        obtain ⟨ys,g3,g4⟩:=hr.at (ex.get hp2) em2
        cases ei:es[i]? with
        |none=>rw[show nxt (.zip n m) i M'=some none by simp only[nxt,em,em2,ei]];exact ⟨xs,ys,SqL.of g1,SqL.of g3,.inl (by rw[g2.length];exact List.getElem?_eq_none_iff.mp ei)⟩
        |some d=>
         cases ej:es2[i]? with
         |none=>rw[show nxt (.zip n m) i M'=some none by simp only[nxt,em,em2,ei,ej]];exact ⟨xs,ys,SqL.of g1,SqL.of g3,.inr (by rw[g4.length];exact List.getElem?_eq_none_iff.mp ej)⟩
         |some d2=>
          obtain ⟨v,k1,k2⟩:=g2.get ei
          obtain ⟨v2,k3,k4⟩:=g4.get ej
          rw[show nxt (.zip n m) i M'=some (some (D.tup [d,d2])) by simp only[nxt,em,em2,ei,ej]]
          refine ⟨⟨xs,ys,v,v2,SqL.of g1,SqL.of g3,k1,k3⟩,fun x H'' y=> ?_⟩
          obtain ⟨pp,y1,rfl,y3⟩:=y
          have y4:=y3 xs ys v v2 (SqL.of g1) (SqL.of g3) k1 k3
          subst y4
          exact ⟨Ext.new0 y1,hr.tup y1,.tup Zr (.cons (Rep.mono (Ext.new0 y1) k2) (.cons (Rep.mono (Ext.new0 y1) k4) .nil))⟩
   |_=>exact w1.elim
  |_=>cases r'<;>exact w1.elim
end
end DL
end
section
namespace DL
open PySem PySem.Spec PyProof.Rows L2
open PySem.SeqAt (EqAt RcAt RcNeAt)
inductive Ks (X:Cx) (H:Hp) (α:List Addr):Kd->Kd->Prop where
 |non:Ks X H α .non .non
 |bl (b:Bool):Ks X H α (.bl b) (.bl b)
 |int (i:Int):Ks X H α (.int i) (.int i)
 |str (x:Str):Ks X H α (.str x) (.str x)
 |tup {vs:List V} {ds es:List D}:Reps X.K H α vs ds->Reps X.K H α vs es->Ks X H α (.tup ds) (.tup es)
 |lst {vs:List V} {ds es:List D}:Reps X.K H α vs ds->Reps X.K H α vs es->Ks X H α (.lst ds) (.lst es)
section
variable {X:Cx} {ξ:XK} {pins:List (Addr × Obj)} {σ:L2.St} {H:Hp} {s:Shared} {α:List Addr} {M:Sto}
theorem ZmC (h:HR X.K H α M) {v:V} {x:D} {k:Kd} (r:Rep X.K H α v x) (e:kd M x=some k):
  (match k with | .tup ds=> ∃ p vs,v= .ref p/\SqT X.K H p vs/\Reps X.K H α vs ds | .lst ds=> ∃ p vs,v= .ref p/\SqL X.K H p vs/\Reps X.K H α vs ds | .non=>v= .non | .bl b=>v= .bl b | .int i=>v= .int i | .str x=>v= .str x):=by
 cases r with
 |non=>cases e;rfl
 |bl b=>cases e;rfl
 |int i=>cases e;rfl
 |str x=>cases e;rfl
 |err _ _ _=>cases e
 |dk _=>cases e
 |dt _=>cases e
 | @tup p xs ds hp rp=>cases e;exact ⟨p,xs,rfl,(SqT.of hp),rp⟩
 | @rol p xs ds hp rp=>cases e;exact ⟨p,xs,rfl,hp.sq,rp⟩
 | @ref p n hp=>
  cases e1:M[n]? with
  |none=>simp only[kd,e1] at e;cases e
  |some o=>
   cases o with
   |lst ds=>
    simp only[kd,e1] at e
    cases e
    obtain ⟨xs,g1,r1⟩:=h.at hp e1
    exact ⟨p,xs,rfl,SqL.of g1,r1⟩
theorem Zht (I:Inv X pins σ H s) (h:HR X.K H α M) {v:V} {x y:D} {k l:Kd} (rx:Rep X.K H α v x) (ry:Rep X.K H α v y) (ex:kd M x=some k) (ey:kd M y=some l):Ks X H α k l:=by
 have a:=ZmC h rx ex
 have b:=ZmC h ry ey
 have nl: ∀ {p:Addr} {xs ys:List V},SqT X.K H p xs->SqL X.K H p ys->False:=fun {p xs ys} a c=>by
  obtain ⟨i1,_,⟨o1,g1,c1,_⟩,_⟩:=I.tuple a
  obtain ⟨i2,_,⟨o2,_,g2,c2,_⟩,_⟩:=I.list c
  rw[g1] at g2
  cases g2
  rw[c1] at c2
  exact absurd c2 (by decide)
 cases k with
 |non=>cases a;cases l<;>first | (cases b;done) | exact .non | (obtain ⟨_,_,q,_⟩:=b;cases q)
 |bl c=>cases a;cases l<;>first | (cases b;done) | (cases b;exact .bl c) | (obtain ⟨_,_,q,_⟩:=b;cases q)
 |int c=>cases a;cases l<;>first | (cases b;done) | (cases b;exact .int c) | (obtain ⟨_,_,q,_⟩:=b;cases q)
 |str c=>cases a;cases l<;>first | (cases b;done) | (cases b;exact .str c) | (obtain ⟨_,_,q,_⟩:=b;cases q)
 |tup ds=>
  obtain ⟨p,vs,rfl,q1,q2⟩:=a
  cases l with
  |tup es=>
   obtain ⟨p2,vs2,e2,q3,q4⟩:=b
   cases e2
   cases I.tuple_inj q1 q3
   exact .tup q2 q4
  |lst es=>
   obtain ⟨p2,vs2,e2,q3,q4⟩:=b
   cases e2
   exact (nl q1 q3).elim
  |_=>cases b
 |lst ds=>
  obtain ⟨p,vs,rfl,q1,q2⟩:=a
  cases l with
  |lst es=>
   obtain ⟨p2,vs2,e2,q3,q4⟩:=b
   cases e2
   cases I.list_inj q1 q3
   exact .lst q2 q4
  |tup es=>
   obtain ⟨p2,vs2,e2,q3,q4⟩:=b
   cases e2
   exact (nl q3 q1).elim
  |_=>cases b
theorem ZjB (I:Inv X pins σ H s) (h:HR X.K H α M): ∀ (n:Nat) {v w:V} {x x' y y':D} {b b':Bool},Rep X.K H α v x->Rep X.K H α v x'->Rep X.K H α w y->Rep X.K H α w y'->eqF n M x y=some b->eqF n M x' y'=some b'->b=b':=by
 intro n
 induction n with
 |zero=>intro v w x x' y y' b b' _ _ _ _ e;simp only[eqF] at e;cases e
 |succ n ih=>
  have lists: ∀ (vs ws:List V) (xs xs' ys ys':List D) (b b':Bool),Reps X.K H α vs xs->Reps X.K H α vs xs'->Reps X.K H α ws ys->Reps X.K H α ws ys'->eqL (eqF n M) xs ys=some b->eqL (eqF n M) xs' ys'=some b'->b=b':=by
   intro vs
   induction vs with
   |nil=>
    intro ws xs xs' ys ys' b b' r1 r2 r3 r4 e e'
    cases r1;cases r2
    cases r3 with
    |nil=>cases r4;simp only[eqL,Option.some.injEq] at e e';rw[<- e,<- e']
    |cons _ _=>cases r4;simp only[eqL,Option.some.injEq] at e e';rw[<- e,<- e']
   |cons v vs iv=>
    intro ws xs xs' ys ys' b b' r1 r2 r3 r4 e e'
    cases r1 with
    |cons p1 t1=>
     cases r2 with
     |cons p2 t2=>
      cases r3 with
      |nil=>cases r4;simp only[eqL,Option.some.injEq] at e e';rw[<- e,<- e']
      |cons p3 t3=>
       cases r4 with
       |cons p4 t4=>
        rename_i d1 ds1 d2 ds2 w d3 ws ds3 d4 ds4
        cases a1:eqF n M d1 d3 with
        |none=>simp only[eqL,a1] at e;cases e
        |some a=>
         cases a2:eqF n M d2 d4 with
         |none=>simp only[eqL,a2] at e';cases e'
         |some a'=>
          cases c1:eqL (eqF n M) ds1 ds3 with
          |none=>simp only[eqL,a1,c1] at e;cases e
          |some c=>
           cases c2:eqL (eqF n M) ds2 ds4 with
           |none=>simp only[eqL,a2,c2] at e';cases e'
           |some c'=>
            simp only[eqL,a1,c1,Option.some.injEq] at e
            simp only[eqL,a2,c2,Option.some.injEq] at e'
            rw[<- e,<- e',ih p1 p2 p3 p4 a1 a2,iv _ _ _ _ _ _ _ t1 t2 t3 t4 c1 c2]
  intro v w x x' y y' b b' rx rx' ry ry' e e'
  unfold eqF at e e'
  cases k1:kd M x with
  |none=>rw[k1] at e;cases e
  |some ka=>
   cases k2:kd M y with
   |none=>rw[k1,k2] at e;cases e
   |some kb=>
    cases k3:kd M x' with
    |none=>rw[k3] at e';cases e'
    |some ka'=>
     cases k4:kd M y' with
     |none=>rw[k3,k4] at e';cases e'
     |some kb'=>
      rw[k1,k2] at e
      rw[k3,k4] at e'
      have s1:=Zht I h rx rx' k1 k3
      have s2:=Zht I h ry ry' k2 k4
      cases s1 with
      |tup a1 a2=>
       cases s2 with
       |tup b1 b2=>simp only[eqK] at e e';exact lists _ _ _ _ _ _ _ _ a1 a2 b1 b2 e e'
       |_=>simp only[eqK,Option.some.injEq] at e e';rw[<- e,<- e']
      |lst a1 a2=>
       cases s2 with
       |lst b1 b2=>
        simp only[eqK] at e e'
        rw[<- a1.length,<- b1.length] at e
        rw[<- a2.length,<- b2.length] at e'
        split at e
        ·rename_i c
         rw[if_pos c] at e'
         exact lists _ _ _ _ _ _ _ _ a1 a2 b1 b2 e e'
        ·rename_i c
         rw[if_neg c] at e'
         cases e;cases e';rfl
       |_=>simp only[eqK,Option.some.injEq] at e e';rw[<- e,<- e']
      |_=>cases s2<;>(simp only[eqK,Option.some.injEq] at e e';rw[<- e,<- e'])
noncomputable def eqs (M:Sto) (d:D):List D->Option (List Bool)
 | []=>some []
 |x :: r=>match eqF 12 M x d with | some b=>(match eqs M d r with | some bs=>some (b :: bs) | none=>none) | none=>none
theorem Zhu: ∀ {M:Sto} {d:D} {xs:List D} {bs:List Bool},eqs M d xs=some bs->bs.length=xs.length
 |_,_,[],_,e=>by cases e;rfl
 |M,d,x :: r,bs,e=>by
  cases e1:eqF 12 M x d with
  |none=>simp only[eqs,e1] at e;cases e
  |some b=>
   cases e2:eqs M d r with
   |none=>simp only[eqs,e1,e2] at e;cases e
   |some cs=>simp only[eqs,e1,e2,Option.some.injEq] at e;subst e;rw[List.length_cons,List.length_cons,Zhu e2]
theorem Zhv: ∀ {M:Sto} {d:D} {xs:List D} {bs:List Bool} {i:Nat} {x:D},eqs M d xs=some bs->xs[i]?=some x-> ∃ b,bs[i]?=some b/\eqF 12 M x d=some b
 |_,_,[],_,i,x,e,hx=>by simp at hx
 |M,d,y :: r,bs,i,x,e,hx=>by
  cases e1:eqF 12 M y d with
  |none=>simp only[eqs,e1] at e;cases e
  |some b=>
   cases e2:eqs M d r with
   |none=>simp only[eqs,e1,e2] at e;cases e
   |some cs=>
    simp only[eqs,e1,e2,Option.some.injEq] at e
    subst e
    cases i with
    |zero=>simp at hx;subst hx;exact ⟨b,rfl,e1⟩
    |succ i=>simp at hx;obtain ⟨b',q1,q2⟩:=Zhv e2 hx;exact ⟨b',by simpa using q1,q2⟩
open Classical in
theorem Ze8 {A:Around} (hu:A.units + 64 < cLine) (I:Inv X pins σ H s) (h:HR X.K H α M) {vs:List V} {ds:List D} {us:List Value} {v:V} {d:D} {u:Value} {bs:List Bool} (rv:ZW vs us) (rp:Reps X.K H α vs ds) (ru:ZS v u) (rd:Rep X.K H α v d) (e:eqs M d ds=some bs):
  ∃ f:Value->Bool,(∀ y,y∈us.toArray->EqAt A.in1 s y u (f y))/\us.map f=bs:=by
 have ll:us.length=ds.length:=by rw[<- rv.length,rp.length]
 have at_: ∀ (i:Nat) y,us[i]?=some y-> ∃ w x b,ZS w y/\Rep X.K H α w x/\bs[i]?=some b/\eqF 12 M x d=some b:=fun i y hy=>by
  have hi:i < ds.length:=by rw[<- ll];exact (List.getElem?_eq_some_iff.mp hy).1
  obtain ⟨w,a1,a2⟩:=rp.get (List.getElem?_eq_getElem hi)
  obtain ⟨y',a3,a4⟩:=rv.get a1
  rw[hy] at a3
  cases a3
  obtain ⟨b,a5,a6⟩:=Zhv e (List.getElem?_eq_getElem hi)
  exact ⟨w,_,b,a4,a2,a5,a6⟩
 refine ⟨fun y=>decide (∃ w x,ZS w y/\Rep X.K H α w x/\eqF 12 M x d=some true),fun y hy=> ?_,?_⟩
 ·obtain ⟨i,hi,ey⟩:=List.getElem_of_mem (by simpa using hy)
  obtain ⟨w,x,b,q1,q2,q3,q4⟩:=at_ i y (by rw[List.getElem?_eq_getElem hi,ey])
  have hb:decide (∃ w x,ZS w y/\Rep X.K H α w x/\eqF 12 M x d=some true)=b:=by
   cases b with
   |true=>exact decide_eq_true ⟨w,x,q1,q2,q4⟩
   |false=>
    refine decide_eq_false fun ⟨w',x',z1,z2,z3⟩=> ?_
    cases ZS.inj z1 q1
    have:=ZjB I h 12 z2 q2 rd rd z3 q4
    cases this
  show EqAt A.in1 s y u (decide (∃ w x,ZS w y/\Rep X.K H α w x/\eqF 12 M x d=some true))
  rw[hb]
  exact (eq3 I h 12 x d w v y u b A.in1 (by rw[Around.in1_units];omega) q4 q2 rd q1 ru).1
 ·apply List.ext_getElem?
  intro i
  rw[List.getElem?_map]
  cases hy:us[i]? with
  |none=>
   have:bs[i]?=none:=List.getElem?_eq_none (by rw[Zhu e,<- ll];exact List.getElem?_eq_none_iff.mp hy)
   rw[this]
   rfl
  |some y=>
   obtain ⟨w,x,b,q1,q2,q3,q4⟩:=at_ i y hy
   rw[q3]
   show some _=some b
   congr 1
   cases b with
   |true=>exact decide_eq_true ⟨w,x,q1,q2,q4⟩
   |false=>
    refine decide_eq_false fun ⟨w',x',z1,z2,z3⟩=> ?_
    cases ZS.inj z1 q1
    have:=ZjB I h 12 z2 q2 rd rd z3 q4
    cases this
end
section
variable {X:Cx} {ξ:XK}
noncomputable def Zrh (X:Cx) (neg:Bool):R2:=fun v w H Q=> ∃ α M d x ds bs p vs,HR X.K H α M/\Rep X.K H α v d/\w= .ref p/\(SqL X.K H p vs\/SqT X.K H p vs)/\Reps X.K H α vs ds/\ZeR M x=some ds/\eqs M d ds=some bs/\Q (.bl (neg ^^ bs.any id)) H
theorem any_map {us:List Value} {f:Value->Bool} {bs:List Bool} (e:us.map f=bs):us.toArray.any f=bs.any id:=by
 rw[<- e,List.any_toArray,List.any_map]
 rfl
theorem ZmD (hu:X.A.units + 64 < cLine):OpR X (compareOp .In) (Zrh X false):=by
 intro pins s σ H v w u z Q I rv rw' ⟨α,M,d,x,ds,bs,p,vs,h,rd,e1,hq,rp,_,e,q⟩
 subst e1
 cases rw'
 rcases hq with hq | hq
 ·obtain ⟨its,r,pl,hz⟩:=I.list hq
  obtain ⟨f,f1,f2⟩:=Ze8 (A:=X.A) hu I h r rp rv rd e
  refine SeqAt.in_listAt f pl.isList f1 ⟨.bl _,H,I,rfl,?_⟩
  rw[any_map f2]
  simpa using q
 ·obtain ⟨its,r,pl,hz⟩:=I.tuple hq
  obtain ⟨f,f1,f2⟩:=Ze8 (A:=X.A) hu I h r rp rv rd e
  refine SeqAt.in_tupleAt f pl f1 ⟨.bl _,H,I,rfl,?_⟩
  rw[any_map f2]
  simpa using q
noncomputable def inE (x y:D) (M:Sto):Option Bool:=match ZeR M y with | some ds=>(match eqs M x ds with | some bs=>some (bs.any id) | none=>none) | none=>none
noncomputable def dInE:Bo:=fun x y M=>match inE x y M with | some b=> .ok (.bl b) M | none=> .bad
noncomputable def Zhw:Bo:=fun x y M=>match inE x y M with | some b=> .ok (.bl (!b)) M | none=> .bad
theorem ZmE:BO X ξ (Zrh X false) dInE:=by
 intro H α M v w x y Q h rv rw' q
 unfold dInE inE at q
 cases e1:ZeR M y with
 |none=>simp only[e1] at q;exact q.elim
 |some ds=>
  cases e2:eqs M x ds with
  |none=>simp only[e1,e2] at q;exact q.elim
  |some bs=>
   simp only[e1,e2] at q
   obtain ⟨p,vs,k1,k2,k3⟩:=Ze0 h rw' e1
   exact ⟨α,M,x,y,ds,bs,p,vs,h,rv,k1,k2,k3,e1,e2,by simpa using q _ H α Ext.refl h (.bl _)⟩
noncomputable def ZmF (X:Cx):V->List V->Hp->VK->Prop:=fun v vs H Q=> ∃ α M d ds bs p xs u j,HR X.K H α M/\v= .ref p/\vs=[u]/\Rep X.K H α u d/\SqL X.K H p xs/\Reps X.K H α xs ds/\eqs M d ds=some bs/\bs.findIdx? id=some j/\Q (.int (j:Nat)) H
theorem ZmG (hu:X.A.units + 64 < cLine):MtR X "list.index" (ZmF X):=by
 intro pins s σ H x vs v us Q I rx rv ⟨α,M,d,ds,bs,p,xs,u,j,h,e1,e2,rd,hq,rp,e,ej,q⟩
 subst e1 e2
 cases rx
 obtain ⟨uv,rfl,ru⟩:=Zdc rv
 obtain ⟨its,r,pl,hz⟩:=I.list hq
 obtain ⟨f,f1,f2⟩:=Ze8 (A:=X.A) hu I h r rp ru rd e
 obtain ⟨⟨cls,dd,data,sl⟩,ho,hc,n,hd⟩:=pl.isList
 simp only at hc hd
 subst hc hd
 obtain ⟨jl,j1,j2⟩:=List.findIdx?_eq_some_iff_getElem.mp ej
 have lb:bs.length=its.length:=by rw[<- f2,List.length_map]
 have at_: ∀ (m:Nat) (hm:m < its.length),bs[m]?=some (f its[m]):=fun m hm=>by rw[<- f2,List.getElem?_map,List.getElem?_eq_getElem hm];rfl
 have hj:j < its.toArray.size:=by rw[List.size_toArray,<- lb];exact jl
 have hit:f its.toArray[j]=true:=by
  have:=at_ j (by rw[<- lb];exact jl)
  rw[List.getElem?_eq_getElem jl] at this
  have:=Option.some.inj this
  simp only[List.getElem_toArray]
  rw[<- this]
  exact j1
 have hno: ∀ m (hm:m < its.toArray.size),m < j->f its.toArray[m]=false:=fun m hm hmj=>by
  have hm':m < its.length:=by simpa using hm
  have:=at_ m hm'
  rw[List.getElem?_eq_getElem (by omega)] at this
  have:=Option.some.inj this
  simp only[List.getElem_toArray]
  rw[<- this]
  simpa using j2 m hmj
 have hs:(j:Int) < 2 ^ 63 - 1:=by
  have h1:j < its.length:=by rw[<- lb];exact jl
  have h2:its.length<=sizeLine:=by rw[<- r.length];exact hz
  have h3:sizeLine < 2 ^ 62:=by decide
  omega
 refine call_meets F.slot_list_index ⟨_,ho,rfl⟩ F.entry_list_index (F.args_list_index_2 _ _) (SeqAt.list_indexAt p its.toArray n dd sl uv f j hj hs hit hno) ⟨ho,f1,?_⟩
 exact ⟨.int (j:Nat),H,I.tok _,⟨_,rfl⟩,q⟩
noncomputable def mIdx:Me:=fun x ds M=>match x,ds with
 | .ref n,[d]=>(match M[n]? with | some (.lst xs)=>(match eqs M d xs with | some bs=>(match bs.findIdx? id with | some j=> .ok (.int (j:Nat)) M | none=> .bad) | none=> .bad) | none=> .bad)
 |_,_=> .bad
noncomputable def Zss:Me:=fun x ds M=>match x,ds with
 | .ref n,[d]=>(match M[n]? with | some (.lst xs)=>(match eqs M d xs with | some bs=> .ok (.int (bs.countP id:Nat)) M | none=> .bad) | none=> .bad)
 |_,_=> .bad
theorem ZmH:MO X ξ (ZmF X) mIdx:=by
 intro H α M v vs x ds Q h rx rs q
 cases rx with
 | @ref p n hp=>
  match rs with
  | .nil=>exact q.elim
  | .cons _ (.cons _ _)=>exact q.elim
  | .cons (v:=u) (d:=d) ru .nil=>
   cases em:M[n]? with
   |none=>simp only[mIdx,em] at q;exact q.elim
   |some so=>
    cases so with
    |lst es=>
     cases e2:eqs M d es with
     |none=>simp only[mIdx,em,e2] at q;exact q.elim
     |some bs=>
      cases e3:bs.findIdx? id with
      |none=>simp only[mIdx,em,e2,e3] at q;exact q.elim
      |some j=>
       simp only[mIdx,em,e2,e3] at q
       obtain ⟨xs,g1,g2⟩:=h.at hp em
       exact ⟨α,M,d,es,bs,p,xs,u,j,h,rfl,rfl,ru,SqL.of g1,g2,e2,e3,q _ H α Ext.refl h (.int _)⟩
 |_=>cases rs<;>exact q.elim
noncomputable def ZbT:List D->Option (List Int)
 | []=>some []
 | .int b :: r=>match ZbT r with | some bs=>some (b :: bs) | none=>none
 |_ :: _=>none
theorem ZfN {K:PySem.W.Frag} {H:Hp} {α:List Addr}: ∀ {vs:List V} {ds:List D} {bs:List Int},Reps K H α vs ds->ZbT ds=some bs->vs=bs.map V.int
 |_,_,_,.nil,e=>by cases e;rfl
 |_,_,bs,.cons (d:=d) (ds:=ds) r t,e=>by
  cases r with
  |int b=>
   cases e1:ZbT ds with
   |none=>simp only[ZbT,e1] at e;cases e
   |some cs=>
    simp only[ZbT,e1,Option.some.injEq] at e
    subst e
    rw[ZfN t e1]
    rfl
  |_=>cases e
noncomputable def ZiO (X:Cx) (g:List Int->Option V):List V->Hp->VK->Prop:=fun vs H Q=> ∃ (p:Addr) (ns:List Int) (v:V),vs=[.ref p]/\SqL X.K H p (ns.map V.int)/\g ns=some v/\Q v H
theorem ZdN: ∀ {ns:List Int} {us:List Value} {i:Nat} {u:Value},ZW (ns.map V.int) us->us[i]?=some u-> ∃ t,u= .int (ns.getD i 0) t
 | [],us,i,u,h,e=>by cases h;simp at e
 |b :: r,us,i,u,h,e=>by
  cases h with
  |cons h1 h2=>
   cases i with
   |zero=>simp at e;subst e;exact h1
   |succ i=>simp at e;obtain ⟨t,g⟩:=ZdN h2 e;exact ⟨t,by simpa using g⟩
theorem Zhx (hc:X.calm=true) {pins:List (Addr × Obj)} {σ:L2.St} {H:Hp} {s:Shared} {p:Addr} {ns:List Int} (I:Inv X pins σ H s) (hl:SqL X.K H p (ns.map V.int)) {Q:Value->Shared->Prop} {E:Value->Shared->Prop}
  (q: ∀ (its:List Value) (it:Addr),ZW (ns.map V.int) its->its.length=ns.length->it=s.heap.objs.size->Walks X.prog X.w X.A.in1 it [it,p] [it] its.toArray.size (fun i v=>its.toArray[i]?=some v) (fun i h=>h.IsListIter it p i/\h.IsList p its.toArray)->
   (∀ b∈[it,p],b < (s.heap.push { cls:= .type "list_iterator",data:= .fields #[.ref p,.int 0 0] }).objs.size)->((s.heap.push { cls:= .type "list_iterator",data:= .fields #[.ref p,.int 0 0] }).IsListIter it p 0/\(s.heap.push { cls:= .type "list_iterator",data:= .fields #[.ref p,.int 0 0] }).IsList p its.toArray)->
   (∀ h' tk,(∀ b o,b ∉ [it]->(s.heap.push { cls:= .type "list_iterator",data:= .fields #[.ref p,.int 0 0] }).get? b=some o->h'.get? b=some o)->Inv X pins σ H { s with heap:=h',toks:=tk })->Q (.ref it) { s with heap:=s.heap.push { cls:= .type "list_iterator",data:= .fields #[.ref p,.int 0 0] } }):
  wpAny (model X.prog X.w) X.A.in1 (pyIter (.ref p)) Q E s:=by
 obtain ⟨its,hv,hp,hz⟩:=I.list hl
 have hlt:p < s.heap.objs.size:=by obtain ⟨_,e,_⟩:=hp.isList;exact Heap.lt_size e
 refine wpAny_pyIter_list hp.isList ?_
 refine q its s.heap.objs.size hv (by rw[<- hv.length,List.length_map]) rfl (Walks.list (A:=X.A.in1) (I.ok.hd hc) _ p (Nat.ne_of_lt hlt) its.toArray) (fun b hb=> ?_) ⟨⟨_,Heap.get?_push_size _ rfl,rfl,rfl⟩,hp.isList.push _⟩ fun h' tk hk=> ?_
 ·rw[Heap.size_push]
  simp only[List.mem_cons,List.not_mem_nil,or_false] at hb
  rcases hb with rfl | rfl
  ·exact Nat.lt_succ_self _
  ·exact Nat.lt_succ_of_lt hlt
 ·exact I.kept fun b o e=>hk b o (fun hm=>by rw[List.mem_singleton.mp hm] at e;exact Nat.lt_irrefl _ (Heap.lt_size e)) (Heap.get?_push_of_some _ e)
theorem ZiP {ns:List Int} (h:0 < ns.length):ns.max?=some (ns.getD (argBest (fun i j=>decide (ns.getD i 0 > ns.getD j 0)) (ns.length - 1)) 0):=by
 obtain ⟨h1,h2⟩:=argBest_gt (fun i=>ns.getD i 0) (ns.length - 1)
 refine List.max?_eq_some_iff.mpr ⟨?_,fun b hb=> ?_⟩
 ·have hl:argBest (fun i j=>decide (ns.getD i 0 > ns.getD j 0)) (ns.length - 1) < ns.length:=by omega
  rw[List.getD_eq_getElem?_getD,List.getElem?_eq_getElem hl]
  exact List.getElem_mem hl
 ·obtain ⟨j,hj,rfl⟩:=List.getElem_of_mem hb
  have:=h2 j (by omega)
  rwa [show ns.getD j 0=ns[j] by rw[List.getD_eq_getElem?_getD,List.getElem?_eq_getElem hj];rfl] at this
noncomputable def ZoL (ns:List Int):Option V:=ns.max?.map V.int
theorem Zhy (hc:X.calm=true):Zb7 X (.builtin "max") (ZiO X ZoL):=by
 intro pins s σ H vs us Q I rs ⟨p,ns,v,e,hl,hg,q⟩
 subst e
 obtain ⟨u,rfl,ru⟩:=Zdc rs
 cases ru
 have hn:0 < ns.length:=by cases ns with | nil=>cases hg | cons _ _=>simp
 unfold ZoL at hg
 rw[ZiP hn] at hg
 cases hg
 refine call_max_walk (Zhx hc I hl fun its it hv hlen ei W hfp st back=> ?_)
 refine ⟨it,_,_,_,_,_,_,rfl,W,st,hfp,by rw[List.size_toArray,hlen];exact hn,CmpOf.ints_gt (fun i=>ns.getD i 0) (fun i v hP=>ZdN hv (by simpa using hP)),fun v h' tk hP hk=>⟨_,H,back h' tk hk,?_,q⟩⟩
 rw[List.size_toArray,hlen] at hP
 exact ZdN hv (by simpa using hP)
noncomputable def Ze9 (g:List Int->Option Int):List D->Sto->Out D:=fun ds M=>match ds with
 | [x]=>(match ZeR M x with | some xs=>(match x with | .tup _=> .bad | _=>(match ZbT xs with | some ns=>(match g ns with | some i=> .ok (.int i) M | none=> .bad) | none=> .bad)) | none=> .bad)
 |_=> .bad
theorem ZkC {g:List Int->Option Int} {gV:List Int->Option V} (hg: ∀ ns i,g ns=some i->gV ns=some (.int i)):CO X ξ (ZiO X gV) (Ze9 g):=by
 intro H α M vs ds Q h rs q
 unfold Ze9 at q
 match rs with
 | .nil=>exact q.elim
 | .cons _ (.cons _ _)=>exact q.elim
 | .cons (d:=x) r .nil=>
  have fin: ∀ (p:Addr) (xs:List V) (ys:List D),SqL X.K H p xs->Reps X.K H α xs ys->OP X.K H α ξ Q (match ZbT ys with | some ns=>(match g ns with | some i=> .ok (.int i) M | none=> .bad) | none=> .bad)->ZiO X gV [.ref p] H Q:=fun p xs ys k1 k2 q=>by
   cases e1:ZbT ys with
   |none=>rw[e1] at q;exact q.elim
   |some ns=>
    cases e2:g ns with
    |none=>simp only[e1,e2] at q;exact q.elim
    |some i=>
     simp only[e1,e2] at q
     have:=ZfN k2 e1
     subst this
     exact ⟨p,ns,.int i,rfl,k1,hg _ _ e2,q _ H α Ext.refl h (.int i)⟩
  cases r with
  | @rol p xs ds hp rp=>exact fin p xs ds hp.sq rp q
  | @ref p n hp=>
   cases em:M[n]? with
   |none=>simp only[ZeR,em] at q;exact q.elim
   |some so=>
    cases so with
    |lst es=>
     simp only[ZeR,em] at q
     obtain ⟨xs,g1,g2⟩:=h.at hp em
     exact fin p xs es (SqL.of g1) g2 q
  |tup _ _=>exact q.elim
  |_=>exact q.elim
theorem ZkD:CO X ξ (ZiO X ZoL) (Ze9 List.max?):=ZkC fun ns i e=>by unfold ZoL;rw[e];rfl
end
end DL
end
section
namespace DL
open PySem PySem.Spec PyProof.Rows L2
noncomputable def kK:D->Option Key
 | .int i=>some (.inl i)
 | .str x=>some (.inr x)
 |_=>none
noncomputable def kKs:List D->Option (List Key)
 | []=>some []
 |d :: r=>match kK d,kKs r with | some k,some ks=>some (k :: ks) | _,_=>none
noncomputable def kT:D->Option (List Key)
 | .tup ds=>kKs ds
 |_=>none
theorem ZmI {d:D} {k:Key} (h:kK d=some k):d=Zkk k:=by
 cases d<;>first | (cases h;rfl) | cases h
theorem Zhz (k:Key):kK (Zkk k)=some k:=by cases k<;>rfl
theorem ZhA: ∀ {ds:List D} {ks:List Key},kKs ds=some ks->ds=ks.map Zkk
 | [],ks,h=>by cases h;rfl
 |d :: r,ks,h=>by
  unfold kKs at h
  split at h
  ·rename_i k ks' e1 e2
   cases h
   rw[List.map_cons,<- ZmI e1,<- ZhA e2]
  ·cases h
theorem ZfO: ∀ (ks:List Key),kKs (ks.map Zkk)=some ks
 | []=>rfl
 |k :: ks=>by rw[List.map_cons,kKs,Zhz,ZfO ks]
theorem ZmJ {d:D} {ks:List Key} (h:kT d=some ks):d=Zg5 ks:=by
 cases d with
 |tup ds=>rw[Zg5,<- ZhA h]
 |_=>cases h
theorem ZfP (ks:List Key):kT (Zg5 ks)=some ks:=ZfO ks
section
variable {κ:Type} [DecidableEq κ]
noncomputable def ZcJ (dec:D->Option κ) (k:κ):List D->Option D
 | []=>none
 | .tup [a,v] :: r=>if dec a=some k then some v else ZcJ dec k r
 |_ :: r=>ZcJ dec k r
noncomputable def ZjC (dec:D->Option κ) (k:κ) (v:D) (ds:List D):List D:=ds.map fun e=>match e with | .tup [a,w]=>if dec a=some k then .tup [a,v] else e | e=>e
noncomputable def Zig (dec:D->Option κ) (k:κ) (kd v:D) (ds:List D):List D:=if (ZcJ dec k ds).isSome then ZjC dec k v ds else ds ++ [.tup [kd,v]]
variable {K:PySem.W.Frag} {H H':Hp} {α α':List Addr} {key:κ->D} {dec:D->Option κ}
theorem ZhB:ZbU K H α key [] []:=⟨[],rfl,.nil⟩
theorem Zcd (hd: ∀ k,dec (key k)=some k): ∀ {kvs:List (κ × V)} {es:List D} (k:κ),Reps K H α (kvs.map (·.2)) es->
  match ZcJ dec k (List.zipWith (fun kv e=>D.tup [key kv.1,e]) kvs es) with | none=>Zd5 kvs k=none | some d=> ∃ v,Zd5 kvs k=some v/\Rep K H α v d
 | [],es,k,h=>by cases h;rfl
 | (k',v) :: kvs,_,k,.cons r t=>by
  simp only[List.zipWith_cons_cons,ZcJ,hd,Option.some.injEq]
  by_cases c:k'=k
  ·rw[if_pos c]
   exact ⟨v,ZcF (p:=(k',v)) c,r⟩
  ·rw[if_neg c]
   have:=Zcd hd k t
   have e:Zd5 ((k',v) :: kvs) k=Zd5 kvs k:=ZcG (p:=(k',v)) c
   rw[e]
   exact this
theorem Zet (hd: ∀ k,dec (key k)=some k) {w:V} {d:D} (rw':Rep K H α w d): ∀ {kvs:List (κ × V)} {es:List D} (k:κ),Reps K H α (kvs.map (·.2)) es->
  ∃ es',ZjC dec k d (List.zipWith (fun kv e=>D.tup [key kv.1,e]) kvs es)=List.zipWith (fun kv e=>D.tup [key kv.1,e]) (kvs.map fun kv=>if kv.1=k then (kv.1,w) else kv) es'/\Reps K H α ((kvs.map fun kv=>if kv.1=k then (kv.1,w) else kv).map (·.2)) es'
 | [],es,k,h=>by cases h;exact ⟨[],rfl,.nil⟩
 | (k',v) :: kvs,_,k,.cons (d:=dv) (ds:=es) r t=>by
  obtain ⟨es',h1,h2⟩:=Zet hd rw' k t
  unfold ZjC at h1
  by_cases c:k'=k
  ·refine ⟨d :: es',?_,?_⟩
   ·simp only[ZjC,List.zipWith_cons_cons,List.map_cons,hd,Option.some.injEq,if_pos c,h1]
   ·simp only[List.map_cons,if_pos c]
    exact .cons rw' h2
  ·refine ⟨dv :: es',?_,?_⟩
   ·simp only[ZjC,List.zipWith_cons_cons,List.map_cons,hd,Option.some.injEq,if_neg c,h1]
   ·simp only[List.map_cons,if_neg c]
    exact .cons r h2
theorem ZfQ {α' β γ:Type} {f:α'->β->γ} {x:α'} {y:β}: ∀ {xs:List α'} {ys:List β},xs.length=ys.length->List.zipWith f (xs ++ [x]) (ys ++ [y])=List.zipWith f xs ys ++ [f x y]
 | [],[],_=>rfl
 |a :: xs,b :: ys,h=>by simp[ZfQ (xs:=xs) (ys:=ys) (by simpa using h)]
theorem ZhC (hd: ∀ k,dec (key k)=some k) {kvs:List (κ × V)} {ds:List D} {w:V} {d:D} (k:κ) (h:ZbU K H α key kvs ds) (r:Rep K H α w d):ZbU K H α key (ZgY kvs k w) (Zig dec k (key k) d ds):=by
 obtain ⟨es,rfl,hr⟩:=h
 have pv:=Zcd hd k hr
 have an:=ZdF k kvs
 unfold ZgY Zig
 cases e:ZcJ dec k (List.zipWith (fun kv e=>D.tup [key kv.1,e]) kvs es) with
 |none=>
  rw[e] at pv
  rw[if_neg (by rw[an,pv];simp),if_neg (by simp)]
  refine ⟨es ++ [d],?_,?_⟩
  ·rw[ZfQ (by rw[<- hr.length,List.length_map])]
  ·rw[List.map_append]
   exact hr.append (.cons r .nil)
 |some x=>
  rw[e] at pv
  obtain ⟨v,hv,_⟩:=pv
  rw[if_pos (by rw[an,hv];rfl),if_pos (show (some x).isSome=true from rfl)]
  exact Zet hd r k hr
theorem ZhD {kvs:List (κ × V)} {ds:List D} (h:ZbU K H α key kvs ds):kvs.length=ds.length:=by
 obtain ⟨es,rfl,hr⟩:=h
 have:=hr.length
 rw[List.length_map] at this
 simp[this]
theorem Zgg {kvs:List (κ × V)} {ds:List D} (h:ZbU K H α key kvs ds) (e:Ext K H H' α α'):ZbU K H' α' key kvs ds:=by
 obtain ⟨es,h1,h2⟩:=h
 exact ⟨es,h1,Reps.mono e h2⟩
end
noncomputable def Zpj (K:PySem.W.Frag) (H:Hp) (α:List Addr) (o:Option D) (ov:Option V):Prop:=match o with | none=>ov=none | some d=> ∃ u,ov=some u/\Rep K H α u d
theorem Zst {a b:Nat} (h:a + 64 < b):a + 1 < b:=by omega
noncomputable def Zgh (M:Sto) (x k:D):Option (Option D):=match x with
 | .dk n=>(match kK k,M[n]? with | some kk,some (.lst ds)=>some (ZcJ kK kk ds) | _,_=>none)
 | .dt n=>(match kT k,M[n]? with | some kk,some (.lst ds)=>some (ZcJ kT kk ds) | _,_=>none)
 |_=>none
section
variable {X:Cx} {ξ:XK} {H:Hp} {α:List Addr} {M:Sto}
theorem ZhE {v:V} {d:D} {k:Key} (r:Rep X.K H α v d) (e:kK d=some k):v=kV k:=by
 cases r with
 |int i=>cases e;rfl
 |str x=>cases e;rfl
 |_=>cases e
theorem ZdO: ∀ {vs:List V} {ds:List D} {ks:List Key},Reps X.K H α vs ds->kKs ds=some ks->vs=ks.map kV
 |_,_,ks,.nil,e=>by cases e;rfl
 |_,_,ks,.cons (d:=d) (ds:=ds) r t,e=>by
  unfold kKs at e
  split at e
  ·rename_i k ks' e1 e2
   cases e
   rw[List.map_cons,ZhE r e1,ZdO t e2]
  ·cases e
theorem ZkE (h:HR X.K H α M) {v w:V} {x k:D} {o:Option D} (r:Rep X.K H α v x) (rk:Rep X.K H α w k) (e:Zgh M x k=some o):
  ∃ a ov,v= .ref a/\Zix H a w ov/\IsD H a/\Zpj X.K H α o ov:=by
 cases r with
 | @dk p n hp=>
  simp only[Zgh] at e
  split at e
  ·rename_i kk ds e1 e2
   cases e
   obtain ⟨kvs,g1,es,rfl,g2⟩:=h.atK hp e2
   have pv:=Zcd Zhz kk g2
   refine ⟨p,Zd5 kvs kk,rfl,by rw[ZhE rk e1];exact Zix.k g1,.inl ⟨kvs,.inl g1⟩,?_⟩
   unfold Zpj
   exact pv
  ·cases e
 | @dt p n hp=>
  simp only[Zgh] at e
  split at e
  ·rename_i kk ds e1 e2
   cases e
   obtain ⟨kvs,g1,es,rfl,g2⟩:=h.atT hp e2
   have pv:=Zcd ZfP kk g2
   cases rk with
   | @tup b xs ds' hb rb=>
    refine ⟨p,Zd5 kvs kk,rfl,Zix.t g1 (by rw[hb,ZdO rb e1]),.inr ⟨kvs,.inl g1⟩,?_⟩
    unfold Zpj
    exact pv
   |_=>cases e1
  ·cases e
 |_=>cases e
end
section
variable {X:Cx} {ξ:XK} {o i e:Expr} {fo fi f:Ev} {pos pos':Pos}
noncomputable def Zri (neg:Bool):R2:=fun v w H Q=> ∃ a o,w= .ref a/\Zix H a v o/\Q (.bl (neg ^^ o.isSome)) H
noncomputable def ZkF (neg:Bool):Bo:=fun k x M=>match Zgh M x k with | some o=> .ok (.bl (neg ^^ o.isSome)) M | none=> .bad
theorem ZmK (hu:X.A.units + 64 < cLine):OpR X (compareOp .In) (Zri false):=by
 intro pins s σ H x y v u Q I rx ry ⟨a,ov,e1,g,q⟩
 subst e1
 cases (show u=Value.ref a from ry)
 exact Zsm (Zst hu) I g rx fun s' I'=>⟨.bl ov.isSome,H,I',rfl,by simpa using q⟩
theorem ZmL {neg:Bool}:BO X ξ (Zri neg) (ZkF neg):=by
 intro H α M v w x y Q h r1 r2 q
 unfold ZkF at q
 cases eg:Zgh M y x with
 |none=>rw[eg] at q;exact q.elim
 |some oo=>
  rw[eg] at q
  obtain ⟨a,ov,g1,g2,_,g4⟩:=ZkE h r2 r1 eg
  have es:ov.isSome=oo.isSome:=by
   cases oo with
   |none=>rw[show ov=none from g4];rfl
   |some d=>obtain ⟨u,rfl,_⟩:=g4;rfl
  exact ⟨a,ov,g1,g2,by rw[es];exact q _ H α Ext.refl h (.bl _)⟩
noncomputable def ZmM (M:Sto) (x k d:D):Option Sto:=match x with
 | .dk n=>(match kK k,M[n]? with | some kk,some (.lst ds)=>if ds.length < 10000000 then some (M.set n (.lst (Zig kK kk k d ds))) else none | _,_=>none)
 | .dt n=>(match kT k,M[n]? with | some kk,some (.lst ds)=>if ds.length < 10000000 then some (M.set n (.lst (Zig kT kk k d ds))) else none | _,_=>none)
 |_=>none
end
end DL
end
section
namespace DL
open PySem PySem.Spec PyProof.Rows L2
noncomputable def Itv (K:PySem.W.Frag) (a:Addr) (l:Nat):It:=
 ⟨fun i H=>i < l/\ ∃ xs x,SqL K H a xs/\xs[l - 1 - i]?=some x,fun i H x H'=>H'=H/\ ∀ xs,SqL K H a xs->xs[l - 1 - i]?=some x,fun i _=>i=l⟩
theorem ZiQ {P:Program} {w:World} {K:PySem.W.Frag} {B:Around} {tg:Expr} (hB:B.handled=none) (a it:Addr) (l:Nat):Turn P w K B tg (Itv K a l) [it] it (fun i h=>h.IsRevIter it a ((l:Int) - 1 - i)) where
 mem:=by simp
 obj:=fun i h st b hb=>by
  have e:b=it:=by simpa using hb
  subst e
  obtain ⟨o,e,c,d⟩:=st
  exact ⟨o,e,fun v z=>by rw[d] at z;cases z⟩
 keep:=fun i h h' st k=>st.at fun o e=>k it (by simp) o e
 item:=by
  intro X hP hw hK hA i pins s σ H E I hf st hg
  subst hP hw hK hA
  obtain ⟨hi,xs,x,hq,hx⟩:=hg
  obtain ⟨its,rv,p,hz⟩:=I.list hq
  obtain ⟨u,hu,ru⟩:=rv.get hx
  obtain ⟨f0,f1,f2,f3,f4,f5⟩:=hf it (by simp)
  have en:((l:Int) - 1 - i)=((l - 1 - i:Nat):Int):=by omega
  rw[en] at st
  refine wpAny_pyNext_rev_item st p.isList (x:=u) (by simpa using hu) fun h' st' sb=> ?_
  have I1:Inv X pins σ H { s with heap:=h' }:=I.turned (t':=s.toks) (fun b o hb e=>(sb.2 b hb).trans e) f0 f1 f3 f4 f5
  have st2:h'.IsRevIter it a ((l:Int) - 1 - ((i + 1:Nat):Int)):=by
   have e2:((l:Int) - 1 - ((i + 1:Nat):Int))=((l - 1 - i:Nat):Int) - 1:=by omega
   rw[e2]
   exact st'
  obtain ⟨o,e,c,d⟩:=id st'
  exact ⟨u,rfl,Zin (s:={ s with heap:=h' }) e c d (by decide) ⟨x,H,I1,ru,⟨rfl,fun ys hy=>by rw[I.list_inj hy hq];exact hx⟩,st2,fun b hb=>(hf b hb).1⟩⟩
 done:=by
  intro X hP hw hK hA i pins s σ H E I hf st hg
  subst hP hw hK hA
  obtain ⟨f0,f1,f2,f3,f4,f5⟩:=hf it (by simp)
  have hg':i=l:=hg
  have en:((l:Int) - 1 - i)= -1:=by omega
  rw[en] at st
  refine wpAny_pyNext_rev_end hB st fun h' ext=>⟨rfl,?_⟩
  exact I.turned (t':=s.toks) (it:=it) (fun b o hb z=>ext b o hb z) f0 f1 f3 f4 f5
 self:=fun A i s Q E st q=>wpAny_pyIter_revIter st q
theorem Zfa:bootBuiltins "reversed"=some (.type "reversed"):=by decide +kernel
section
variable {X:Cx} {ξ:XK} {tg a:Expr} {fs:Av} {p pos:Pos} {ta:TA}
noncomputable def Zsu (K:PySem.W.Frag) (t:TA):TI:=fun σ H R=>t σ H fun vs H1=> ∃ l xs,vs=[.ref l]/\SqL K H1 l xs/\R (Itv K l xs.length) H1
theorem ZmN (hc:X.A.handled=none) (hg:Gl X "reversed") (hm:X.mg "reversed"=none) (ha:PA X [a] ta) (hs:starEach [a] X.env=(false,eval a X.env) :: starEach [] X.env:=by rfl) (hpl:(backTo pos (starEach [] X.env)).any (·.1)=false:=by rfl):
  PI X tg (.Call (.Name "reversed" p) [a] [] pos) (Zsu X.K ta):=by
 intro pins s σ H R I h
 refine wpAny_Call_Name_kw (Zcu I hg hm Zfa (PyProof.Rows.callWith_type1 (thn (ha pos pins s σ H _ I h) fun us s1 ⟨vs,H1,I1,r1,q1⟩=> ?_) hs hpl) (by decide) (by decide))
 obtain ⟨l,xs,rfl,hq,q⟩:=q1
 obtain ⟨u,rfl,ru⟩:=Zdc r1
 cases ru
 obtain ⟨its,rv,pl,hz⟩:=I1.list hq
 refine call_reversed_list pl.isList ?_
 have T:=ZiQ (P:=X.prog) (w:=X.w) (K:=X.K) (B:=X.A) (tg:=tg) hc l s1.heap.objs.size xs.length
 have I2:Inv X pins σ H1 { s1 with heap:=s1.heap.push (revObj l ((its.toArray.size:Int) - 1)),toks:=s1.toks }:=I1.kept (t':=s1.toks) fun b o e=>Heap.get?_push_of_some _ e
 have st:(s1.heap.push (revObj l ((its.toArray.size:Int) - 1))).IsRevIter s1.heap.objs.size l ((xs.length:Int) - 1 - ((0:Nat):Int)):=by
  refine ⟨_,Heap.get?_push_size _ rfl,rfl,?_⟩
  have e:((its.toArray.size:Int) - 1)=(xs.length:Int) - 1 - ((0:Nat):Int):=by rw[List.size_toArray,<- rv.length];simp
  rw[e]
  rfl
 refine T.self X.A 0 { s1 with heap:=s1.heap.push (revObj l ((its.toArray.size:Int) - 1)) } _ _ st ⟨_,_,_,_,H1,rfl,I2,T,st,fun b hb=> ?_,q⟩
 have hb':s1.heap.objs.size<=b:=by
  have:b=s1.heap.objs.size:=by simpa using hb
  rw[this]
  exact Nat.le_refl _
 exact I1.fpOk hb' (I1.hok.fresh hb')
noncomputable def iRv (fs:Av):Ro->Sto->Out Src:=fun ρ M=>(fs ρ M).bind fun ds M1=>match ds with | [.ref n]=>(match M1[n]? with | some (.lst xs)=> .ok (.rev n xs.length) M1 | none=> .bad) | _=> .bad
theorem ZmO (hc:X.A.handled=none) (hm:X.mg "reversed"=none) (ha:DA X ξ [a] fs) (hg:Gl X "reversed":=by rfl) (hs:starEach [a] X.env=(false,eval a X.env) :: starEach [] X.env:=by rfl) (hpl:(backTo pos (starEach [] X.env)).any (·.1)=false:=by rfl):
  DI X ξ tg (.Call (.Name "reversed" p) [a] [] pos) (iRv fs):=by
 obtain ⟨ta,pa,qa⟩:=ha
 refine ⟨_,ZmN hc hg hm pa hs hpl,fun σ ρ H α M R s hh q=>qa σ ρ H α M _ s hh (OG.seq q fun ds M1 vs H1 α1 e1 h1 r1 w1=> ?_)⟩
 match r1 with
 | .nil=>exact w1.elim
 | .cons r (.cons _ _)=>cases r<;>exact w1.elim
 | .cons r .nil=>
  cases r with
  | @ref l n hp=>
   cases em0:M1[n]? with
   |none=>simp only[em0] at w1;exact w1.elim
   |some so0=>
    cases so0 with
    |lst es0=>
     simp only[em0] at w1
     obtain ⟨xs0,g0,g0'⟩:=h1.at hp em0
     refine ⟨l,xs0,rfl,SqL.of g0,?_⟩
     rw[g0'.length]
     refine w1 _ H1 α1 Ext.refl h1 fun i H' α' M' ex hr=> ?_
     cases em:M'[n]? with
     |none=>rw[show nxt (.rev n es0.length) i M'=none by simp only[nxt,em]];exact True.intro
     |some so=>
      cases so with
      |lst es=>
       obtain ⟨xs,g1,g2⟩:=hr.at (ex.get hp) em
       by_cases hi:i < es0.length
       ·cases ei:es[es0.length - 1 - i]? with
        |none=>rw[show nxt (.rev n es0.length) i M'=none by simp only[nxt,em,if_pos hi,ei]];exact True.intro
        |some d=>
         rw[show nxt (.rev n es0.length) i M'=some (some d) by simp only[nxt,em,if_pos hi,ei]]
         obtain ⟨v,k1,k2⟩:=g2.get ei
         refine ⟨⟨hi,xs,v,SqL.of g1,k1⟩,fun x H'' y=> ?_⟩
         obtain ⟨ey,y⟩:=y
         subst ey
         have z:=y xs (SqL.of g1)
         rw[k1] at z
         cases z
         exact ⟨Ext.refl,hr,k2⟩
       ·by_cases he:i=es0.length
        ·rw[show nxt (.rev n es0.length) i M'=some none by simp only[nxt,em,if_neg hi,if_pos he]]
         exact he
        ·rw[show nxt (.rev n es0.length) i M'=none by simp only[nxt,em,if_neg hi,if_neg he]]
         exact True.intro
  |_=>exact w1.elim
end
end DL
end
section
namespace DL
open PySem PySem.Spec PyProof.Rows L2
section
variable {X:Cx} {ξ:XK} {e e1 e2:Expr} {es:List Expr} {f:Ev} {pos:Pos}
noncomputable def eFm (f:Ev):Ev:=fun ρ M=>(f ρ M).bind fun x M1=>match x with
 | .int i=>if i.natAbs.log2 < 1900 then .ok (.str (Str.ofString (toString i))) M1 else .bad
 | .str y=>if y.length<=100000 then .ok (.str y) M1 else .bad
 |_=> .bad
theorem Zpk (ha:DE X ξ e f):DE X ξ (.FormattedValue e (-1) none pos) (eFm f):=by
 obtain ⟨ta,pa,qa⟩:=ha
 refine ⟨fun σ H Q=>ta σ H fun x H1=>(∃ i,x= .int i/\i.natAbs.log2 < 1900/\Q (.str (Str.ofString (toString i))) H1)\/ ∃ y,x= .str y/\y.length<=100000/\Q (.str y) H1,fun pins s σ H Q I h=> ?_,fun σ ρ H α M Q s h q=> ?_⟩
 ·refine wpAny_FormattedValue_plain (wpAny_mono (pa pins s σ H _ I h) (fun v s1 ⟨x,H1,I1,r1,q1⟩=> ?_) fun _ _ z=>z)
  rcases q1 with ⟨i,rfl,hi,q⟩ | ⟨y,rfl,hy,q⟩
  ·obtain ⟨t,rfl⟩:=r1
   exact wpAny_formatField_int (by omega) ⟨.str (Str.ofString (toString i)),H1,I1.tok _,⟨_,rfl⟩,q⟩
  ·obtain ⟨t,rfl⟩:=r1
   exact wpAny_formatField_str ⟨.str y,H1,I1,⟨_,rfl⟩,q⟩ ⟨.str y,H1,I1.tok _,⟨_,rfl⟩,q⟩ (Nat.le_trans hy (by rw[sizeLine_eq];decide))
 ·refine qa σ ρ H α M _ s h (OG.seq q fun x M1 v H1 α1 e1 h1 r1 q1=> ?_)
  cases r1 with
  |int i=>
   by_cases hi:i.natAbs.log2 < 1900
   ·simp only[hi,if_true] at q1
    exact .inl ⟨i,rfl,hi,q1 _ H1 α1 Ext.refl h1 (.str _)⟩
   ·simp only[hi,if_false] at q1
    exact q1.elim
  |str y=>
   by_cases hi:y.length<=100000
   ·simp only[hi,if_true] at q1
    exact .inr ⟨y,rfl,hi,q1 _ H1 α1 Ext.refl h1 (.str _)⟩
   ·simp only[hi,if_false] at q1
    exact q1.elim
  |_=>exact q1.elim
noncomputable abbrev Jv:=Str->Ro->Sto->Out Str
noncomputable def PJ (X:Cx) (es:List Expr) (t:L2.St->Hp->Str->(Str->Hp->Prop)->Prop):Prop:=
 ∀ (pins:List (Addr × Obj)) (s:Shared) (σ:L2.St) (H:Hp) (acc:Str) (Q:Str->Hp->Prop),Inv X pins σ H s->t σ H acc Q->Joins (model X.prog X.w) X.A X.xe (evalEach es X.env) acc (fun out s1=>out.length<=100000/\ ∃ H',Inv X pins σ H' s1/\Q out H') s
noncomputable def DJ (X:Cx) (ξ:XK) (es:List Expr) (g:Jv):Prop:= ∃ t,PJ X es t/\ ∀ σ ρ H α M acc (Q:Str->Hp->Prop),SR X.K H α σ ρ->HR X.K H α M->OG X.K (fun _ _ v d=>v=d) H α ξ Q (g acc ρ M)->t σ H acc Q
noncomputable def jNil:Jv:=fun acc _ M=>if acc.length<=100000 then .ok acc M else .bad
noncomputable def Zdg (f:Ev) (g:Jv):Jv:=fun acc ρ M=>(f ρ M).bind fun x M1=>match x with
 | .str y=>if (acc ++ y).length<=100000 then g (acc ++ y) ρ M1 else .bad
 |_=> .bad
noncomputable def eFs (g:Jv):Ev:=fun ρ M=>(g Str.empty ρ M).bind fun x M1=> .ok (.str x) M1
theorem ZmP:DJ X ξ [] jNil:=by
 refine ⟨fun σ H acc Q=>acc.length<=100000/\Q acc H,fun pins s σ H acc Q I h=>⟨h.1,H,I,h.2⟩,fun σ ρ H α M acc Q s h q=> ?_⟩
 unfold jNil at q
 by_cases hl:acc.length<=100000
 ·rw[if_pos hl] at q
  exact ⟨hl,q acc H α Ext.refl h rfl⟩
 ·rw[if_neg hl] at q
  exact q.elim
theorem Zfb {g:Jv} (ha:DE X ξ e f) (hr:DJ X ξ es g):DJ X ξ (e :: es) (Zdg f g):=by
 obtain ⟨ta,pa,qa⟩:=ha
 obtain ⟨tr,pr',qr⟩:=hr
 refine ⟨fun σ H acc Q=>ta σ H fun x H1=> ∃ y,x= .str y/\(acc ++ y).length<=100000/\tr σ H1 (acc ++ y) Q,fun pins s σ H acc Q I h=> ?_,fun σ ρ H α M acc Q s h q=> ?_⟩
 ·show wpAny _ _ (eval e X.env) _ _ s
  refine wpAny_mono (pa pins s σ H _ I h) (fun v s1 ⟨x,H1,I1,r1,q1⟩=> ?_) fun _ _ z=>z
  obtain ⟨y,rfl,hy,q⟩:=q1
  obtain ⟨t,rfl⟩:=r1
  exact ⟨y,t,rfl,Nat.le_trans hy (by rw[sizeLine_eq];decide),pr' pins s1 σ H1 (acc ++ y) Q I1 q⟩
 ·refine qa σ ρ H α M _ s h (OG.seq q fun x M1 v H1 α1 e1 h1 r1 q1=> ?_)
  cases r1 with
  |str y=>
   by_cases hi:(acc ++ y).length<=100000
   ·simp only[hi,if_true] at q1
    exact ⟨y,rfl,hi,qr σ ρ H1 α1 M1 (acc ++ y) Q (s.mono e1) h1 q1⟩
   ·simp only[hi,if_false] at q1
    exact q1.elim
  |_=>exact q1.elim
theorem Zpl {g:Jv} (h:DJ X ξ (e1 :: e2 :: es) g):DE X ξ (.JoinedStr (e1 :: e2 :: es) pos) (eFs g):=by
 obtain ⟨t,pj,qj⟩:=h
 refine ⟨fun σ H Q=>t σ H Str.empty fun x H1=>Q (.str x) H1,fun pins s σ H Q I h=> ?_,fun σ ρ H α M Q s h q=> ?_⟩
 ·refine wpAny_JoinedStr ?_
  have:=pj pins s σ H Str.empty _ I h
  have mono: ∀ (ms:List (Sem Value)) (acc:Str) (P R:Str->Shared->Prop) (s:Shared),(∀ o s,P o s->R o s)->Joins (model X.prog X.w) X.A X.xe ms acc P s->Joins (model X.prog X.w) X.A X.xe ms acc R s:=by
   intro ms
   induction ms with
   |nil=>intro acc P R s hp hj;exact hp _ _ hj
   |cons m r ih=>
    intro acc P R s hp hj
    exact wpAny_mono hj (fun v s1 ⟨y,t,e,l,k⟩=>⟨y,t,e,l,ih _ P R s1 hp k⟩) fun _ _ z=>z
  refine mono _ _ _ _ s (fun o s1 ⟨hl,H',I',q⟩=> ?_) this
  exact ⟨Nat.le_trans hl (by rw[sizeLine_eq];decide),.str o,H',I'.tok _,⟨_,rfl⟩,q⟩
 ·refine qj σ ρ H α M Str.empty _ s h (OG.seq q fun x M1 v H1 α1 e1 h1 r1 q1=> ?_)
  cases r1
  exact q1 _ H1 α1 Ext.refl h1 (.str x)
end
end DL
end
section
namespace DL
open PySem PySem.Spec PyProof.Rows L2
theorem Zgi {β γ:Type} {o:Out β} {f:β->Sto->Out γ} {g:γ->Sto->Fl}:ZaR (o.bind f) g=ZaR o fun x M=>ZaR (f x M) g:=by cases o<;>rfl
section
variable {X:Cx} {ξ:XK} {tg iter elt:Expr} {ifs:List Expr} {scope:Scope} {cl:List (Str × Addr)} {N:List Str} {k:Nat} {fr:List Nat} {fi:Ro->Sto->Out Src} {gt:Tg} {c:Tv} {f:Ev} {pos:Pos}
theorem Zfc (iv:Nat) {x:Str} {pos' spos:Pos} (hN:X.N.Nodup) (B:Blk X scope cl N k fr) (hi:DI X ξ tg iter fi) (hg: ∀ C fp s H,DG (blk X scope cl N C fp s H) tg gt) (ht: ∀ C fp s H,DC (blk X scope cl N C fp s H) ifs c) (he: ∀ C fp s H,DE (blk X scope cl N C fp s H) E0 elt f)
  (hiv:X.N[iv]?=some x:=by rfl) (hxl:Loc X.env.scope x:=by first | exact Or.inl rfl | exact Or.inr rfl) (hsw:swapsWith (.ListComp elt [⟨tg,iter,ifs,0⟩] scope pos) (some (.Name x pos')) spos.line X.env=pure true:=by rfl) (hf:X.fn x=true\/X.env.scope.names.lookup x=some .local:=by first | exact .inl rfl | exact .inr rfl | assumption)
  (hs: ∀ x,foldedSetIterable iter X.env x=pure x:=by intro _;rfl):DS X ξ (.Assign [.Name x pos'] (.ListComp elt [⟨tg,iter,ifs,0⟩] scope pos) spos) (ZB (gNm iv) (ZaW fi k fr gt c f)):=by
 obtain ⟨wi,pi,qi⟩:=hi
 refine ⟨fun Dn σ H=> ∃ ρ α M,SR X.K H α σ ρ/\HR X.K H α M/\FP X.K H α ξ Dn (ZB (gNm iv) (ZaW fi k fr gt c f) ρ M),?_,fun σ ρ H α M Dn s h q=>⟨ρ,α,M,s,h,q⟩⟩
 rintro pins s σ H Dn I ⟨ρ,α,M,sr,hr,op⟩
 rw[exec_Assign_Name_used _ _ _ _ hsw]
 refine wpAny_bind (wpAny_standAt (wpAny_bind ?_))
 show wpAny _ X.A (do let _ <- comprehension (.ListComp elt [⟨tg,iter,ifs,0⟩] scope pos) scope X.env _ (newList []) false (eval iter X.env) (some (assign (.Name x pos') X.env))) _ _ s
 have op:FP X.K H α ξ Dn (ZaR (fi ρ M) fun src M1=>ZaR (match ZcB src gt c f M1.length (cnt src M1) 0 (roB k fr ρ) (M1 ++ [.lst []]) with | .ok _ M2'=> .ok (.ref M1.length) M2' | _=> .bad) fun d M1=>Fl.nx (ρ.set iv (some d)) M1):=by
  have e:ZB (gNm iv) (ZaW fi k fr gt c f) ρ M=(ZaR (fi ρ M) fun src M1=>ZaR (match ZcB src gt c f M1.length (cnt src M1) 0 (roB k fr ρ) (M1 ++ [.lst []]) with | .ok _ M2'=> .ok (.ref M1.length) M2' | _=> .bad) fun d M1=>Fl.nx (ρ.set iv (some d)) M1):=by
   unfold ZB ZaW
   rw[Zgi]
   rfl
  rw[<- e]
  exact op
 refine wpAny_bind (wpAny_mono (wpAny_comprehension_free (Q:=fun _ s'=>SP X pins Dn .next s') (use:=some (assign (.Name x pos') X.env)) rfl hs B.clos B.kind B.names ?_) (fun _ s' hq=>wpAny_pure (wpAny_pure hq)) fun _ _ e=>e)
 refine thn (pi pins s σ H (fun J H2=> ∃ α2 M2 src,Ext X.K H H2 α α2/\HR X.K H2 α2 M2/\Zmx X.K H2 α2 J src/\FP X.K H2 α2 ξ Dn (ZaR (match ZcB src gt c f M2.length (cnt src M2) 0 (roB k fr ρ) (M2 ++ [.lst []]) with | .ok _ M2'=> .ok (.ref M2.length) M2' | _=> .bad) fun d M1=>Fl.nx (ρ.set iv (some d)) M1)) I
  (qi σ ρ H α M _ sr hr (FP.seq op fun src M1 J H1 α1 e1 h1 r1 q1=>⟨α1,M1,src,e1,h1,r1,q1⟩))) fun v s1 w1=>thn w1 fun itv s2 w2=> ?_
 obtain ⟨it,fp,tn,J,H2,rfl,I2,T,st2,f2,α2,M2,src,e2,h2,sc,op2⟩:=w2
 have srI:=sr.mono e2
 refine wpAny_newObj_type ?_
 have I3:Inv X pins σ (upd H2 s2.heap.objs.size (.lst [])) { s2 with heap:=s2.heap.push { cls:= .type "list",data:= .seq ([]:List Value).toArray } }:=I2.lnew (its:=[]) (t':=s2.toks) .nil (Nat.zero_le _)
 have fD:H2 s2.heap.objs.size=none:=I2.fresh
 generalize hD:s2.heap.objs.size=D at I3 fD
 generalize hs3:({ s2 with heap:=s2.heap.push { cls:= .type "list",data:= .seq ([]:List Value).toArray } }:Shared)=s3 at I3
 generalize hH3:upd H2 D (.lst [])=H3 at I3
 have h3:HR X.K H3 (α2 ++ [D]) (M2 ++ [.lst []]):=by rw[<- hH3];exact h2.new fD .nil
 have e3:Ext X.K H2 H3 α2 (α2 ++ [D]):=by rw[<- hH3];exact Ext.new fD
 have aD:RefK H3 (α2 ++ [D]) 0 M2.length D:=⟨h2.last D,by first | exact Kn.lst Zr | (rw[<- hH3];exact Kn.lst Zr)⟩
 have lt2: ∀ b∈fp,b < s2.heap.objs.size:=fun b hb=>let ⟨o,e,_⟩:=T.obj _ _ st2 b hb;Heap.lt_size e
 have keep3: ∀ b o,s2.heap.get? b=some o->s3.heap.get? b=some o:=fun b o e=>by rw[<- hs3];exact Heap.get?_push_of_some _ e
 have f3: ∀ b∈fp,Zd9 X pins H3 b:=fun b hb=>⟨by rw[<- hH3,ZI (by rw[<- hD];exact Nat.ne_of_lt (lt2 b hb))];exact (f2 b hb).1,(f2 b hb).2⟩
 have lt3: ∀ b∈fp,b < s3.heap.objs.size:=fun b hb=>let ⟨o,e,_⟩:=T.obj _ _ st2 b hb;Heap.lt_size (keep3 b o e)
 have st3:tn 0 s3.heap:=T.keep _ _ _ st2 fun b _ o e=>keep3 b o e
 refine wpAny_newFunctionEnv B.cell (by intro y hy;simp at hy) (fun h₁ hns₁ hsb₁=> ?_) B.kind
 have keep4: ∀ b o,s3.heap.get? b=some o->h₁.get? b=some o:=fun b o e=>hsb₁.extBut b o (Nat.ne_of_lt (Heap.lt_size e)) (Heap.get?_push_of_some _ e)
 have I4:=Ze4 (tk:=s3.toks + ([]:List (Str × Value)).length) B I3 f3 lt3 hns₁ keep4
 have st4:tn 0 h₁:=T.keep _ _ _ st3 fun b _ o e=>keep4 b o e
 generalize hX:blk X scope cl N s3.heap.objs.size fp s3 H3=Y at I4
 have YK:Y.K=X.K:=by rw[<- hX];rfl
 have Yp:Y.prog=X.prog:=by rw[<- hX];rfl
 have Yw:Y.w=X.w:=by rw[<- hX];rfl
 have YA:Y.A=X.A:=by rw[<- hX];rfl
 have Ye:Y.env=compEnvC scope cl s3.heap.objs.size X.env:=by rw[<- hX];rfl
 obtain ⟨tt,pt,qt⟩:=hg s3.heap.objs.size fp s3 H3
 obtain ⟨te,pe,qe⟩:=he s3.heap.objs.size fp s3 H3
 have tst:=ht s3.heap.objs.size fp s3 H3
 rw[hX] at pt qt pe qe tst
 cases er:ZcB src gt c f M2.length (cnt src M2) 0 (roB k fr ρ) (M2 ++ [.lst []]) with
 |exc x M9=>rw[er] at op2;exact op2.elim
 |bad=>rw[er] at op2;exact op2.elim
 |ok u9 M9=>
  rw[er] at op2
  have loop:codeAny (model X.prog X.w) X.A (.compLoop (.ListComp elt [⟨tg,iter,ifs,0⟩] scope pos) 0 (.ref it) (.ref D) (compEnvC scope cl s3.heap.objs.size X.env)) (compPost (model X.prog X.w) X.A X.xe (some (assign (.Name x pos') X.env)) (fun _ s'=>SP X pins Dn .next s') (.ref D) s3.heap.objs.size) { s3 with heap:=h₁,toks:=s3.toks + ([]:List (Str × Value)).length }:=by
   refine Zcx (fun n s'=> ∃ i σ' ρ' H' α' M',Inv Y [] σ' H' s'/\tn i s'.heap/\(∀ b∈fp,H' b=none)/\SR X.K H' α' σ' ρ'/\HR X.K H' α' M'/\Ext X.K H3 H' (α2 ++ [D]) α'/\ZcB src gt c f M2.length n i ρ' M'= .ok u9 M9) ?_ (cnt src M2)
    ⟨0,stB k fr σ,roB k fr ρ,H3,α2 ++ [D],M2 ++ [.lst []],I4,st4,fun b hb=>(f3 b hb).1,(srI.blk).mono e3,h3,Ext.refl,er⟩
   rintro n s5 ⟨i,σ5,ρ5,H5,α5,M5,I5,st5,fr5,sr5,hr5,ex5,en⟩
   have fp5: ∀ {H':Hp},(∀ b∈fp,H' b=none)-> ∀ b∈fp,Zd9 Y [] H' b:=fun hn b hb=>⟨hn b hb,by rw[Ye];exact Nat.ne_of_lt (lt3 b hb),by
    have:=(ZfL B I3 f3 lt3).exfs b hb
    rw[hX] at this;exact this,.inl (by rw[<- hX];exact hb),fun x c h=>(by rw[Ye] at h;exact (f3 b hb).2.2.2.2.1 x c (B.sub x c h)),fun p hp=>(by rw[<- hX] at hp;simp[blk] at hp)⟩
   have src5:=sc i H5 α5 M5 (e3.trans ex5) hr5
   rw[ZcB] at en
   cases ex:nxt src i M5 with
   |none=>rw[ex] at en;cases en
   |some od=>
    rw[ex] at src5 en
    cases od with
    |none=>
     cases en
     have fin:=T.done Y Yp Yw YK YA i [] s5 σ5 H5 (fun _ _=>False) I5 (fp5 fr5) st5 src5
     rw[YA] at fin
     refine thn fin fun r s6 ⟨hr6,I6⟩=> ?_
     subst hr6
     obtain ⟨m6,hm6,_⟩:=id I6.loc
     rw[Ye] at hm6
     have un:=I6.base
     have hok6:=I6.hok
     have I7:Inv X pins σ H5 s6:=by
      refine I3.call' (s':=s6) (ch:=fp) ?_ ?_ ?_ I6.bare fun b hb=> ?_
      ·have:=I6.os
       rw[this,<- hX];rfl
      ·rw[<- hX] at un
       exact un
      ·rw[Yp,Yw] at hok6
       exact hok6
      ·obtain ⟨_,z1,z2,z3,z4,z5⟩:=f3 b hb
       exact ⟨z3,z1,z4,z5⟩
     have hC:H5 s3.heap.objs.size=none:=by have:=I6.free;rw[Ye] at this;exact this
     refine wpAny_assign_Name (Zd8 (v:= .ref D) I7 hN hiv hxl rfl (fun s8 I8 ⟨a,sb8,ha⟩=> ?_) hf)
     have nca:s3.heap.objs.size≠a:=by
      rcases ha with e | e
      ·rw[e];exact Nat.ne_of_gt I3.lt
      ·intro z
       obtain ⟨v,o,e',_⟩:=I3.cell x a e
       exact absurd (Heap.lt_size e') (by rw[<- z];exact Nat.lt_irrefl _)
     refine ⟨m6,hm6.sameBut sb8 nca,fun h' sb=> ?_⟩
     have I9:Inv X pins (σ.set iv (some (.ref D))) H5 { s8 with heap:=h',toks:=s8.toks }:=I8.turned (it:=s3.heap.objs.size) (fun b o hb e=>(sb.2 b hb).trans e) hC (Nat.ne_of_gt I3.lt) (.inr I3.sz)
      (fun x c h z=>by
       obtain ⟨v,o,e,_⟩:=I3.cell x c h
       exact absurd (Heap.lt_size e) (by rw[z];exact Nat.lt_irrefl _)) (fun p hp z=>by
       have:=(I3.pin p hp).1
       exact absurd (Heap.lt_size this) (by rw[z];exact Nat.lt_irrefl _))
     exact ⟨_,H5,I9,op2 _ H5 α5 (e3.trans ex5) hr5 ((srI.mono (e3.trans ex5)).set iv (.ref (ex5.get aD)))⟩
    |some d=>
     obtain ⟨go,yl⟩:=src5
     cases n with
     |zero=>cases en
     |succ n=>
      simp only at en
      have itm:=T.item Y Yp Yw YK YA i [] s5 σ5 H5 (fun _ _=>False) I5 (fp5 fr5) st5 go
      rw[YA] at itm
      refine thn itm fun r s6 ⟨u,hr6,w6⟩=> ?_
      subst hr6
      refine thn w6 fun _ s7 ⟨x,H7,I7,r7,y7,st7,fr7⟩=> ?_
      obtain ⟨ex7,hr7,rp7⟩:=yl x H7 y7
      have sr5:=sr5.mono ex7
      have hr5:=hr7
      have ex5:=ex5.trans ex7
      have I7':=I7.pinned (fp5 fr7) (T.obj _ _ st7)
      cases eg:gt d ρ5 with
      |none=>rw[eg] at en;cases en
      |some ρ6=>
       rw[eg] at en
       simp only at en
       have asg:=pt _ s7 σ5 H7 x u _ I7' r7 (qt x d σ5 ρ5 H7 α5 ρ6 (fun σ' H'=>H'=H7/\SR X.K H7 α5 σ' ρ6) (by rw[YK];exact sr5) (by rw[YK];exact rp7) eg fun σ' s'=>⟨rfl,by rw[YK] at s';exact s'⟩)
       rw[Yp,Yw,YA,Ye] at asg
       refine wpAny_mono asg (fun _ s8 ⟨σ8,H8,I8,z8,sr8⟩=> ?_) (fun _ _ z=>by rw[<- hX] at z;exact z)
       subst z8
       have again: ∀ {σ9:L2.St} {H9:Hp} {s9:Shared},Inv Y ([] ++ Zbz fp s7.heap) σ9 H9 s9->Inv Y [] σ9 H9 s9/\tn (i + 1) s9.heap/\ ∀ b∈fp,H9 b=none:=fun {σ9 H9 s9} I9=>by
        refine ⟨I9.unpinned,T.keep _ _ _ st7 fun b hb o e=>(I9.pin (b,o) (List.mem_append_right _ (List.mem_append_right _ (Z8 hb e)))).1,fun b hb=> ?_⟩
        obtain ⟨o,e,_⟩:=T.obj _ _ st7 b hb
        exact (I9.pin (b,o) (List.mem_append_right _ (List.mem_append_right _ (Z8 hb e)))).2.1
       have after: ∀ (kk:Bool) (M8:Sto) (H9:Hp) (α9:List Addr) (s9:Shared),Inv Y ([] ++ Zbz fp s7.heap) σ8 H9 s9->Ext X.K H8 H9 α5 α9->HR X.K H9 α9 M8->c ρ6 M5= .ok kk M8->
         (if kk=true then wpAny (model X.prog X.w) X.A (eval elt (compEnvC scope cl s3.heap.objs.size X.env)) (fun x s₄=>wpAny (model X.prog X.w) X.A (call (.builtin "list.append") [.ref D,x]) (fun _ s₅=> ∃ m,m < n + 1/\ ∃ i σ' ρ' H' α' M',Inv Y [] σ' H' s₅/\tn i s₅.heap/\(∀ b∈fp,H' b=none)/\SR X.K H' α' σ' ρ'/\HR X.K H' α' M'/\Ext X.K H3 H' (α2 ++ [D]) α'/\ZcB src gt c f M2.length m i ρ' M'= .ok u9 M9) (fun _ _=>False) s₄) (fun _ _=>False) s9
          else ∃ m,m < n + 1/\ ∃ i σ' ρ' H' α' M',Inv Y [] σ' H' s9/\tn i s9.heap/\(∀ b∈fp,H' b=none)/\SR X.K H' α' σ' ρ'/\HR X.K H' α' M'/\Ext X.K H3 H' (α2 ++ [D]) α'/\ZcB src gt c f M2.length m i ρ' M'= .ok u9 M9):=by
        intro kk M8 H9 α9 s9 I9 ex9 hr9 ec
        rw[ec] at en
        cases kk with
        |false=>
         obtain ⟨a1,a2,a3⟩:=again I9
         exact Zjm ⟨n,Nat.lt_succ_self n,i + 1,σ8,ρ6,H9,α9,M8,a1,a2,a3,sr8.mono ex9,hr9,ex5.trans ex9,en⟩
        |true=>
         simp only at en
         refine Zjn ?_
         cases ef:f ρ6 M8 with
         |exc x9 M10=>rw[ef] at en;cases en
         |bad=>rw[ef] at en;cases en
         |ok y M10=>
          rw[ef] at en
          simp only at en
          have ev:=pe _ s9 σ8 H9 (fun v H'=> ∃ α',Ext X.K H9 H' α9 α'/\HR X.K H' α' M10/\Rep X.K H' α' v y) I9 (qe σ8 ρ6 H9 α9 M8 _ (by rw[YK];exact sr8.mono ex9) (by rw[YK];exact hr9) (by
           rw[ef,YK]
           exact fun v H' α' e h r=>⟨α',e,h,r⟩))
          rw[Yp,Yw,YA,Ye] at ev
          refine wpAny_mono ev (fun yv s10 ⟨v,H10,I10,r10,α10,ex10,hr10,rp10⟩=> ?_) (fun _ _ z=>by rw[<- hX] at z;exact z)
          cases em:M10[M2.length]? with
          |none=>rw[em] at en;cases en
          |some so=>
           cases so with
           |lst ds=>
            rw[em] at en
            simp only at en
            by_cases cz:ds.length < 10000000
            ·rw[if_pos cz] at en
             have aD10:=ex10.get (ex9.get (ex5.get aD))
             obtain ⟨xs,g1,g2⟩:=hr10.at aD10 em
             have ap:=ZcM (X:=Y) _ s10 σ8 H10 (.ref D) [v] (.ref D) [yv] (fun _ H'=>H'=upd H10 D (.lst (xs ++ [v]))) I10 rfl (.cons r10 .nil) ⟨D,xs,v,rfl,rfl,g1,by rw[g2.length];exact Nat.lt_of_lt_of_le cz (by decide),rfl⟩
             rw[Yp,Yw,YA] at ap
             refine wpAny_mono ap (fun _ s11 ⟨v11,H11,I11,_,z11⟩=> ?_) (fun _ _ z=>by rw[<- hX] at z;exact z)
             subst z11
             obtain ⟨a1,a2,a3⟩:=again I11
             have exw:Ext X.K H10 (upd H10 D (.lst (xs ++ [v]))) α10 α10:=Ext.wr g1
             exact ⟨n,Nat.lt_succ_self n,i + 1,σ8,ρ6,_,α10,_,a1,a2,a3,((sr8.mono ex9).mono ex10).mono exw,hr10.wr aD10 g1 (g2.append (.cons rp10 .nil)),((ex5.trans ex9).trans ex10).trans exw,en⟩
            ·rw[if_neg cz] at en
             cases en
       rcases tst with ⟨rfl,ec⟩ | ⟨e,rfl,tt',ptt,qtt⟩
       ·refine wpAny_tests_nil ?_
        exact after true M5 H8 α5 s8 I8 Ext.refl hr5 (by rw[ec])
       ·refine wpAny_tests_one ?_
        cases ec:c ρ6 M5 with
        |exc x9 M10=>rw[ec] at en;cases en
        |bad=>rw[ec] at en;cases en
        |ok kk M8=>
         have tv':=ptt _ s8 σ8 H8 (fun b H'=>b=kk/\ ∃ α',Ext X.K H8 H' α5 α'/\HR X.K H' α' M8) I8 (qtt σ8 ρ6 H8 α5 M5 _ (by rw[YK];exact sr8) (by rw[YK];exact hr5) (by
          rw[ec,YK]
          exact fun v H' α' e h r=>⟨r,α',e,h⟩))
         rw[Yp,Yw,YA,Ye] at tv'
         refine wpAny_mono tv' (fun b s9 ⟨H9,I9,zb,α9,ex9,hr9⟩=> ?_) (fun _ _ z=>by rw[<- hX] at z;exact z)
         subst zb
         exact after b M8 H9 α9 s9 I9 ex9 hr9 ec
  exact codeAny_compStart_list loop (T.self X.A 0 _ _ _ st4 loop)
end
end DL
end
section
namespace DL
open PySem PySem.Spec PyProof.Rows L2
noncomputable def Zsv:Bo:=fun x y M=>match x,y with
 | .ref n,.int k=>match M[n]? with
  |some (.lst xs)=>if (-9223372036854775808<=k/\k < 9223372036854775808)/\xs.length * k.toNat<=100000 then .ok (.ref M.length) (M ++ [.lst (List.replicate k.toNat xs).flatten]) else .bad
  |none=> .bad
 |_,_=> .bad
section
variable {X:Cx} {ξ:XK} {a b:Expr} {fa fb:Ev} {pos:Pos}
end
end DL
end
namespace DL
open PySem PySem.Spec L2
open PySem.W
section
variable {prog:Program} {w:World} {A:Around} {E:Value->Shared->Prop} {s:Shared}
end
section
variable {prog:Program} {w:World} {A:Around} {s:Shared} {R:Result->Shared->Prop}
variable {I:Addr} {fp wr:List Addr} {G:Array GenState->Array GenState->Prop} {n:Nat} {P:Nat->Value->Prop} {St:Nat->Shared->Prop}
end
section
variable {prog:Program} {w:World} {A:Around} {E:Value->Shared->Prop} {s:Shared}
variable {I:Addr} {fp wr:List Addr} {G:Array GenState->Array GenState->Prop} {n:Nat} {P:Nat->Value->Prop} {St:Nat->Shared->Prop}
end
section
variable {X:Cx} {ξ:XK} {a:Expr} {fs:Av} {p1 p2 p3 pos:Pos} {ta:TA}
end
end DL
section
namespace DL3
open PySem PySem.Spec PyProof.Rows L2 DL
open Sem (wp)
structure Ap (z TI TO i1 i2 i3 l1 l2 l3:Addr):Prop where
 z_TI:z≠TI
 z_TO:z≠TO
 z_i1:z≠i1
 z_i2:z≠i2
 z_i3:z≠i3
 TI_TO:TI≠TO
 TI_i1:TI≠i1
 TI_i2:TI≠i2
 TI_i3:TI≠i3
 TO_i1:TO≠i1
 TO_i2:TO≠i2
 TO_i3:TO≠i3
 i1_i2:i1≠i2
 i1_i3:i1≠i3
 i2_i3:i2≠i3
 l1_z:l1≠z
 l1_TO:l1≠TO
 l1_i1:l1≠i1
 l1_i2:l1≠i2
 l1_i3:l1≠i3
 l2_z:l2≠z
 l2_TO:l2≠TO
 l2_i1:l2≠i1
 l2_i2:l2≠i2
 l2_i3:l2≠i3
 l3_z:l3≠z
 l3_TO:l3≠TO
 l3_i1:l3≠i1
 l3_i2:l3≠i2
 l3_i3:l3≠i3
noncomputable abbrev Zce (h:Heap) (T:Addr) (vs:List Value):Prop:=h.get? T=some { cls:= .type "tuple",data:= .seq vs.toArray }
section
variable {prog:Program} {w:World} {A:Around} {E:Value->Shared->Prop} {s:Shared}
theorem Zeu {T:Addr} {a1 a2 a3 x:Value} {k:Nat} {Q:Unit->Shared->Prop} (hT:Zce s.heap T [a1,a2,a3])
  (h: ∀ h',Zce h' T ([a1,a2,a3].set k x)->Heap.SameBut T s.heap h'->Q () { s with heap:=h' }):
  wpAny (model prog w) A (updateSeq T (·.setIfInBounds k x)) Q E s:=by
 refine wpAny_updateSeq hT rfl (h _ ?_ (Heap.SameBut.update ..))
 show _=_
 rw[Heap.get?_update_self _ hT rfl]
 simp[Obj.mapSeq]
theorem ZhF {z TI TO i1 i2 i3 l1 l2 l3:Addr} {k:Nat} {xs1 xs2 xs3:Array Value} {x1 x2 x3 a1 a2 a3:Value} {Q:Value->Shared->Prop} (D:Ap z TI TO i1 i2 i3 l1 l2 l3) (hz:IsZip s.heap z TI TO .none) (hTI:Zce s.heap TI [.ref i1,.ref i2,.ref i3]) (hTO:Zce s.heap TO [a1,a2,a3]) (h1:s.heap.IsListIter i1 l1 k) (h2:s.heap.IsListIter i2 l2 k) (h3:s.heap.IsListIter i3 l3 k) (hl1:s.heap.IsList l1 xs1) (hl2:s.heap.IsList l2 xs2) (hl3:s.heap.IsList l3 xs3) (e1:xs1[k]?=some x1) (e2:xs2[k]?=some x2) (e3:xs3[k]?=some x3)
  (hQ: ∀ h',IsZip h' z TI TO (rawInt s.heap.objs.size)->Zce h' TO [x1,x2,x3]->h'.IsListIter i1 l1 (k + 1)->h'.IsListIter i2 l2 (k + 1)->h'.IsListIter i3 l3 (k + 1)->Zce h' s.heap.objs.size [x1,x2,x3]->h'.objs.size=s.heap.objs.size + 1->(∀ c o,c≠z->c≠TO->c≠i1->c≠i2->c≠i3->s.heap.get? c=some o->h'.get? c=some o)->Q (.ref s.heap.objs.size) { s with heap:=h' }):
  wpAny (model prog w) A (Builtin.«zip.__next__» ⟨[.ref z],[]⟩) (fun fin s'=> ∃ v,fin= .done (.ret v)/\Q v s') E s:=by
 show wpAny _ _ (field (.ref z) 2 >>= _) _ _ _
 refine wpAny_bind (wpAny_field hz rfl (x:= .bool false) rfl ?_)
 show wpAny _ _ (field (.ref z) 3 >>= _) _ _ _
 refine wpAny_bind (wpAny_field hz rfl (x:= .ref TI) rfl ?_)
 refine wpAny_bind (wpAny_seqItems hTI rfl ?_)
 show wpAny _ _ (Builtin.SmallTypes.ownedTupleIsFree (.ref z) >>= _) _ _ _
 refine wpAny_bind ?_
 unfold Builtin.SmallTypes.ownedTupleIsFree
 refine wpAny_bind (wpAny_field hz rfl (x:= .none) rfl (wpAny_pure ?_))
 simp only[if_true]
 refine wpAny_bind (wpAny_rule ?_)
 refine wpAny_bind (wpAny_field hz rfl (x:= .ref TO) rfl ?_)
 refine wpAny_bind (wpAny_setField_rec hz (by simp) fun g1 hz1 hs1=> ?_)
 replace hz1:IsZip g1 z TI TO .ellipsis:=hz1
 refine wpAny_bind ?_
 simp only[List.zipIdx_cons,List.zipIdx_nil,List.forIn_cons,List.forIn_nil]
 refine wpAny_bind (wpAny_bind (wpAny_onRaise ?_))
 show wpAny _ _ (Builtin.SmallTypes.nextOf (.ref i1) >>= _) _ _ _
 refine wpAny_bind (wpAny_nextOf_list_item ((h1).extBut hs1.extBut D.z_i1.symm) ((hl1).extBut hs1.extBut D.l1_z) e1 fun g2 it1 hs2=>wpAny_pure ?_)
 have to2:Zce g2 TO [a1,a2,a3]:=hs2.extBut _ _ D.TO_i1 (hs1.extBut _ _ D.z_TO.symm (hTO))
 refine wpAny_bind (wpAny_seqItems to2 rfl ?_)
 refine wpAny_bind (Zeu to2 fun g3 to3 hs3=> ?_)
 replace to3:Zce g3 TO [x1,a2,a3]:=to3
 refine wpAny_bind (wpAny_letGo (wpAny_pure ?_))
 refine wpAny_bind (wpAny_bind (wpAny_onRaise ?_))
 show wpAny _ _ (Builtin.SmallTypes.nextOf (.ref i2) >>= _) _ _ _
 refine wpAny_bind (wpAny_nextOf_list_item ((((h2).extBut hs1.extBut D.z_i2.symm).extBut hs2.extBut D.i1_i2.symm).extBut hs3.extBut D.TO_i2.symm) ((((hl2).extBut hs1.extBut D.l2_z).extBut hs2.extBut D.l2_i1).extBut hs3.extBut D.l2_TO) e2 fun g4 it2 hs4=>wpAny_pure ?_)
 have to4:Zce g4 TO [x1,a2,a3]:=hs4.extBut _ _ D.TO_i2 (to3)
 refine wpAny_bind (wpAny_seqItems to4 rfl ?_)
 refine wpAny_bind (Zeu to4 fun g5 to5 hs5=> ?_)
 replace to5:Zce g5 TO [x1,x2,a3]:=to5
 refine wpAny_bind (wpAny_letGo (wpAny_pure ?_))
 refine wpAny_bind (wpAny_bind (wpAny_onRaise ?_))
 show wpAny _ _ (Builtin.SmallTypes.nextOf (.ref i3) >>= _) _ _ _
 refine wpAny_bind (wpAny_nextOf_list_item ((((((h3).extBut hs1.extBut D.z_i3.symm).extBut hs2.extBut D.i1_i3.symm).extBut hs3.extBut D.TO_i3.symm).extBut hs4.extBut D.i2_i3.symm).extBut hs5.extBut D.TO_i3.symm) ((((((hl3).extBut hs1.extBut D.l3_z).extBut hs2.extBut D.l3_i1).extBut hs3.extBut D.l3_TO).extBut hs4.extBut D.l3_i2).extBut hs5.extBut D.l3_TO) e3 fun g6 it3 hs6=>wpAny_pure ?_)
 have to6:Zce g6 TO [x1,x2,a3]:=hs6.extBut _ _ D.TO_i3 (to5)
 refine wpAny_bind (wpAny_seqItems to6 rfl ?_)
 refine wpAny_bind (Zeu to6 fun g7 to7 hs7=> ?_)
 replace to7:Zce g7 TO [x1,x2,x3]:=to7
 refine wpAny_bind (wpAny_letGo (wpAny_pure (wpAny_pure ?_)))
 refine wpAny_bind (wpAny_seqItems to7 rfl ?_)
 refine wpAny_bind (wpAny_newTuple ?_)
 have hsz:g7.objs.size=s.heap.objs.size:=by rw[hs7.1,hs6.1,hs5.1,hs4.1,hs3.1,hs2.1,hs1.1]
 have hzF:IsZip g7 z TI TO .ellipsis:=hs7.extBut _ _ D.z_TO (hs6.extBut _ _ D.z_i3 (hs5.extBut _ _ D.z_TO (hs4.extBut _ _ D.z_i2 (hs3.extBut _ _ D.z_TO (hs2.extBut _ _ D.z_i1 (hz1))))))
 have hkF: ∀ c o,c≠z->c≠TO->c≠i1->c≠i2->c≠i3->s.heap.get? c=some o->g7.get? c=some o:=fun c o c1 c2 d1 d2 d3 e=>hs7.extBut _ _ c2 (hs6.extBut _ _ d3 (hs5.extBut _ _ c2 (hs4.extBut _ _ d2 (hs3.extBut _ _ c2 (hs2.extBut _ _ d1 (hs1.extBut _ _ c1 (e)))))))
 have f1:g7.IsListIter i1 l1 (k + 1):=(((((it1).extBut hs3.extBut D.TO_i1.symm).extBut hs4.extBut D.i1_i2).extBut hs5.extBut D.TO_i1.symm).extBut hs6.extBut D.i1_i3).extBut hs7.extBut D.TO_i1.symm
 have f2:g7.IsListIter i2 l2 (k + 1):=(((it2).extBut hs5.extBut D.TO_i2.symm).extBut hs6.extBut D.i2_i3).extBut hs7.extBut D.TO_i2.symm
 have f3:g7.IsListIter i3 l3 (k + 1):=(it3).extBut hs7.extBut D.TO_i3.symm
 have hzlt:z < g7.objs.size:=Heap.lt_size hzF
 show wpAny _ _ (Builtin.SmallTypes.ownedTupleHandOut (.ref z) (.ref g7.objs.size) >>= _) _ _ _
 refine wpAny_bind ?_
 unfold Builtin.SmallTypes.ownedTupleHandOut
 have hzP:IsZip (g7.push { cls:= .type "tuple",data:= .seq #[x1,x2,x3] }) z TI TO .ellipsis:=Heap.get?_push_of_some _ hzF
 refine wpAny_bind (wpAny_setField_rec hzP (by simp) fun h7 hz7 hs7=> ?_)
 replace hz7:IsZip h7 z TI TO (rawInt g7.objs.size):=hz7
 refine wpAny_setField_rec hz7 (by simp) fun h8 hz8 hs8=> ?_
 replace hz8:IsZip h8 z TI TO (rawInt g7.objs.size):=hz8
 have up: ∀ c o,c≠z->g7.get? c=some o->h8.get? c=some o:=fun c o c1 e=>hs8.extBut _ _ c1 (hs7.extBut _ _ c1 (Heap.get?_push_of_some _ e))
 have hT8:Zce h8 g7.objs.size [x1,x2,x3]:=hs8.extBut _ _ (Nat.ne_of_gt hzlt) (hs7.extBut _ _ (Nat.ne_of_gt hzlt) (Heap.get?_push_size _ rfl))
 have h8z:h8.objs.size=g7.objs.size + 1:=by rw[hs8.1,hs7.1,Heap.size_push]
 rw[hsz] at hz8 hT8 h8z
 refine wpAny_pure ⟨_,rfl,?_⟩
 show Q (.ref g7.objs.size) _
 rw[hsz]
 exact hQ h8 hz8 (up _ _ D.z_TO.symm to7) (f1.at fun o e=>up _ o D.z_i1.symm e) (f2.at fun o e=>up _ o D.z_i2.symm e) (f3.at fun o e=>up _ o D.z_i3.symm e) hT8 h8z fun c o c1 c2 d1 d2 d3 e=>up c o c1 (hkF c o c1 c2 d1 d2 d3 e)
theorem ZiR {z TI TO i1 i2 i3 l1 l2 l3:Addr} {k:Nat} {xs1 xs2 xs3:Array Value} {a1 a2 a3:Value} {Q:Fin->Shared->Prop} (hh:A.handled=none) (D:Ap z TI TO i1 i2 i3 l1 l2 l3) (hz:IsZip s.heap z TI TO .none) (hTI:Zce s.heap TI [.ref i1,.ref i2,.ref i3]) (hTO:Zce s.heap TO [a1,a2,a3]) (h1:s.heap.IsListIter i1 l1 k) (h2:s.heap.IsListIter i2 l2 k) (h3:s.heap.IsListIter i3 l3 k) (hl1:s.heap.IsList l1 xs1) (hl2:s.heap.IsList l2 xs2) (hl3:s.heap.IsList l3 xs3) (hend:xs1[k]?=none\/xs2[k]?=none\/xs3[k]?=none)
  (hE: ∀ h' e,(∀ c o,c≠z->c≠TO->c≠i1->c≠i2->c≠i3->s.heap.get? c=some o->h'.get? c=some o)->(∃ o,h'.get? e=some o/\o.cls= .type "StopIteration")->E (.ref e) { s with heap:=h' }):
  wpAny (model prog w) A (Builtin.«zip.__next__» ⟨[.ref z],[]⟩) Q E s:=by
 show wpAny _ _ (field (.ref z) 2 >>= _) _ _ _
 refine wpAny_bind (wpAny_field hz rfl (x:= .bool false) rfl ?_)
 show wpAny _ _ (field (.ref z) 3 >>= _) _ _ _
 refine wpAny_bind (wpAny_field hz rfl (x:= .ref TI) rfl ?_)
 refine wpAny_bind (wpAny_seqItems hTI rfl ?_)
 show wpAny _ _ (Builtin.SmallTypes.ownedTupleIsFree (.ref z) >>= _) _ _ _
 refine wpAny_bind ?_
 unfold Builtin.SmallTypes.ownedTupleIsFree
 refine wpAny_bind (wpAny_field hz rfl (x:= .none) rfl (wpAny_pure ?_))
 simp only[if_true]
 refine wpAny_bind (wpAny_rule ?_)
 refine wpAny_bind (wpAny_field hz rfl (x:= .ref TO) rfl ?_)
 refine wpAny_bind (wpAny_setField_rec hz (by simp) fun g1 hz1 hs1=> ?_)
 replace hz1:IsZip g1 z TI TO .ellipsis:=hz1
 refine wpAny_bind ?_
 simp only[List.zipIdx_cons,List.zipIdx_nil,List.forIn_cons,List.forIn_nil]
 refine wpAny_bind (wpAny_bind (wpAny_onRaise ?_))
 show wpAny _ _ (Builtin.SmallTypes.nextOf (.ref i1) >>= _) _ _ _
 cases hx1:xs1[k]? with
 |none=>
  refine wpAny_bind (wpAny_nextOf_list_end hh ((h1).extBut hs1.extBut D.z_i1.symm) ((hl1).extBut hs1.extBut D.l1_z) hx1 fun gE e hsE he=> ?_)
  obtain ⟨oe,hoe,hce⟩:=he
  have hzE:IsZip gE z TI TO .ellipsis:=hsE _ _ D.z_i1 (hz1)
  have hez:e≠z:=fun x=>by subst x;rw[hzE] at hoe;cases hoe;simp at hce
  refine wpAny_setField_rec hzE (by simp) fun gF _ hsF=>hE gF e (fun c o c1 c2 d1 d2 d3 x=>hsF.extBut _ _ c1 (hsE _ _ d1 (hs1.extBut _ _ c1 (x)))) ⟨oe,hsF.extBut _ _ hez hoe,hce⟩
 |some x1=>
  have hend1:xs2[k]?=none\/xs3[k]?=none:=by rcases hend with h | h;rw[hx1] at h;cases h;exact h
  refine wpAny_bind (wpAny_nextOf_list_item ((h1).extBut hs1.extBut D.z_i1.symm) ((hl1).extBut hs1.extBut D.l1_z) hx1 fun g2 it1 hs2=>wpAny_pure ?_)
  have to2:Zce g2 TO [a1,a2,a3]:=hs2.extBut _ _ D.TO_i1 (hs1.extBut _ _ D.z_TO.symm (hTO))
  refine wpAny_bind (wpAny_seqItems to2 rfl ?_)
  refine wpAny_bind (Zeu to2 fun g3 to3 hs3=> ?_)
  replace to3:Zce g3 TO [x1,a2,a3]:=to3
  refine wpAny_bind (wpAny_letGo (wpAny_pure ?_))
  refine wpAny_bind (wpAny_bind (wpAny_onRaise ?_))
  show wpAny _ _ (Builtin.SmallTypes.nextOf (.ref i2) >>= _) _ _ _
  cases hx2:xs2[k]? with
  |none=>
   refine wpAny_bind (wpAny_nextOf_list_end hh ((((h2).extBut hs1.extBut D.z_i2.symm).extBut hs2.extBut D.i1_i2.symm).extBut hs3.extBut D.TO_i2.symm) ((((hl2).extBut hs1.extBut D.l2_z).extBut hs2.extBut D.l2_i1).extBut hs3.extBut D.l2_TO) hx2 fun gE e hsE he=> ?_)
   obtain ⟨oe,hoe,hce⟩:=he
   have hzE:IsZip gE z TI TO .ellipsis:=hsE _ _ D.z_i2 (hs3.extBut _ _ D.z_TO (hs2.extBut _ _ D.z_i1 (hz1)))
   have hez:e≠z:=fun x=>by subst x;rw[hzE] at hoe;cases hoe;simp at hce
   refine wpAny_setField_rec hzE (by simp) fun gF _ hsF=>hE gF e (fun c o c1 c2 d1 d2 d3 x=>hsF.extBut _ _ c1 (hsE _ _ d2 (hs3.extBut _ _ c2 (hs2.extBut _ _ d1 (hs1.extBut _ _ c1 (x)))))) ⟨oe,hsF.extBut _ _ hez hoe,hce⟩
  |some x2=>
   have hend2:xs3[k]?=none:=by rcases hend1 with h | h;rw[hx2] at h;cases h;exact h
   refine wpAny_bind (wpAny_nextOf_list_item ((((h2).extBut hs1.extBut D.z_i2.symm).extBut hs2.extBut D.i1_i2.symm).extBut hs3.extBut D.TO_i2.symm) ((((hl2).extBut hs1.extBut D.l2_z).extBut hs2.extBut D.l2_i1).extBut hs3.extBut D.l2_TO) hx2 fun g4 it2 hs4=>wpAny_pure ?_)
   have to4:Zce g4 TO [x1,a2,a3]:=hs4.extBut _ _ D.TO_i2 (to3)
   refine wpAny_bind (wpAny_seqItems to4 rfl ?_)
   refine wpAny_bind (Zeu to4 fun g5 to5 hs5=> ?_)
   replace to5:Zce g5 TO [x1,x2,a3]:=to5
   refine wpAny_bind (wpAny_letGo (wpAny_pure ?_))
   refine wpAny_bind (wpAny_bind (wpAny_onRaise ?_))
   show wpAny _ _ (Builtin.SmallTypes.nextOf (.ref i3) >>= _) _ _ _
   refine wpAny_bind (wpAny_nextOf_list_end hh ((((((h3).extBut hs1.extBut D.z_i3.symm).extBut hs2.extBut D.i1_i3.symm).extBut hs3.extBut D.TO_i3.symm).extBut hs4.extBut D.i2_i3.symm).extBut hs5.extBut D.TO_i3.symm) ((((((hl3).extBut hs1.extBut D.l3_z).extBut hs2.extBut D.l3_i1).extBut hs3.extBut D.l3_TO).extBut hs4.extBut D.l3_i2).extBut hs5.extBut D.l3_TO) hend2 fun gE e hsE he=> ?_)
   obtain ⟨oe,hoe,hce⟩:=he
   have hzE:IsZip gE z TI TO .ellipsis:=hsE _ _ D.z_i3 (hs5.extBut _ _ D.z_TO (hs4.extBut _ _ D.z_i2 (hs3.extBut _ _ D.z_TO (hs2.extBut _ _ D.z_i1 (hz1)))))
   have hez:e≠z:=fun x=>by subst x;rw[hzE] at hoe;cases hoe;simp at hce
   refine wpAny_setField_rec hzE (by simp) fun gF _ hsF=>hE gF e (fun c o c1 c2 d1 d2 d3 x=>hsF.extBut _ _ c1 (hsE _ _ d3 (hs5.extBut _ _ c2 (hs4.extBut _ _ d2 (hs3.extBut _ _ c2 (hs2.extBut _ _ d1 (hs1.extBut _ _ c1 (x)))))))) ⟨oe,hsF.extBut _ _ hez hoe,hce⟩
theorem ZkG {z TI TO i1 i2 i3 l1 l2 l3:Addr} {k:Nat} {xs1 xs2 xs3:Array Value} {x1 x2 x3 a1 a2 a3:Value} {Q:Option Value->Shared->Prop} (D:Ap z TI TO i1 i2 i3 l1 l2 l3) (hz:IsZip s.heap z TI TO .none) (hTI:Zce s.heap TI [.ref i1,.ref i2,.ref i3]) (hTO:Zce s.heap TO [a1,a2,a3]) (h1:s.heap.IsListIter i1 l1 k) (h2:s.heap.IsListIter i2 l2 k) (h3:s.heap.IsListIter i3 l3 k) (hl1:s.heap.IsList l1 xs1) (hl2:s.heap.IsList l2 xs2) (hl3:s.heap.IsList l3 xs3) (e1:xs1[k]?=some x1) (e2:xs2[k]?=some x2) (e3:xs3[k]?=some x3)
  (hQ: ∀ h',IsZip h' z TI TO (rawInt s.heap.objs.size)->Zce h' TO [x1,x2,x3]->h'.IsListIter i1 l1 (k + 1)->h'.IsListIter i2 l2 (k + 1)->h'.IsListIter i3 l3 (k + 1)->Zce h' s.heap.objs.size [x1,x2,x3]->h'.objs.size=s.heap.objs.size + 1->(∀ c o,c≠z->c≠TO->c≠i1->c≠i2->c≠i3->s.heap.get? c=some o->h'.get? c=some o)->Q (some (.ref s.heap.objs.size)) { s with heap:=h' }):
  wpAny (model prog w) A (pyNext (.ref z)) Q E s:=by
 have hT:s.TypeIs (.ref z) "zip":=⟨_,hz,rfl⟩
 unfold pyNext
 exact wpAny_bind (wpAny_attempt (wpAny_callSpecial?_slot (name:=Str.ofString "__next__") hT F.slot_zip_next
  (wpAny_call_entry F.slot_zip_next hT F.entry_zip_next
   (ZhF D hz hTI hTO h1 h2 h3 hl1 hl2 hl3 e1 e2 e3 fun h' b0 b1 b2 b3 b4 b5 b6 b7=>wpAny_pure (hQ h' b0 b1 b2 b3 b4 b5 b6 b7)) (F.args_zip_next_1 _))))
theorem ZmQ {z TI TO i1 i2 i3 l1 l2 l3:Addr} {k:Nat} {xs1 xs2 xs3:Array Value} {a1 a2 a3:Value} {Q:Option Value->Shared->Prop} (hh:A.handled=none) (D:Ap z TI TO i1 i2 i3 l1 l2 l3) (hz:IsZip s.heap z TI TO .none) (hTI:Zce s.heap TI [.ref i1,.ref i2,.ref i3]) (hTO:Zce s.heap TO [a1,a2,a3]) (h1:s.heap.IsListIter i1 l1 k) (h2:s.heap.IsListIter i2 l2 k) (h3:s.heap.IsListIter i3 l3 k) (hl1:s.heap.IsList l1 xs1) (hl2:s.heap.IsList l2 xs2) (hl3:s.heap.IsList l3 xs3) (hend:xs1[k]?=none\/xs2[k]?=none\/xs3[k]?=none)
  (hQ: ∀ h',(∀ c o,c≠z->c≠TO->c≠i1->c≠i2->c≠i3->s.heap.get? c=some o->h'.get? c=some o)->Q none { s with heap:=h' }):wpAny (model prog w) A (pyNext (.ref z)) Q E s:=by
 have hT:s.TypeIs (.ref z) "zip":=⟨_,hz,rfl⟩
 unfold pyNext
 refine wpAny_bind (wpAny_attempt (wpAny_callSpecial?_slot (name:=Str.ofString "__next__") hT F.slot_zip_next
  (wpAny_call_entry F.slot_zip_next hT F.entry_zip_next (ZiR hh D hz hTI hTO h1 h2 h3 hl1 hl2 hl3 hend fun h' e hk he=> ?_) (F.args_zip_next_1 _))))
 obtain ⟨o,ho,hc⟩:=he
 refine wpAny_bind (wpAny_isInstance (T:="StopIteration") (b:=true) ⟨o,ho,hc⟩ isSubtype_stop ?_)
 exact wpAny_pure (hQ _ hk)
end
theorem ZiS (a1 a2 a3:Value):checkTypeCall "zip" ⟨[a1,a2,a3],[]⟩=pure ():=by kernel_rfl
theorem ZkH (a1 a2 a3:Value):checkBuiltinCall "zip.__new__" ⟨[.type "zip",a1,a2,a3],[]⟩=pure ():=by kernel_rfl
theorem ZhG (a0 a1 a2 a3:Value):argsOk "object.__init__" ⟨[a0,a1,a2,a3],[]⟩:=by
 unfold argsOk;rw[signature?_of (id:="object.__init__") (n:=['_','_','t','i','n','i','_','_']) (o:=['t','c','e','j','b','o']) (by kernel_rfl) F.owner_object];kernel_rfl
noncomputable abbrev zH1 (h:Heap) (l1:Addr):Heap:=h.push { cls:= .type "list_iterator",data:= .fields #[.ref l1,.int 0 0] }
noncomputable abbrev zH2 (h:Heap) (l1 l2:Addr):Heap:=(zH1 h l1).push { cls:= .type "list_iterator",data:= .fields #[.ref l2,.int 0 0] }
noncomputable abbrev zH3 (h:Heap) (l1 l2 l3:Addr):Heap:=(zH2 h l1 l2).push { cls:= .type "list_iterator",data:= .fields #[.ref l3,.int 0 0] }
noncomputable abbrev zH4 (h:Heap) (l1 l2 l3:Addr):Heap:=(zH3 h l1 l2 l3).push { cls:= .type "tuple",data:= .seq #[.ref h.objs.size,.ref (zH1 h l1).objs.size,.ref (zH2 h l1 l2).objs.size] }
noncomputable abbrev zH5 (h:Heap) (l1 l2 l3:Addr):Heap:=(zH4 h l1 l2 l3).push { cls:= .type "tuple",data:= .seq #[.none,.none,.none] }
noncomputable abbrev zH6 (h:Heap) (l1 l2 l3:Addr):Heap:=(zH5 h l1 l2 l3).push { cls:= .type "zip",data:= .fields #[.none,.bool false,.bool false,.ref (zH3 h l1 l2 l3).objs.size,.ref (zH4 h l1 l2 l3).objs.size] }
theorem Zpm (l1 l2 l3:Addr) (xs1 xs2 xs3:Array Value):
  Meets (Builtin.«zip.__new__» ⟨[.type "zip",.ref l1,.ref l2,.ref l3],[]⟩) (fun _ R s=>s.heap.IsList l1 xs1/\s.heap.IsList l2 xs2/\s.heap.IsList l3 xs3/\
   R (.ok (.ret (.ref (zH5 s.heap l1 l2 l3).objs.size))) { s with heap:=zH6 s.heap l1 l2 l3 }):=
 .of_wp fun prog w A R s h=>by
  obtain ⟨hp,g,d,tk,os⟩:=s;obtain ⟨hl1,hl2,hl3,h⟩:=h
  have hsub:=sub_zip
  have hL1:Heap.IsList (Shared.heap ⟨hp,g,d,tk,os⟩) l1 xs1:=hl1
  have hL2:Heap.IsList (Shared.heap ⟨(hp.push { cls:= .type "list_iterator",data:= .fields #[.ref l1,.int 0 0] }),g,d,tk,os⟩) l2 xs2:=Heap.IsList.push (hl2) _
  have hL3:Heap.IsList (Shared.heap ⟨((hp.push { cls:= .type "list_iterator",data:= .fields #[.ref l1,.int 0 0] }).push { cls:= .type "list_iterator",data:= .fields #[.ref l2,.int 0 0] }),g,d,tk,os⟩) l3 xs3:=Heap.IsList.push (Heap.IsList.push (hl3) _) _
  wp_walk using wpAny_pyIter_list hL1,wpAny_pyIter_list hL2,wpAny_pyIter_list hL3
  exact ⟨_,rfl,h⟩
section
variable {prog:Program} {w:World} {A:Around} {E:Value->Shared->Prop} {s:Shared}
theorem ZiT {l1 l2 l3:Addr} {xs1 xs2 xs3:Array Value} {Q:Value->Shared->Prop} (hl1:s.heap.IsList l1 xs1) (hl2:s.heap.IsList l2 xs2) (hl3:s.heap.IsList l3 xs3)
  (h: ∀ h',IsZip h' (s.heap.objs.size + 5) (s.heap.objs.size + 3) (s.heap.objs.size + 4) .none->Zce h' (s.heap.objs.size + 3) [.ref s.heap.objs.size,.ref (s.heap.objs.size + 1),.ref (s.heap.objs.size + 2)]->Zce h' (s.heap.objs.size + 4) [.none,.none,.none]->h'.IsListIter s.heap.objs.size l1 0->h'.IsListIter (s.heap.objs.size + 1) l2 0->h'.IsListIter (s.heap.objs.size + 2) l3 0->h'.objs.size=s.heap.objs.size + 6->
   (∀ c o,s.heap.get? c=some o->h'.get? c=some o)->Q (.ref (s.heap.objs.size + 5)) { s with heap:=h' }):
  wpAny (model prog w) A (call (.type "zip") [.ref l1,.ref l2,.ref l3]) Q E s:=by
 refine callType_new F.called_zip (by decide) (ZiS _ _ _) (ZkH _ _ _) (fun obj=>ZhG obj _ _ _) F.entry_zip_new
  (Zpm l1 l2 l3 xs1 xs2 xs3) ⟨hl1,hl2,hl3,?_⟩
 have z1:(zH1 s.heap l1).objs.size=s.heap.objs.size + 1:=Heap.size_push ..
 have z2:(zH2 s.heap l1 l2).objs.size=s.heap.objs.size + 2:=by rw[Heap.size_push,z1]
 have z3:(zH3 s.heap l1 l2 l3).objs.size=s.heap.objs.size + 3:=by rw[Heap.size_push,z2]
 have z4:(zH4 s.heap l1 l2 l3).objs.size=s.heap.objs.size + 4:=by rw[Heap.size_push,z3]
 have z5:(zH5 s.heap l1 l2 l3).objs.size=s.heap.objs.size + 5:=by rw[Heap.size_push,z4]
 have z6:(zH6 s.heap l1 l2 l3).objs.size=s.heap.objs.size + 6:=by rw[Heap.size_push,z5]
 have g6:(zH6 s.heap l1 l2 l3).get? (zH5 s.heap l1 l2 l3).objs.size=some _:=Heap.get?_push_size _ rfl
 have g5:(zH6 s.heap l1 l2 l3).get? (zH4 s.heap l1 l2 l3).objs.size=some _:=Heap.get?_push_of_some _ (Heap.get?_push_size _ rfl)
 have g4:(zH6 s.heap l1 l2 l3).get? (zH3 s.heap l1 l2 l3).objs.size=some _:=Heap.get?_push_of_some _ (Heap.get?_push_of_some _ (Heap.get?_push_size _ rfl))
 have g3:(zH6 s.heap l1 l2 l3).get? (zH2 s.heap l1 l2).objs.size=some _:=Heap.get?_push_of_some _ (Heap.get?_push_of_some _ (Heap.get?_push_of_some _ (Heap.get?_push_size _ rfl)))
 have g2:(zH6 s.heap l1 l2 l3).get? (zH1 s.heap l1).objs.size=some _:=Heap.get?_push_of_some _ (Heap.get?_push_of_some _ (Heap.get?_push_of_some _ (Heap.get?_push_of_some _ (Heap.get?_push_size _ rfl))))
 have g1:(zH6 s.heap l1 l2 l3).get? s.heap.objs.size=some _:=Heap.get?_push_of_some _ (Heap.get?_push_of_some _ (Heap.get?_push_of_some _ (Heap.get?_push_of_some _ (Heap.get?_push_of_some _ (Heap.get?_push_size _ rfl)))))
 show _/\_
 rw[z3,z4,z5] at g6
 rw[z1,z2,z3] at g4
 rw[z4] at g5
 rw[z1] at g2
 rw[z2] at g3
 rw[z5]
 exact ⟨⟨_,g6,rfl⟩,h _ g6 g4 g5 ⟨_,g1,rfl,rfl⟩ ⟨_,g2,rfl,rfl⟩ ⟨_,g3,rfl,rfl⟩ z6 fun c o x=>Heap.get?_push_of_some _ (Heap.get?_push_of_some _ (Heap.get?_push_of_some _ (Heap.get?_push_of_some _ (Heap.get?_push_of_some _ (Heap.get?_push_of_some _ (x))))))⟩
end
noncomputable def Itz (K:PySem.W.Frag) (l1 l2 l3:Addr):It:=
 ⟨fun i H=> ∃ xs1 xs2 xs3 v1 v2 v3,SqL K H l1 xs1/\SqL K H l2 xs2/\SqL K H l3 xs3/\xs1[i]?=some v1/\xs2[i]?=some v2/\xs3[i]?=some v3,
  fun i H x H'=> ∃ p,H p=none/\(x= .ref p/\ ∀ xs1 xs2 xs3 v1 v2 v3,SqL K H l1 xs1->SqL K H l2 xs2->SqL K H l3 xs3->xs1[i]?=some v1->xs2[i]?=some v2->xs3[i]?=some v3->H'=upd H p (.tup [v1,v2,v3])),
  fun i H=> ∃ xs1 xs2 xs3,SqL K H l1 xs1/\SqL K H l2 xs2/\SqL K H l3 xs3/\(xs1.length<=i\/xs2.length<=i\/xs3.length<=i)⟩
theorem ZdM {P:Program} {w:World} {K:PySem.W.Frag} {B:Around} {elts:List Expr} {k0:Nat} {tp:Pos} (hB:B.handled=none) {z TI TO i1 i2 i3 l1 l2 l3:Addr} (D:Ap z TI TO i1 i2 i3 l1 l2 l3):
  Turn P w K B (.Tuple elts k0 tp) (Itz K l1 l2 l3) [z,TI,TO,i1,i2,i3] z (fun i h=>IsZip h z TI TO .none/\Zce h TI [.ref i1,.ref i2,.ref i3]/\(∃ a1 a2 a3,Zce h TO [a1,a2,a3])/\h.IsListIter i1 l1 i/\h.IsListIter i2 l2 i/\h.IsListIter i3 l3 i) where
 mem:=by simp
 obj:=fun i h st c hc=>by
  obtain ⟨h1,h2,⟨a1,a2,a3,h3⟩,⟨o1,e1,c1,d1⟩,⟨o2,e2,c2,d2⟩,⟨o3,e3,c3,d3⟩⟩:=st
  simp only[List.mem_cons,List.not_mem_nil,or_false] at hc
  rcases hc with rfl | rfl | rfl | rfl | rfl | rfl
  ·exact ⟨_,h1,fun v q=>by cases q⟩
  ·exact ⟨_,h2,fun v q=>by cases q⟩
  ·exact ⟨_,h3,fun v q=>by cases q⟩
  ·exact ⟨o1,e1,fun v q=>by rw[d1] at q;cases q⟩
  ·exact ⟨o2,e2,fun v q=>by rw[d2] at q;cases q⟩
  ·exact ⟨o3,e3,fun v q=>by rw[d3] at q;cases q⟩
 keep:=fun i h h' st k=>by
  obtain ⟨h1,h2,⟨a1,a2,a3,h3⟩,t1,t2,t3⟩:=st
  exact ⟨k z (by simp) _ h1,k TI (by simp) _ h2,⟨a1,a2,a3,k TO (by simp) _ h3⟩,t1.at fun o q=>k i1 (by simp) o q,t2.at fun o q=>k i2 (by simp) o q,t3.at fun o q=>k i3 (by simp) o q⟩
 item:=by
  intro X hP hw hK hA i pins s σ H E I hf st hg
  subst hP hw hK hA
  obtain ⟨h1,h2,⟨a1,a2,a3,h3⟩,t1,t2,t3⟩:=st
  obtain ⟨xs1,xs2,xs3,v1,v2,v3,q1,q2,q3,m1,m2,m3⟩:=hg
  obtain ⟨its1,rv1,p1,hz1⟩:=I.list q1
  obtain ⟨u1,hu1,ru1⟩:=rv1.get m1
  obtain ⟨its2,rv2,p2,hz2⟩:=I.list q2
  obtain ⟨u2,hu2,ru2⟩:=rv2.get m2
  obtain ⟨its3,rv3,p3,hz3⟩:=I.list q3
  obtain ⟨u3,hu3,ru3⟩:=rv3.get m3
  have lt: ∀ c∈[z,TI,TO,i1,i2,i3],c < s.heap.objs.size:=fun c hc=>by
   simp only[List.mem_cons,List.not_mem_nil,or_false] at hc
   rcases hc with rfl | rfl | rfl | rfl | rfl | rfl
   ·exact Heap.lt_size h1
   ·exact Heap.lt_size h2
   ·exact Heap.lt_size h3
   ·obtain ⟨o,e2,_⟩:=t1;exact Heap.lt_size e2
   ·obtain ⟨o,e2,_⟩:=t2;exact Heap.lt_size e2
   ·obtain ⟨o,e2,_⟩:=t3;exact Heap.lt_size e2
  refine ZkG D h1 h2 h3 t1 t2 t3 p1.isList p2.isList p3.isList (x1:=u1) (x2:=u2) (x3:=u3) (by simpa using hu1) (by simpa using hu2) (by simpa using hu3) fun h' o1 o2 w1 w2 w3 o5 o6 o7=>⟨_,rfl,?_⟩
  refine wpAny_letOwnedTupleGo_zip (s:={ s with heap:=h' }) o1 fun h'' r1 r2=> ?_
  have pe:s.heap.objs.size≠z:=Nat.ne_of_gt (lt z (by simp))
  obtain ⟨J1,J2,J3⟩:=Zho (h':=h'') (t':=s.toks) (ch:=[z,TI,TO,i1,i2,i3]) (vs:=[v1,v2,v3]) (us:=[u1,u2,u3]) I hf lt (.cons ru1 (.cons ru2 (.cons ru3 .nil))) (by show 3<=sizeLine;decide)
   (fun c o hc q=>by
    simp only[List.mem_cons,List.not_mem_nil,or_false,not_or] at hc
    exact (r2.2 c hc.1).trans (o7 c o hc.1 hc.2.2.1 hc.2.2.2.1 hc.2.2.2.2.1 hc.2.2.2.2.2 q)) ((r2.2 _ pe).trans o5)
  refine ⟨.ref s.heap.objs.size,_,J1,rfl,⟨_,J2,rfl,fun xs1' xs2' xs3' v1' v2' v3' s1 s2 s3 n1 n2 n3=> ?_⟩,⟨r1,(r2.2 TI D.z_TI.symm).trans (o7 TI _ D.z_TI.symm D.TI_TO D.TI_i1 D.TI_i2 D.TI_i3 h2),⟨u1,u2,u3,(r2.2 TO D.z_TO.symm).trans o2⟩,w1.at fun o q=>(r2.2 i1 D.z_i1.symm).trans q,w2.at fun o q=>(r2.2 i2 D.z_i2.symm).trans q,w3.at fun o q=>(r2.2 i3 D.z_i3.symm).trans q⟩,J3⟩
  rw[I.list_inj s1 q1,m1] at n1
  cases n1
  rw[I.list_inj s2 q2,m2] at n2
  cases n2
  rw[I.list_inj s3 q3,m3] at n3
  cases n3
  rfl
 done:=by
  intro X hP hw hK hA i pins s σ H E I hf st hg
  subst hP hw hK hA
  obtain ⟨h1,h2,⟨a1,a2,a3,h3⟩,t1,t2,t3⟩:=st
  obtain ⟨xs1,xs2,xs3,q1,q2,q3,hx⟩:=hg
  obtain ⟨its1,rv1,p1,hz1⟩:=I.list q1
  obtain ⟨its2,rv2,p2,hz2⟩:=I.list q2
  obtain ⟨its3,rv3,p3,hz3⟩:=I.list q3
  have he:its1.toArray[i]?=none\/its2.toArray[i]?=none\/its3.toArray[i]?=none:=by
   rcases hx with hx | hx | hx
   ·exact (.inl (by simp only[List.getElem?_toArray];exact List.getElem?_eq_none (by rw[<- rv1.length];exact hx)))
   ·exact (.inr (.inl (by simp only[List.getElem?_toArray];exact List.getElem?_eq_none (by rw[<- rv2.length];exact hx))))
   ·exact (.inr (.inr (by simp only[List.getElem?_toArray];exact List.getElem?_eq_none (by rw[<- rv3.length];exact hx))))
  refine ZmQ hB D h1 h2 h3 t1 t2 t3 p1.isList p2.isList p3.isList he fun h' keep=>⟨rfl,?_⟩
  refine Ze6 (t':=s.toks) (ch:=[z,TI,TO,i1,i2,i3]) I (fun c o hc q=> ?_) hf
  simp only[List.mem_cons,List.not_mem_nil,or_false,not_or] at hc
  exact keep c o hc.1 hc.2.2.1 hc.2.2.2.1 hc.2.2.2.2.1 hc.2.2.2.2.2 q
 self:=fun A i s Q E st q=>wpAny_pyIter_zip st.1 q
theorem Zhq {n l1 l2 l3:Nat} (h1:l1 < n) (h2:l2 < n) (h3:l3 < n):Ap (n + 5) (n + 3) (n + 4) n (n + 1) (n + 2) l1 l2 l3:=⟨Nat.ne_of_gt (by omega),Nat.ne_of_gt (by omega),Nat.ne_of_gt (by omega),Nat.ne_of_gt (by omega),Nat.ne_of_gt (by omega),Nat.ne_of_lt (by omega),Nat.ne_of_gt (by omega),Nat.ne_of_gt (by omega),Nat.ne_of_gt (by omega),Nat.ne_of_gt (by omega),Nat.ne_of_gt (by omega),Nat.ne_of_gt (by omega),Nat.ne_of_lt (by omega),Nat.ne_of_lt (by omega),Nat.ne_of_lt (by omega),Nat.ne_of_lt (by omega),Nat.ne_of_lt (by omega),Nat.ne_of_lt (by omega),Nat.ne_of_lt (by omega),Nat.ne_of_lt (by omega),Nat.ne_of_lt (by omega),Nat.ne_of_lt (by omega),Nat.ne_of_lt (by omega),Nat.ne_of_lt (by omega),Nat.ne_of_lt (by omega),Nat.ne_of_lt (by omega),Nat.ne_of_lt (by omega),Nat.ne_of_lt (by omega),Nat.ne_of_lt (by omega),Nat.ne_of_lt (by omega)⟩
section
variable {X:Cx} {ξ:XK} {y1 y2 y3:Expr} {elts:List Expr} {k0:Nat} {tp:Pos} {fs:Av} {p pos:Pos} {ta:TA}
noncomputable def Zpi (K:PySem.W.Frag) (t:TA):TI:=fun σ H R=>t σ H fun vs H1=> ∃ l1 l2 l3 xs1 xs2 xs3,vs=[.ref l1,.ref l2,.ref l3]/\SqL K H1 l1 xs1/\SqL K H1 l2 xs2/\SqL K H1 l3 xs3/\R (Itz K l1 l2 l3) H1
theorem Zhr (hc:X.A.handled=none) (hg:Gl X "zip") (hm:X.mg "zip"=none) (ha:PA X [y1,y2,y3] ta) (hs:starEach [y1,y2,y3] X.env=(false,eval y1 X.env) :: starEach [y2,y3] X.env:=by rfl) (hpl:(backTo pos (starEach [y2,y3] X.env)).any (·.1)=false:=by rfl):
  PI X (.Tuple elts k0 tp) (.Call (.Name "zip" p) [y1,y2,y3] [] pos) (Zpi X.K ta):=by
 intro pins s σ H R I h
 refine wpAny_Call_Name_kw (Zcu I hg hm ZjA (PyProof.Rows.callWith_type1 (thn (ha pos pins s σ H _ I h) fun us s1 ⟨vs,H1,I1,r1,q1⟩=> ?_) hs hpl) (by decide) (by decide))
 obtain ⟨l1,l2,l3,xs1,xs2,xs3,rfl,hq1,hq2,hq3,q⟩:=q1
 cases r1 with
 |cons ru1 rr1=>
 cases rr1 with
 |cons ru2 rr2=>
 cases rr2 with
 |cons ru3 rr3=>
 cases rr3 with
 |nil=>
 cases ru1
 cases ru2
 cases ru3
 obtain ⟨its1,rv1,pl1,hz1⟩:=I1.list hq1
 have lt1:l1 < s1.heap.objs.size:=by obtain ⟨_,e,_⟩:=pl1.isList;exact Heap.lt_size e
 obtain ⟨its2,rv2,pl2,hz2⟩:=I1.list hq2
 have lt2:l2 < s1.heap.objs.size:=by obtain ⟨_,e,_⟩:=pl2.isList;exact Heap.lt_size e
 obtain ⟨its3,rv3,pl3,hz3⟩:=I1.list hq3
 have lt3:l3 < s1.heap.objs.size:=by obtain ⟨_,e,_⟩:=pl3.isList;exact Heap.lt_size e
 refine ZiT pl1.isList pl2.isList pl3.isList fun h' ez eti eto ei1 ei2 ei3 esz ek=> ?_
 have D:=Zhq lt1 lt2 lt3
 have T:=ZdM (P:=X.prog) (w:=X.w) (K:=X.K) (B:=X.A) (elts:=elts) (k0:=k0) (tp:=tp) hc D
 have I2:Inv X pins σ H1 { s1 with heap:=h',toks:=s1.toks }:=I1.kept (t':=s1.toks) ek
 refine T.self X.A 0 { s1 with heap:=h' } _ _ ⟨ez,eti,⟨_,_,_,eto⟩,ei1,ei2,ei3⟩ ⟨_,_,_,_,H1,rfl,I2,T,⟨ez,eti,⟨_,_,_,eto⟩,ei1,ei2,ei3⟩,fun c hc=> ?_,q⟩
 have hb':s1.heap.objs.size<=c:=by
  simp only[List.mem_cons,List.not_mem_nil,or_false] at hc
  rcases hc with rfl | rfl | rfl | rfl | rfl | rfl<;>omega
 exact I1.fpOk hb' (I1.hok.fresh hb')
noncomputable def iZs (fs:Av):Ro->Sto->Out Src:=fun ρ M=>(fs ρ M).bind fun ds M1=>match Ze2 ds with | some ns=>if ns.length=3 then .ok (.zips ns) M1 else .bad | none=> .bad
theorem Zhs (hc:X.A.handled=none) (hm:X.mg "zip"=none) (ha:DA X ξ [y1,y2,y3] fs) (hg:Gl X "zip":=by rfl) (hs:starEach [y1,y2,y3] X.env=(false,eval y1 X.env) :: starEach [y2,y3] X.env:=by rfl) (hpl:(backTo pos (starEach [y2,y3] X.env)).any (·.1)=false:=by rfl):
  DI X ξ (.Tuple elts k0 tp) (.Call (.Name "zip" p) [y1,y2,y3] [] pos) (iZs fs):=by
 obtain ⟨ta,pa,qa⟩:=ha
 refine ⟨_,Zhr hc hg hm pa hs hpl,fun σ ρ H α M R s hh q=>qa σ ρ H α M _ s hh (OG.seq q fun ds M1 vs H1 α1 e1 h1 r1 w1=> ?_)⟩
 cases er:Ze2 ds with
 |none=>rw[er] at w1;exact w1.elim
 |some ns=>
  rw[er] at w1
  by_cases hN:ns.length=3
  ·simp only[hN,if_true] at w1
   obtain ⟨ls,rfl,hls⟩:=Zhm r1 er
   match ns,hN with
   | [n1,n2,n3],_=>
    obtain ⟨l1,l2,l3,rfl,hp1,hp2,hp3⟩: ∃ l1 l2 l3,ls=[l1,l2,l3]/\RefK H1 α1 0 n1 l1/\RefK H1 α1 0 n2 l2/\RefK H1 α1 0 n3 l3:=by
     match ls,hls with
     | [l1,l2,l3],h=>exact ⟨l1,l2,l3,rfl,h.1,h.2.1,h.2.2.1⟩
    obtain ⟨zs1,g1⟩:=h1.some_at hp1
    obtain ⟨zs2,g2⟩:=h1.some_at hp2
    obtain ⟨zs3,g3⟩:=h1.some_at hp3
    refine ⟨l1,l2,l3,zs1,zs2,zs3,rfl,SqL.of g1,SqL.of g2,SqL.of g3,w1 _ H1 α1 Ext.refl h1 fun i H' α' M' ex hr=> ?_⟩
    cases em1:M'[n1]? with
    |none=>rw[show nxt (.zips [n1,n2,n3]) i M'=none by simp only[nxt,Zak,em1]];exact True.intro
    |some so1=>
     cases so1 with
     |lst es1=>
     cases em2:M'[n2]? with
     |none=>rw[show nxt (.zips [n1,n2,n3]) i M'=none by simp only[nxt,Zak,em1,em2]];exact True.intro
     |some so2=>
      cases so2 with
      |lst es2=>
      cases em3:M'[n3]? with
      |none=>rw[show nxt (.zips [n1,n2,n3]) i M'=none by simp only[nxt,Zak,em1,em2,em3]];exact True.intro
      |some so3=>
       cases so3 with
       |lst es3=>
       obtain ⟨xs1,g11,g21⟩:=hr.at (ex.get hp1) em1
       obtain ⟨xs2,g12,g22⟩:=hr.at (ex.get hp2) em2
       obtain ⟨xs3,g13,g23⟩:=hr.at (ex.get hp3) em3
       cases ei1:es1[i]? with
       |none=>
        rw[ZaA (M:=M') (i:=i) (ns:=[n1,n2,n3]) ⟨⟨_,em1⟩,⟨_,em2⟩,⟨_,em3⟩,trivial⟩ (n:=n1) (by simp) em1 ei1]
        exact ⟨xs1,xs2,xs3,SqL.of g11,SqL.of g12,SqL.of g13,(.inl (by rw[g21.length];exact List.getElem?_eq_none_iff.mp ei1))⟩
       |some d1=>
        cases ei2:es2[i]? with
        |none=>
          rw[ZaA (M:=M') (i:=i) (ns:=[n1,n2,n3]) ⟨⟨_,em1⟩,⟨_,em2⟩,⟨_,em3⟩,trivial⟩ (n:=n2) (by simp) em2 ei2]
          exact ⟨xs1,xs2,xs3,SqL.of g11,SqL.of g12,SqL.of g13,(.inr (.inl (by rw[g22.length];exact List.getElem?_eq_none_iff.mp ei2)))⟩
        |some d2=>
        cases ei3:es3[i]? with
        |none=>
         rw[ZaA (M:=M') (i:=i) (ns:=[n1,n2,n3]) ⟨⟨_,em1⟩,⟨_,em2⟩,⟨_,em3⟩,trivial⟩ (n:=n3) (by simp) em3 ei3]
         exact ⟨xs1,xs2,xs3,SqL.of g11,SqL.of g12,SqL.of g13,(.inr (.inr (by rw[g23.length];exact List.getElem?_eq_none_iff.mp ei3)))⟩
        |some d3=>
         obtain ⟨v1,k11,k21⟩:=g21.get ei1
         obtain ⟨v2,k12,k22⟩:=g22.get ei2
         obtain ⟨v3,k13,k23⟩:=g23.get ei3
         rw[show nxt (.zips [n1,n2,n3]) i M'=some (some (D.tup [d1,d2,d3])) by simp only[nxt,Zak,em1,em2,em3,ei1,ei2,ei3]]
         refine ⟨⟨xs1,xs2,xs3,v1,v2,v3,SqL.of g11,SqL.of g12,SqL.of g13,k11,k12,k13⟩,fun x H'' y=> ?_⟩
         obtain ⟨pp,y1,rfl,y3⟩:=y
         have y4:=y3 xs1 xs2 xs3 v1 v2 v3 (SqL.of g11) (SqL.of g12) (SqL.of g13) k11 k12 k13
         subst y4
         exact ⟨Ext.new0 y1,hr.tup y1,.tup Zr (.cons (Rep.mono (Ext.new0 y1) k21) (.cons (Rep.mono (Ext.new0 y1) k22) (.cons (Rep.mono (Ext.new0 y1) k23) .nil)))⟩
  ·simp only[hN,if_false] at w1;exact w1.elim
end
end DL3
end
section
namespace DL4
open PySem PySem.Spec PyProof.Rows L2 DL
open Sem (wp)
section
variable {prog:Program} {w:World} {A:Around} {E:Value->Shared->Prop} {s:Shared}
end
section
variable {prog:Program} {w:World} {A:Around} {E:Value->Shared->Prop} {s:Shared}
end
section
variable {X:Cx} {ξ:XK} {y1 y2 y3 y4:Expr} {elts:List Expr} {k0:Nat} {tp:Pos} {fs:Av} {p pos:Pos} {ta:TA}
end
end DL4
end
section
namespace PySem.SeqAt
open AutoSeq1 (wpAny_loadPart')
open MeetsSeq MeetsSeq2 MeetsSeq3 SeqRoads2
noncomputable def Zpn (A:Around) (s:Shared) (y x:Value) (b:Bool):Prop:=
 ∀ (prog:Program) (w:World) (E:Value->Shared->Prop) (Q:Value->Shared->Prop),Q (.bool b) s->wpAny (model prog w) A (richCompare .Lt y x) Q E s
noncomputable def lxI (e f:Nat->Bool) (m n:Nat):Nat->Nat->Bool
 |0,_=>decide (m < n)
 |k + 1,i=>if e i=true then lxI e f m n k (i + 1) else f i
theorem ZhH (l b:Addr) (items items2:Array Value) (n n2:Nat) (dd dd2:Option Addr) (sl sl2:Array (Option Value)) (e f:Nat->Bool) (k:Nat):
  ∀ i:Nat,min items.size items2.size - i=k->Meets (Builtin.«list.__eq__.loop» ⟨[.ref l,.ref b,rawInt i,rawInt 0],[]⟩)
   (fun A R s=>s.heap.get? l=some { cls:= .type "list",dict:=dd,data:= .seq items n,slots:=sl }/\s.heap.get? b=some { cls:= .type "list",dict:=dd2,data:= .seq items2 n2,slots:=sl2 }/\
    (∀ j (h1:j < items.size) (h2:j < items2.size),EqAt A.in1 s items[j] items2[j] (e j))/\(∀ j (h1:j < items.size) (h2:j < items2.size),e j=false->Zpn A.in1 s items[j] items2[j] (f j))/\
    R (.ok (.ret (.bool (lxI e f items.size items2.size k i)))) s):=by
 induction k with
 |zero=>
  intro i hk prog w A R s h
  obtain ⟨hp,g,d,tk,os⟩:=s;obtain ⟨hl,hb,he,hf,h⟩:=h
  wp_walk using wpAny_loadPart' hl,wpAny_loadPart' hb
  have hor:items[((i:Nat):Int).toNat]?=none\/items2[((i:Nat):Int).toNat]?=none:=by
   rcases Nat.lt_or_ge i items.size with c | c
   ·exact .inr (by simp;omega)
   ·exact .inl (by simp;omega)
  rcases hor with hi1 | hi2
  ·rw[hi1]
   wp_walk using wpAny_loadPart' hl,wpAny_loadPart' hb
   exact h
  ·rw[hi2]
   cases hi1:items[((i:Nat):Int).toNat]? with
   |none=>
    wp_walk using wpAny_loadPart' hl,wpAny_loadPart' hb
    exact h
   |some x=>
    wp_walk using wpAny_loadPart' hl,wpAny_loadPart' hb
    exact h
 |succ k ih=>
  intro i hk prog w A R s h
  obtain ⟨hp,g,d,tk,os⟩:=s;obtain ⟨hl,hb,he,hf,h⟩:=h
  wp_walk using wpAny_loadPart' hl,wpAny_loadPart' hb
  have hlt:i < items.size:=by omega
  have hlt2:i < items2.size:=by omega
  have hi1:items[((i:Nat):Int).toNat]?=some items[i]:=by simp[hlt]
  have hi2:items2[((i:Nat):Int).toNat]?=some items2[i]:=by simp[hlt2]
  have hc:((i:Int) + 1)=((i + 1:Nat):Int):=by push_cast;rfl
  rw[lxI] at h
  rw[hi1,hi2]
  refine wpAny_bind (he i hlt hlt2 prog w _ _ ?_)
  cases hb':e i with
  |true=>
   rw[if_pos hb'] at h
   wp_walk
   rw[hc]
   exact ⟨plainId_quiet plain_eq_loop _,codeAny_builtin entry_eq_loop (by
    rw[Around.under_plainId plain_eq_loop _]
    exact ih (i + 1) (by omega) prog w A R _ ⟨hl,hb,he,hf,h⟩)⟩
  |false=>
   rw[if_neg (by rw[hb'];decide)] at h
   wp_walk using wpAny_loadPart' hl,wpAny_loadPart' hb
   rw[hi1,hi2]
   refine wpAny_bind (hf i hlt hlt2 hb' prog w _ _ ?_)
   wp_walk
   exact h
theorem Zev (l b:Addr) (items items2:Array Value) (n n2:Nat) (dd dd2:Option Addr) (sl sl2:Array (Option Value)) (e f:Nat->Bool):
  Meets (Builtin.«list.__lt__» ⟨[.ref l,.ref b],[]⟩)
   (fun A R s=>s.heap.get? l=some { cls:= .type "list",dict:=dd,data:= .seq items n,slots:=sl }/\s.heap.get? b=some { cls:= .type "list",dict:=dd2,data:= .seq items2 n2,slots:=sl2 }/\
    (∀ j (h1:j < items.size) (h2:j < items2.size),EqAt A.in1 s items[j] items2[j] (e j))/\(∀ j (h1:j < items.size) (h2:j < items2.size),e j=false->Zpn A.in1 s items[j] items2[j] (f j))/\
    R (.ok (.ret (.bool (lxI e f items.size items2.size (min items.size items2.size) 0)))) s):=by
 intro prog w A R s h
 obtain ⟨hp,g,d,tk,os⟩:=s;obtain ⟨hl,hb,he,hf,h⟩:=h
 have f3:=AutoSeq1.sub_list_list
 wp_walk using wpAny_loadPart' hl,wpAny_loadPart' hb
 exact ⟨plainId_quiet plain_eq_loop _,codeAny_builtin entry_eq_loop (by
  rw[Around.under_plainId plain_eq_loop _]
  exact ZhH l b items items2 n n2 dd dd2 sl sl2 e f _ 0 rfl prog w A R _ ⟨hl,hb,he,hf,h⟩)⟩
end PySem.SeqAt
namespace DL
open PySem PySem.Spec PyProof.Rows L2
open PySem.SeqAt
noncomputable def ZaS:List D->Option (List Int)
 | []=>some []
 | .int i :: r=>match ZaS r with | some is=>some (i :: is) | none=>none
 |_ :: _=>none
noncomputable def ltE:D->D->Option Bool
 | .int a,.int b=>some (decide (a < b))
 | .tup xs,.tup ys=>(match ZaS xs,ZaS ys with | some a,some b=>some (HT.ZbA a b) | _,_=>none)
 |_,_=>none
noncomputable def ltL:List D->List D->Option Bool
 | [],[]=>some false
 | [],_ :: _=>some true
 |_ :: _,[]=>some false
 |x :: xs,y :: ys=>match ltE x y with
  |none=>none
  |some b=>if eqX x y=true then ltL xs ys else some b
where eqX:D->D->Bool
 | .int a,.int b=>a == b
 | .tup xs,.tup ys=>ZaS xs == ZaS ys
 |_,_=>false
theorem Zew {M:Sto} {n:Nat}: ∀ {xs ys:List D} {a b:List Int},ZaS xs=some a->ZaS ys=some b->eqL (eqF (n + 1) M) xs ys=some (a == b)
 | [],[],a,b,h1,h2=>by cases h1;cases h2;rfl
 | [],y :: ys,a,b,h1,h2=>by
  cases h1
  cases y with
  |int i=>
   unfold ZaS at h2
   split at h2
   ·cases h2;rfl
   ·cases h2
  |_=>cases h2
 |x :: xs,[],a,b,h1,h2=>by
  cases h2
  cases x with
  |int i=>
   unfold ZaS at h1
   split at h1
   ·cases h1;rfl
   ·cases h1
  |_=>cases h1
 |x :: xs,y :: ys,a,b,h1,h2=>by
  cases x with
  |int i=>
   cases y with
   |int j=>
    unfold ZaS at h1 h2
    split at h1
    ·rename_i is e1
     split at h2
     ·rename_i js e2
      cases h1
      cases h2
      rw[eqL,Zew e1 e2]
      show some ((i == j) && (is == js))=_
      rfl
     ·cases h2
    ·cases h1
   |_=>cases h2
  |_=>cases h1
theorem ZjD {M:Sto} {n:Nat} {x y:D} {b:Bool} (h:ltE x y=some b):eqF (n + 2) M x y=some (ltL.eqX x y):=by
 cases x with
 |int i=>
  cases y with
  |int j=>rfl
  |_=>cases h
 |tup xs=>
  cases y with
  |tup ys=>
   cases e1:ZaS xs with
   |none=>simp only[ltE,e1] at h;cases h
   |some a=>
    cases e2:ZaS ys with
    |none=>simp only[ltE,e1,e2] at h;cases h
    |some c=>
     show eqL (eqF (n + 1) M) xs ys=_
     rw[Zew e1 e2]
     simp only[ltL.eqX,e1,e2]
     rfl
  |_=>cases h
 |_=>cases h
theorem ZbF {K:PySem.W.Frag} {H:Hp} {α:List Addr}: ∀ {vs:List V} {ds:List D} {a:List Int},Reps K H α vs ds->ZaS ds=some a->vs=a.map V.int
 |_,_,a,.nil,e=>by cases e;rfl
 |_,_,a,.cons (d:=d) (ds:=ds) r t,e=>by
  cases r with
  |int i=>
   unfold ZaS at e
   split at e
   ·rename_i is e1
    cases e
    rw[ZbF t e1]
    rfl
   ·cases e
  |_=>cases e
section
variable {X:Cx} {pins:List (Addr × Obj)} {σ:L2.St} {H:Hp} {s:Shared} {α:List Addr} {M:Sto}
theorem ZmR (I:Inv X pins σ H s) {A:Around} (hu:A.units < cLine) {x y:D} {v w:V} {u z:Value} {b:Bool} (h:ltE x y=some b) (r1:Rep X.K H α v x) (r2:Rep X.K H α w y) (ru:ZS v u) (rz:ZS w z):Zpn A s u z b:=by
 intro prog w' E Q q
 cases r1 with
 |int i=>
  cases r2 with
  |int j=>
   cases h
   obtain ⟨t,rfl⟩:=ru
   obtain ⟨t',rfl⟩:=rz
   exact lt_int q
  |_=>cases h
 | @tup p xs ds hp rp=>
  cases r2 with
  | @tup p2 xs2 ds2 hp2 rp2=>
   cases e1:ZaS ds with
   |none=>simp only[ltE,e1] at h;cases h
   |some a=>
    cases e2:ZaS ds2 with
    |none=>simp only[ltE,e1,e2] at h;cases h
    |some c=>
     simp only[ltE,e1,e2,Option.some.injEq] at h
     subst h
     cases ru
     cases rz
     have h1:=ZbF rp e1
     have h2:=ZbF rp2 e2
     subst h1 h2
     obtain ⟨its,q1,p1,_⟩:=I.tuple (SqT.of hp)
     obtain ⟨its2,q2,p2',_⟩:=I.tuple (SqT.of hp2)
     exact HT.Zf4 p1 p2' (ZbN q1) (ZbN q2) hu q
  |_=>cases h
 |_=>cases h
theorem ZhI: ∀ {xs ys:List D} {b:Bool},ltL xs ys=some b-> ∀ (e f:Nat->Bool) (i m n:Nat),(∀ j x y,xs[j]?=some x->ys[j]?=some y->(ltE x y).isSome=true->e (i + j)=ltL.eqX x y/\(ltL.eqX x y=false->ltE x y=some (f (i + j))))->m=i + xs.length->n=i + ys.length->lxI e f m n (min xs.length ys.length) i=b
 | [],[],b,h,e,f,i,m,n,hh,hm,hn=>by cases h;simp[lxI,hm,hn]
 | [],y :: ys,b,h,e,f,i,m,n,hh,hm,hn=>by cases h;simp[lxI,hm,hn]
 |x :: xs,[],b,h,e,f,i,m,n,hh,hm,hn=>by cases h;simp[lxI,hm,hn]
 |x :: xs,y :: ys,b,h,e,f,i,m,n,hh,hm,hn=>by
  rw[ltL] at h
  cases el:ltE x y with
  |none=>rw[el] at h;cases h
  |some c=>
   rw[el] at h
   simp only at h
   obtain ⟨h1,h2⟩:=hh 0 x y rfl rfl (by rw[el];rfl)
   rw[Nat.add_zero] at h1 h2
   rw[List.length_cons,List.length_cons,Nat.succ_min_succ,lxI,h1]
   by_cases q:ltL.eqX x y=true
   ·rw[if_pos q] at h ⊢
    exact ZhI h e f (i + 1) m n (fun j a b' ha hb hs=>by
     have:=hh (j + 1) a b' (by simpa using ha) (by simpa using hb) hs
     rw[show i + (j + 1)=i + 1 + j by omega] at this
     exact this) (by rw[hm,List.length_cons];omega) (by rw[hn,List.length_cons];omega)
   ·rw[if_neg q] at h ⊢
    cases h
    have:=h2 (by simpa using q)
    rw[el] at this
    exact (Option.some.inj this).symm
noncomputable def Zbu:List D->List D->Bool
 |x :: xs,y :: ys=>(ltE x y).isSome && Zbu xs ys
 |_,_=>true
theorem ZbG: ∀ {xs ys:List D},Zbu xs ys=true-> ∀ (j:Nat) x y,xs[j]?=some x->ys[j]?=some y->(ltE x y).isSome=true
 | [],_,_,j,x,y,hx,_=>by simp at hx
 |_ :: _,[],_,j,x,y,_,hy=>by simp at hy
 |x0 :: xs,y0 :: ys,h,j,x,y,hx,hy=>by
  rw[Zbu,Bool.and_eq_true] at h
  cases j with
  |zero=>simp at hx hy;subst hx hy;exact h.1
  |succ j=>exact ZbG h.2 j x y (by simpa using hx) (by simpa using hy)
noncomputable def Zrj (X:Cx):R2:=fun v w H Q=> ∃ α M p q xs ys ds es b,HR X.K H α M/\v= .ref p/\w= .ref q/\H p=some (.lst xs)/\H q=some (.lst ys)/\Reps X.K H α xs ds/\Reps X.K H α ys es/\Zbu ds es=true/\ltL ds es=some b/\Q (.bl b) H
theorem ZcV: ∀ {xs:List V} {us:List Value} {j:Nat} {u:Value},ZW xs us->us[j]?=some u-> ∃ x,xs[j]?=some x/\ZS x u
 | [],us,j,u,h,e=>by cases h;simp at e
 |x :: xs,us,j,u,h,e=>by
  cases h with
  |cons h1 h2=>
   cases j with
   |zero=>simp at e;subst e;exact ⟨x,rfl,h1⟩
   |succ j=>simp at e;obtain ⟨y,g1,g2⟩:=ZcV h2 e;exact ⟨y,by simpa using g1,g2⟩
theorem ZcW {K:PySem.W.Frag}: ∀ {xs:List V} {ds:List D} {j:Nat} {x:V},Reps K H α xs ds->xs[j]?=some x-> ∃ d,ds[j]?=some d/\Rep K H α x d
 |_,_,j,x,.nil,e=>by simp at e
 |_,_,0,x,.cons r _,e=>by simp at e;subst e;exact ⟨_,rfl,r⟩
 |_,_,j + 1,x,.cons _ t,e=>by
  obtain ⟨d,g1,g2⟩:=ZcW (j:=j) t (by simpa using e)
  exact ⟨d,by simpa using g1,g2⟩
theorem ZmS (hu:X.A.units + 64 < cLine):OpR X (compareOp .Lt) (Zrj X):=by
 intro pins s σ H x y v u Q I rx ry ⟨α,M,p,q,xs,ys,ds,es,b,hr,e1,e2,hp,hq,r1,r2,hc,hl,k⟩
 subst e1 e2
 cases (show v=Value.ref p from rx)
 cases (show u=Value.ref q from ry)
 obtain ⟨its,v1,p1,_⟩:=I.list (SqL.of hp)
 obtain ⟨its2,v2,p2,_⟩:=I.list (SqL.of hq)
 obtain ⟨⟨cls,dd,data,sl⟩,ho,hcl,n,hd⟩:=id p1.isList
 obtain ⟨⟨cls2,dd2,data2,sl2⟩,ho2,hcl2,n2,hd2⟩:=id p2.isList
 simp only at hcl hd hcl2 hd2
 subst hcl hd hcl2 hd2
 let e:Nat->Bool:=fun j=>match ds[j]?,es[j]? with | some a,some c=>ltL.eqX a c | _,_=>false
 let f:Nat->Bool:=fun j=>match ds[j]?,es[j]? with | some a,some c=>(ltE a c).getD false | _,_=>false
 have both: ∀ j (h1:j < its.toArray.size) (h2:j < its2.toArray.size),∃ a c vx vy,ds[j]?=some a/\es[j]?=some c/\Rep X.K H α vx a/\Rep X.K H α vy c/\ZS vx its.toArray[j]/\ZS vy its2.toArray[j]:=by
  intro j h1 h2
  obtain ⟨vx,g1,g2⟩:=ZcV (j:=j) (u:=its.toArray[j]) v1 (by simp at h1;simp[h1])
  obtain ⟨vy,g3,g4⟩:=ZcV (j:=j) (u:=its2.toArray[j]) v2 (by simp at h2;simp[h2])
  obtain ⟨a,g5,g6⟩:=ZcW r1 g1
  obtain ⟨c,g7,g8⟩:=ZcW r2 g3
  exact ⟨a,c,vx,vy,g5,g7,g6,g8,g2,g4⟩
 have lx:lxI e f its.toArray.size its2.toArray.size (min its.toArray.size its2.toArray.size) 0=b:=by
  have l1:its.toArray.size=ds.length:=by rw[List.size_toArray,<- v1.length,r1.length]
  have l2:its2.toArray.size=es.length:=by rw[List.size_toArray,<- v2.length,r2.length]
  rw[l1,l2]
  refine ZhI hl e f 0 _ _ (fun j a c ha hb hs=> ?_) (by omega) (by omega)
  rw[Nat.zero_add]
  refine ⟨by show (match ds[j]?,es[j]? with | some a,some c=>ltL.eqX a c | _,_=>false)=_;rw[ha,hb],fun _=> ?_⟩
  show _=some (match ds[j]?,es[j]? with | some a,some c=>(ltE a c).getD false | _,_=>false)
  obtain ⟨b',hb'⟩:=Option.isSome_iff_exists.mp hs
  simp[ha,hb,hb']
 refine richCompare_meets_room (op:= .Lt) ⟨_,ho,rfl⟩ ⟨_,ho2,rfl⟩ F.slot_list_lt F.entry_list_lt (F.args_list_lt_2 _ _) (Zev p q its.toArray its2.toArray n n2 dd dd2 sl sl2 e f)
  ⟨ho,ho2,fun j h1 h2=> ?_,fun j h1 h2 ej=> ?_,?_⟩ (by omega)
 ·obtain ⟨a,c,vx,vy,g1,g2,g3,g4,g5,g6⟩:=both j h1 h2
  have hs:=ZbG hc j a c g1 g2
  obtain ⟨b',hb'⟩:=Option.isSome_iff_exists.mp hs
  have ee:e j=ltL.eqX a c:=by show (match ds[j]?,es[j]? with | some a,some c=>ltL.eqX a c | _,_=>false)=_;rw[g1,g2]
  rw[ee]
  exact (eq3 I hr 12 a c vx vy _ _ _ _ (by rw[Around.in1_units];omega) (ZjD (n:=10) hb') g3 g4 g5 g6).1
 ·obtain ⟨a,c,vx,vy,g1,g2,g3,g4,g5,g6⟩:=both j h1 h2
  have hs:=ZbG hc j a c g1 g2
  obtain ⟨b',hb'⟩:=Option.isSome_iff_exists.mp hs
  have ff:f j=b':=by show (match ds[j]?,es[j]? with | some a,some c=>(ltE a c).getD false | _,_=>false)=_;rw[g1,g2];simp only;rw[hb'];rfl
  rw[ff]
  exact ZmR I (by rw[Around.in1_units];omega) hb' g3 g4 g5 g6
 ·rw[lx]
  show Value.bool b≠Value.notImplemented/\EP X pins σ Q (.bool b) s
  exact ⟨(fun z=>nomatch z),(⟨V.bl b,H,I,rfl,k⟩:EP X pins σ Q (.bool b) s)⟩
noncomputable def dLtL:Bo:=fun x y M=>match x,y with
 | .ref n,.ref m=>(match M[n]?,M[m]? with | some (.lst ds),some (.lst es)=>if Zbu ds es=true then (match ltL ds es with | some b=> .ok (.bl b) M | none=> .bad) else .bad | _,_=> .bad)
 |_,_=> .bad
theorem ZmT {ξ:XK}:BO X ξ (Zrj X) dLtL:=by
 intro H α M v w x y Q h r1 r2 q
 cases r1 with
 | @ref p n hp=>
  cases r2 with
  | @ref p2 m hp2=>
   simp only[dLtL] at q
   cases e1:M[n]? with
   |none=>simp only[e1] at q;exact q.elim
   |some so=>
    cases e2:M[m]? with
    |none=>cases so;simp only[e1,e2] at q;exact q.elim
    |some so2=>
     cases so with
     |lst ds=>
      cases so2 with
      |lst es=>
       simp only[e1,e2] at q
       by_cases hc:Zbu ds es=true
       ·rw[if_pos hc] at q
        cases hl:ltL ds es with
        |none=>simp only[hl] at q;exact q.elim
        |some b=>
         simp only[hl] at q
         obtain ⟨xs,g1,g2⟩:=h.at hp e1
         obtain ⟨ys,g3,g4⟩:=h.at hp2 e2
         exact ⟨α,M,p,p2,xs,ys,ds,es,b,h,rfl,rfl,g1,g3,g2,g4,hc,hl,q _ H α Ext.refl h (.bl b)⟩
       ·rw[if_neg hc] at q
        exact q.elim
  |_=>exact q.elim
 |_=>cases r2<;>exact q.elim
end
end DL
end
section
namespace PySem
open Sem (wp)
section
variable {prog:Program} {w:World} {A:Around} {R:Result->Shared->Prop} {I:Addr} {fp wr:List Addr} {P:Nat->Value->Prop} {St:Nat->Heap->Prop}
theorem ZjE (W:Walks prog w A.in1 I fp wr 2 P St) (S:Addr) (hSf:S ∉ fp) {s:Shared} {vb:Value} {c:Nat} (hst:St 2 s.heap)
  (hS:s.heap.get? S=some { cls:= .type "list",dict:=none,data:= .seq #[vb,vb] c,slots:= #[] })
  (hR: ∀ h' tk,(∀ b o,b ∉ wr->b≠S->s.heap.get? b=some o->h'.get? b=some o)->R (.ok (.ret vb)) { s with heap:=h',toks:=tk }):
  codeAny (model prog w) A (.builtin "min.loop" ⟨[.ref I,.none,.ref S],[]⟩) R s:=by
 have hSw:S ∉ wr:=fun h=>hSf (W.sub _ h)
 refine codeAny_builtin F.entry_min_loop ?_
 rw[Around.under_plainId F.plain_min_loop _]
 show wpAny _ A.in1 (seqItems? (.ref S) >>= _) _ _ s
 refine wpAny_bind (wpAny_seqItems hS rfl ?_)
 show wpAny _ A.in1 (tryCatch (pyNext (.ref I)) _ >>= _) _ _ s
 refine wpAny_bind (wpAny_tryCatch (W.done s _ _ hst fun h' tk hk'=> ?_))
 have hS':=hk' S _ hSw hS
 show wpAny _ A.in1 (updateSeq S (fun _=> #[]) >>= _) _ _ _
 refine wpAny_bind ?_
 refine wpAny_updateSeq hS' rfl (wpAny_bind (wpAny_letGo (wpAny_pure ?_)))
 exact hR _ tk fun b o hbw hbS e=>(Heap.get?_update_other _ _ (Ne.symm hbS)).trans (hk' b o hbw e)
theorem ZmU (W:Walks prog w A.in1 I fp wr 2 P St) (S:Addr) (hSf:S ∉ fp) {s:Shared} {v0 v1:Value} {bt:Bool} {c:Nat} (hst:St 1 s.heap) (hP1: ∀ v,P 1 v->v=v1)
  (hS:s.heap.get? S=some { cls:= .type "list",dict:=none,data:= .seq #[v0,v0] c,slots:= #[] })
  (hcmp: ∀ (h':Heap) (tk:Nat) (Q E:Value->Shared->Prop),(∀ b o,b ∉ wr->b≠S->s.heap.get? b=some o->h'.get? b=some o)->Q (.bool bt) { s with heap:=h',toks:=tk }->wpAny (model prog w) A.in1 (richCompare .Lt v1 v0) Q E { s with heap:=h',toks:=tk })
  (hR: ∀ h' tk,(∀ b o,b ∉ wr->b≠S->s.heap.get? b=some o->h'.get? b=some o)->R (.ok (.ret (if bt then v1 else v0))) { s with heap:=h',toks:=tk }):
  codeAny (model prog w) A (.builtin "min.loop" ⟨[.ref I,.none,.ref S],[]⟩) R s:=by
 have hSw:S ∉ wr:=fun h=>hSf (W.sub _ h)
 have hname:(toString "min" ++ toString ".loop":String)="min.loop":=by decide
 refine codeAny_builtin F.entry_min_loop ?_
 rw[Around.under_plainId F.plain_min_loop _]
 show wpAny _ A.in1 (seqItems? (.ref S) >>= _) _ _ s
 refine wpAny_bind (wpAny_seqItems hS rfl ?_)
 show wpAny _ A.in1 (tryCatch (pyNext (.ref I)) _ >>= _) _ _ s
 refine wpAny_bind (wpAny_tryCatch (W.item 1 s _ _ (by decide) hst fun v h' tk hP hst' hk'=> ?_))
 have hS':=hk' S _ hSw hS
 have e1:=hP1 v hP
 subst e1
 show wpAny _ A.in1 (tryCatch (holding [v,v] (richCompare .Lt v v0 >>= _)) _ >>= _) _ _ _
 refine wpAny_bind (wpAny_tryCatch (wpAny_holding (wpAny_bind (hcmp h' tk _ _ (fun b o hb _ e=>hk' b o hb e) ?_))))
 refine wpAny_bind (wpAny_holding (wpAny_truthy_bool ?_))
 refine wpAny_bind (wpAny_letGo (wpAny_pure ?_))
 cases bt with
 |true=>
  simp only[if_true]
  refine wpAny_bind ?_
  refine wpAny_updateSeq hS' rfl (wpAny_bind (wpAny_letGo ?_))
  rw[hname]
  refine wpAny_pure ⟨plainId_quiet F.plain_min_loop _,ZjE W S hSf (W.frame _ _ _ hst' fun b hbf o e=> ?_) (Heap.get?_update_self _ hS' rfl) fun h'' tk'' hk''=> ?_⟩
  ·exact (Heap.get?_update_other _ _ (fun h:S=b=>hSf (by rw[h];exact hbf))).trans e
  ·exact hR h'' tk'' fun b o hbw hbS e=>hk'' b o hbw hbS ((Heap.get?_update_other _ _ (Ne.symm hbS)).trans (hk' b o hbw e))
 |false=>
  simp only[Bool.false_eq_true,if_false]
  refine wpAny_bind (wpAny_letGo ?_)
  rw[hname]
  refine wpAny_pure ⟨plainId_quiet F.plain_min_loop _,ZjE W S hSf hst' hS' fun h'' tk'' hk''=> ?_⟩
  exact hR h'' tk'' fun b o hbw hbS e=>hk'' b o hbw hbS (hk' b o hbw e)
theorem ZkI (W:Walks prog w A.in1 I fp wr 2 P St) (S:Addr) (hSf:S ∉ fp) {s:Shared} {v0 v1:Value} {bt:Bool} {c:Nat} (hst:St 0 s.heap) (hP0: ∀ v,P 0 v->v=v0) (hP1: ∀ v,P 1 v->v=v1)
  (hS:s.heap.get? S=some { cls:= .type "list",dict:=none,data:= .seq #[] c,slots:= #[] })
  (hcmp: ∀ (h':Heap) (tk:Nat) (Q E:Value->Shared->Prop),(∀ b o,b ∉ wr->b≠S->s.heap.get? b=some o->h'.get? b=some o)->Q (.bool bt) { s with heap:=h',toks:=tk }->wpAny (model prog w) A.in1 (richCompare .Lt v1 v0) Q E { s with heap:=h',toks:=tk })
  (hR: ∀ h' tk,(∀ b o,b ∉ wr->b≠S->s.heap.get? b=some o->h'.get? b=some o)->R (.ok (.ret (if bt then v1 else v0))) { s with heap:=h',toks:=tk }):
  codeAny (model prog w) A (.builtin "min.loop" ⟨[.ref I,.none,.ref S],[]⟩) R s:=by
 have hSw:S ∉ wr:=fun h=>hSf (W.sub _ h)
 have hname:(toString "min" ++ toString ".loop":String)="min.loop":=by decide
 refine codeAny_builtin F.entry_min_loop ?_
 rw[Around.under_plainId F.plain_min_loop _]
 show wpAny _ A.in1 (seqItems? (.ref S) >>= _) _ _ s
 refine wpAny_bind (wpAny_seqItems hS rfl ?_)
 show wpAny _ A.in1 (tryCatch (pyNext (.ref I)) _ >>= _) _ _ s
 refine wpAny_bind (wpAny_tryCatch (W.item 0 s _ _ (by decide) hst fun v h' tk hP hst' hk'=> ?_))
 have hS':=hk' S _ hSw hS
 have e0:=hP0 v hP
 subst e0
 show wpAny _ A.in1 (updateSeq S (fun _=> #[v,v]) >>= _) _ _ _
 refine wpAny_bind ?_
 refine wpAny_updateSeq hS' rfl ?_
 rw[hname]
 refine wpAny_pure ⟨plainId_quiet F.plain_min_loop _,ZmU W S hSf (W.frame _ _ _ hst' fun b hbf o e=> ?_) hP1 (Heap.get?_update_self _ hS' rfl) (fun h2 tk2 Q E hk'' hq=>hcmp h2 tk2 Q E (fun b o hbw hbS e=>hk'' b o hbw hbS ((Heap.get?_update_other _ _ (Ne.symm hbS)).trans (hk' b o hbw e))) hq) fun h'' tk'' hk''=> ?_⟩
 ·exact (Heap.get?_update_other _ _ (fun h:S=b=>hSf (by rw[h];exact hbf))).trans e
 ·exact hR h'' tk'' fun b o hbw hbS e=>hk'' b o hbw hbS ((Heap.get?_update_other _ _ (Ne.symm hbS)).trans (hk' b o hbw e))
end
section
variable {prog:Program} {w:World} {A:Around} {E:Value->Shared->Prop} {s:Shared}
theorem Zgj {v0 v1:Value} {bt:Bool} {Q:Value->Shared->Prop} (hh:A.handled=none)
  (hcmp: ∀ (h':Heap) (tk:Nat) (Q E:Value->Shared->Prop),(∀ b o,s.heap.get? b=some o->h'.get? b=some o)->Q (.bool bt) { s with heap:=h',toks:=tk }->wpAny (model prog w) A.in1 (richCompare .Lt v1 v0) Q E { s with heap:=h',toks:=tk })
  (h: ∀ h' tk,(∀ c o,s.heap.get? c=some o->h'.get? c=some o)->Q (if bt then v1 else v0) { s with heap:=h',toks:=tk }):
  wpAny (model prog w) A (call (.builtin "min") [v0,v1]) Q E s:=by
 have hname:(toString "min" ++ toString ".loop":String)="min.loop":=by decide
 refine call_function_tree F.kind_min F.plain_min F.entry_min (F.args_min2 _ _) ?_
 show wpAny _ A.in1 (Builtin.Builtins.bindParams "min" ["key","default"] 0 ⟨[],[]⟩ >>= _) _ _ s
 refine wpAny_bind (wpAny_of_eq (show Builtin.Builtins.bindParams "min" ["key","default"] 0 ⟨[],[]⟩=pure [none,none] from rfl) ?_)
 show wpAny _ A.in1 (newTuple [v0,v1] >>= _) _ _ s
 refine wpAny_bind (wpAny_newObj_type ?_)
 have hT:(s.heap.push { cls:= .type "tuple",data:= .seq #[v0,v1] }).IsTuple s.heap.objs.size #[v0,v1]:=⟨_,Heap.get?_push_size _ rfl,rfl,0,rfl⟩
 refine wpAny_bind (wpAny_pyIter_tuple hT ?_)
 have hsz:(s.heap.push { cls:= .type "tuple",data:= .seq #[v0,v1] }).objs.size=s.heap.objs.size + 1:=Heap.size_push ..
 refine wpAny_bind (wpAny_newObj_type ?_)
 rw[hname]
 have W:=Walks.tuple (prog:=prog) (w:=w) (A:=A.in1) hh (s.heap.push { cls:= .type "tuple",data:= .seq #[v0,v1] }).objs.size s.heap.objs.size (by rw[hsz];exact Nat.ne_of_lt (Nat.lt_succ_self _)) #[v0,v1]
 have hI:((s.heap.push { cls:= .type "tuple",data:= .seq #[v0,v1] }).push { cls:= .type "tuple_iterator",data:= .fields #[.ref s.heap.objs.size,.int 0 0] }).objs.size=s.heap.objs.size + 2:=by rw[Heap.size_push,hsz]
 have old: ∀ (x:Obj) b o,s.heap.get? b=some o->(((s.heap.push { cls:= .type "tuple",data:= .seq #[v0,v1] }).push { cls:= .type "tuple_iterator",data:= .fields #[.ref s.heap.objs.size,.int 0 0] }).push x).get? b=some o:=fun x b o e=>Heap.get?_push_of_some _ (Heap.get?_push_of_some _ (Heap.get?_push_of_some _ e))
 have lt: ∀ b o,s.heap.get? b=some o->b < s.heap.objs.size:=fun b o e=>Heap.lt_size e
 refine wpAny_pure ⟨plainId_quiet F.plain_min_loop _,ZkI W _ ?_ (v0:=v0) (v1:=v1) (bt:=bt) (W.frame _ _ _ ⟨⟨_,Heap.get?_push_size _ rfl,rfl,rfl⟩,hT.push _⟩ fun b _ o e=>Heap.get?_push_of_some _ e) (fun v h=> ?_) (fun v h=> ?_) (Heap.get?_push_size _ rfl) (fun h2 tk2 Q E hk hq=>hcmp h2 tk2 Q E (fun b o e=>hk b o ?_ ?_ (old _ b o e)) hq) fun h' tk hk=>h h' tk fun b o e=>hk b o ?_ ?_ (old _ b o e)⟩
 ·intro hm
  change ((s.heap.push { cls:= .type "tuple",data:= .seq #[v0,v1] }).push { cls:= .type "tuple_iterator",data:= .fields #[.ref s.heap.objs.size,.int 0 0] }).objs.size∈[(s.heap.push { cls:= .type "tuple",data:= .seq #[v0,v1] }).objs.size,s.heap.objs.size] at hm
  rw[hI,hsz] at hm
  simp at hm
 ·exact (Option.some.inj h).symm
 ·exact (Option.some.inj h).symm
 ·intro hm
  rw[hsz] at hm
  have l:=lt b o e
  simp at hm
  rw[hm] at l
  exact Nat.lt_irrefl _ (Nat.lt_of_succ_lt l)
 ·intro hm
  change b=((s.heap.push { cls:= .type "tuple",data:= .seq #[v0,v1] }).push { cls:= .type "tuple_iterator",data:= .fields #[.ref s.heap.objs.size,.int 0 0] }).objs.size at hm
  rw[hI] at hm
  have l:=lt b o e
  rw[hm] at l
  exact Nat.lt_irrefl _ (Nat.lt_of_succ_lt (Nat.lt_of_succ_lt l))
 ·intro hm
  rw[hsz] at hm
  have l:=lt b o e
  simp at hm
  rw[hm] at l
  exact Nat.lt_irrefl _ (Nat.lt_of_succ_lt l)
 ·intro hm
  change b=((s.heap.push { cls:= .type "tuple",data:= .seq #[v0,v1] }).push { cls:= .type "tuple_iterator",data:= .fields #[.ref s.heap.objs.size,.int 0 0] }).objs.size at hm
  rw[hI] at hm
  have l:=lt b o e
  rw[hm] at l
  exact Nat.lt_irrefl _ (Nat.lt_of_succ_lt (Nat.lt_of_succ_lt l))
end
end PySem
namespace DL
open PySem PySem.Spec PyProof.Rows L2
open PySem.SeqAt
section
variable {X:Cx} {pins:List (Addr × Obj)} {σ:L2.St} {H:Hp} {s:Shared} {α:List Addr} {M:Sto}
theorem ZmV {A:Around} {p q:Addr} {xs ys:List V} {ds es:List D} {b:Bool} {Q E:Value->Shared->Prop} (hu:A.units + 63 < cLine) (I:Inv X pins σ H s) (hr:HR X.K H α M) (hp:H p=some (.lst xs)) (hq:H q=some (.lst ys)) (r1:Reps X.K H α xs ds) (r2:Reps X.K H α ys es) (hc:Zbu ds es=true) (hl:ltL ds es=some b) (k:Q (.bool b) s):wpAny (model X.prog X.w) A (richCompare .Lt (.ref p) (.ref q)) Q E s:=by
 obtain ⟨its,v1,p1,_⟩:=I.list (SqL.of hp)
 obtain ⟨its2,v2,p2,_⟩:=I.list (SqL.of hq)
 obtain ⟨⟨cls,dd,data,sl⟩,ho,hcl,n,hd⟩:=id p1.isList
 obtain ⟨⟨cls2,dd2,data2,sl2⟩,ho2,hcl2,n2,hd2⟩:=id p2.isList
 simp only at hcl hd hcl2 hd2
 subst hcl hd hcl2 hd2
 let e:Nat->Bool:=fun j=>match ds[j]?,es[j]? with | some a,some c=>ltL.eqX a c | _,_=>false
 let f:Nat->Bool:=fun j=>match ds[j]?,es[j]? with | some a,some c=>(ltE a c).getD false | _,_=>false
 have both: ∀ j (h1:j < its.toArray.size) (h2:j < its2.toArray.size),∃ a c vx vy,ds[j]?=some a/\es[j]?=some c/\Rep X.K H α vx a/\Rep X.K H α vy c/\ZS vx its.toArray[j]/\ZS vy its2.toArray[j]:=by
  intro j h1 h2
  obtain ⟨vx,g1,g2⟩:=ZcV (j:=j) (u:=its.toArray[j]) v1 (by simp at h1;simp[h1])
  obtain ⟨vy,g3,g4⟩:=ZcV (j:=j) (u:=its2.toArray[j]) v2 (by simp at h2;simp[h2])
  obtain ⟨a,g5,g6⟩:=ZcW r1 g1
  obtain ⟨c,g7,g8⟩:=ZcW r2 g3
  exact ⟨a,c,vx,vy,g5,g7,g6,g8,g2,g4⟩
 have lx:lxI e f its.toArray.size its2.toArray.size (min its.toArray.size its2.toArray.size) 0=b:=by
  have l1:its.toArray.size=ds.length:=by rw[List.size_toArray,<- v1.length,r1.length]
  have l2:its2.toArray.size=es.length:=by rw[List.size_toArray,<- v2.length,r2.length]
  rw[l1,l2]
  refine ZhI hl e f 0 _ _ (fun j a c ha hb hs=> ?_) (by omega) (by omega)
  rw[Nat.zero_add]
  refine ⟨by show (match ds[j]?,es[j]? with | some a,some c=>ltL.eqX a c | _,_=>false)=_;rw[ha,hb],fun _=> ?_⟩
  show _=some (match ds[j]?,es[j]? with | some a,some c=>(ltE a c).getD false | _,_=>false)
  obtain ⟨b',hb'⟩:=Option.isSome_iff_exists.mp hs
  simp[ha,hb,hb']
 refine richCompare_meets_room (op:= .Lt) ⟨_,ho,rfl⟩ ⟨_,ho2,rfl⟩ F.slot_list_lt F.entry_list_lt (F.args_list_lt_2 _ _) (Zev p q its.toArray its2.toArray n n2 dd dd2 sl sl2 e f)
  ⟨ho,ho2,fun j h1 h2=> ?_,fun j h1 h2 ej=> ?_,?_⟩ (by omega)
 ·obtain ⟨a,c,vx,vy,g1,g2,g3,g4,g5,g6⟩:=both j h1 h2
  have hs:=ZbG hc j a c g1 g2
  obtain ⟨b',hb'⟩:=Option.isSome_iff_exists.mp hs
  have ee:e j=ltL.eqX a c:=by show (match ds[j]?,es[j]? with | some a,some c=>ltL.eqX a c | _,_=>false)=_;rw[g1,g2]
  rw[ee]
  exact (eq3 I hr 12 a c vx vy _ _ _ _ (by rw[Around.in1_units];omega) (ZjD (n:=10) hb') g3 g4 g5 g6).1
 ·obtain ⟨a,c,vx,vy,g1,g2,g3,g4,g5,g6⟩:=both j h1 h2
  have hs:=ZbG hc j a c g1 g2
  obtain ⟨b',hb'⟩:=Option.isSome_iff_exists.mp hs
  have ff:f j=b':=by show (match ds[j]?,es[j]? with | some a,some c=>(ltE a c).getD false | _,_=>false)=_;rw[g1,g2];simp only;rw[hb'];rfl
  rw[ff]
  exact ZmR I (by rw[Around.in1_units];omega) hb' g3 g4 g5 g6
 ·rw[lx]
  show Value.bool b≠Value.notImplemented/\Q (.bool b) s
  exact ⟨(fun z=>nomatch z),k⟩
noncomputable def ZmW (X:Cx):List V->Hp->VK->Prop:=fun l H Q=> ∃ α M p q xs ys ds es b,HR X.K H α M/\l=[.ref q,.ref p]/\H p=some (.lst xs)/\H q=some (.lst ys)/\Reps X.K H α xs ds/\Reps X.K H α ys es/\Zbu ds es=true/\ltL ds es=some b/\Q (if b=true then .ref p else .ref q) H
theorem Zgk (hc:X.calm=true) (hu:X.A.units + 64 < cLine):Zb7 X (.builtin "min") (ZmW X):=by
 intro pins s σ H xs us Q I r h
 obtain ⟨α,M,p,q,xs,ys,ds,es,b,hr,rfl,hp,hq,r1,r2,hcm,hl,k⟩:=h
 obtain ⟨u,w',rfl,ru,rw'⟩:=ZgL r
 cases (show u=Value.ref q from ru)
 cases (show w'=Value.ref p from rw')
 refine Zgj (bt:=b) (I.ok.hd hc) (fun h' tk Q E kp hq'=>ZmV (by rw[Around.in1_units];omega) (I.kept kp) hr hp hq r1 r2 hcm hl hq') fun h' tk kp=>⟨if b=true then .ref p else .ref q,H,I.kept kp,?_,k⟩
 cases b<;>exact rfl
noncomputable def bMinL:List D->Sto->Out D:=fun l M=>match l with
 | [.ref n,.ref m]=>(match M[m]?,M[n]? with | some (.lst ds),some (.lst es)=>if Zbu ds es=true then (match ltL ds es with | some b=> .ok (if b=true then .ref m else .ref n) M | none=> .bad) else .bad | _,_=> .bad)
 |_=> .bad
theorem ZiU {ξ:XK}:CO X ξ (ZmW X) bMinL:=by
 intro H α M vs ds0 Q h rs q
 match rs with
 | .nil=>exact q.elim
 | .cons r .nil=>cases r<;>exact q.elim
 | .cons r (.cons r' (.cons _ _))=>cases r<;>cases r'<;>exact q.elim
 | .cons r (.cons r' .nil)=>
  cases r with
  | @ref p2 n hp2=>
   cases r' with
   | @ref p m hp=>
    simp only[bMinL] at q
    cases e1:M[m]? with
    |none=>simp only[e1] at q;exact q.elim
    |some so=>
     cases e2:M[n]? with
     |none=>cases so;simp only[e1,e2] at q;exact q.elim
     |some so2=>
      cases so with
      |lst ds=>
       cases so2 with
       |lst es=>
        simp only[e1,e2] at q
        by_cases hc:Zbu ds es=true
        ·rw[if_pos hc] at q
         cases hl:ltL ds es with
         |none=>simp only[hl] at q;exact q.elim
         |some b=>
          simp only[hl] at q
          obtain ⟨xs,g1,g2⟩:=h.at hp e1
          obtain ⟨ys,g3,g4⟩:=h.at hp2 e2
          refine ⟨α,M,p,p2,xs,ys,ds,es,b,h,rfl,g1,g3,g2,g4,hc,hl,q _ H α Ext.refl h ?_⟩
          cases b
          ·exact .ref hp2
          ·exact .ref hp
        ·rw[if_neg hc] at q
         exact q.elim
   |_=>exact q.elim
  |_=>cases r'<;>exact q.elim
end
end DL
end
section
namespace HT
open PySem PyProof.Rows
noncomputable def Zbw:List Int->List Int->Bool
 | [],[]=>true
 | [],_ :: _=>true
 |_ :: _,[]=>false
 |x :: xs,y :: ys=>if x=y then Zbw xs ys else decide (x<=y)
theorem Zcs (x y:Int) (xs ys:List Int):Zbw (x :: xs) (y :: ys)=if x=y then Zbw xs ys else decide (x<=y):=rfl
theorem Zcf:Zbw [] []=true:=rfl
theorem Zdh (y:Int) (ys:List Int):Zbw [] (y :: ys)=true:=rfl
theorem Zdi (x:Int) (xs:List Int):Zbw (x :: xs) []=false:=rfl
theorem ZiV (A:Around) (s:Shared) (a:Int) (t:Tok) (c:Int) (u:Tok) (prog:Program) (w:World) (E:Value->Shared->Prop) (Q:Value->Shared->Prop) (h:Q (.bool (decide (a<=c))) s):
  wpAny (model prog w) A (richCompare .LtE (.int a t) (.int c u)) Q E s:=
 (PyProof.Rows.le_int h:wpAny (model prog w) A (compareOp .LtE (.int a t) (.int c u)) Q E s)
section
open PySem.SeqAt
open PySem.AutoSeq1 (wpAny_loadPart')
open PySem.MeetsSeq PySem.MeetsSeq2 PySem.MeetsSeq3
theorem ZdP (l b:Addr) (items items2:Array Value) (n n2:Nat) (dd dd2:Option Addr) (sl sl2:Array (Option Value)) (ns ms:List Int) (hi:IntsAre items.toList ns) (hj:IntsAre items2.toList ms):
  Meets (Builtin.«tuple.__le__» ⟨[.ref l,.ref b],[]⟩)
   (fun _ R s=>s.heap.get? l=some { cls:= .type "tuple",dict:=dd,data:= .seq items n,slots:=sl }/\s.heap.get? b=some { cls:= .type "tuple",dict:=dd2,data:= .seq items2 n2,slots:=sl2 }/\
    R (.ok (.ret (.bool (Zbw ns ms)))) s):=
 .of_wp fun prog w A R s h=>by
  obtain ⟨hp,g,d,tk,os⟩:=s;obtain ⟨hl,hb,h⟩:=h
  have f2:=AutoSeq1.sub_tuple_tuple
  have z1:items.size=ns.length:=by rw[<- hi.length];simp
  have z2:items2.size=ms.length:=by rw[<- hj.length];simp
  wp_walk using wpAny_loadPart' hl,wpAny_loadPart' hb,wpAny_forIn_list _ (fun rest b s'=>b.1=none/\s'=⟨hp,g,d,tk,os⟩/\ ∃ (vs ws:List Value) (ns' ms':List Int),rest=vs.zip ws/\
   IntsAre vs ns'/\IntsAre ws ms'/\ns'.length + items2.size=ms'.length + items.size/\R (.ok (.ret (.bool (Zbw ns' ms')))) ⟨hp,g,d,tk,os⟩) _
  case turn=>
   rintro ⟨y,x⟩ rest b s' ⟨hb',rfl,vs,ws,ns',ms',hz,hvi,hwi,hlen,hR⟩
   cases hvi with
   |nil=>rw[List.zip_nil_left] at hz;cases hz
   |cons a t hvi'=>
    cases hwi with
    |nil=>rw[List.zip_nil_right] at hz;cases hz
    |cons c u hwi'=>
     rw[List.zip_cons_cons] at hz
     injection hz with hyx hrest
     injection hyx with hy hx
     subst hy hx
     rw[Zcs] at hR
     simp only[List.length_cons] at hlen
     obtain ⟨e,he,hiff⟩:=ZfD A.in1 ⟨hp,g,d,tk,os⟩ a t c u
     refine wpAny_bind (he prog w _ _ ?_)
     cases e with
     |true=>
      rw[if_pos (hiff.mp rfl)] at hR
      wp_walk
      exact ⟨rfl,rfl,_,_,_,_,hrest,hvi',hwi',by omega,hR⟩
     |false=>
      rw[if_neg (fun q=>absurd (hiff.mpr q) Bool.false_ne_true)] at hR
      have hri:=ZiV A.in1 ⟨hp,g,d,tk,os⟩ a t c u prog w
      wp_walk using hri
      exact ⟨_,rfl,by simpa using hR⟩
  case fin=>
   rintro ⟨b1,b2⟩ s' ⟨hb',rfl,vs,ws,ns',ms',hz,hvi,hwi,hlen,hR⟩
   simp only at hb'
   subst hb'
   have hv:Zbw ns' ms'=decide (items.size<=items2.size):=by
    cases hvi with
    |nil=>
     cases hwi with
     |nil=>
      simp only[List.length_nil] at hlen
      rw[Zcf]
      exact (decide_eq_true (by omega)).symm
     |cons c u hw=>
      simp only[List.length_nil,List.length_cons] at hlen
      rw[Zdh]
      exact (decide_eq_true (by omega)).symm
    |cons a t hv=>
     cases hwi with
     |nil=>
      simp only[List.length_nil,List.length_cons] at hlen
      rw[Zdi]
      exact (decide_eq_false (by omega)).symm
     |cons c u hw=>
      rw[List.zip_cons_cons] at hz
      cases hz
   rw[hv] at hR
   wp_walk
   exact ⟨_,rfl,by simpa [Builtin.Tuple.tupleCompareSizes] using hR⟩
  case h=>
   exact ⟨rfl,rfl,items.toList,items2.toList,ns,ms,rfl,hi,hj,by omega,h⟩
end
section
variable {prog:Program} {w:World} {A:Around} {E:Value->Shared->Prop} {s:Shared}
theorem Zgl {l b:Addr} {items items2:Array Value} {ns ms:List Int} {Q:Value->Shared->Prop} (hl:IsTup s.heap l items) (hb:IsTup s.heap b items2) (hi:IntsAre items.toList ns) (hj:IntsAre items2.toList ms)
  (hu:A.units < cLine) (h:Q (.bool (Zbw ns ms)) s):wpAny (model prog w) A (compareOp .LtE (.ref l) (.ref b)) Q E s:=by
 obtain ⟨⟨cls,dd,data,sl⟩,ho,hc,n,hd⟩:=id hl
 obtain ⟨⟨cls2,dd2,data2,sl2⟩,ho2,hc2,n2,hd2⟩:=id hb
 simp only at hc hd hc2 hd2
 subst hc hd hc2 hd2
 exact richCompare_meets_room (op:= .LtE) ⟨_,ho,rfl⟩ ⟨_,ho2,rfl⟩ PySem.F.slot_tuple_le PySem.F.entry_tuple_le (PySem.F.args_tuple_le_2 _ _) (ZdP l b items items2 n n2 dd dd2 sl sl2 ns ms hi hj)
  ⟨ho,ho2,show Value.bool (Zbw ns ms)≠Value.notImplemented/\Q (.bool (Zbw ns ms)) s from ⟨(fun x=>nomatch x),h⟩⟩ hu
end
end HT
namespace DL
open PySem PySem.Spec PyProof.Rows L2
section
variable {X:Cx} {ξ:XK}
noncomputable def Zrk (K:PySem.W.Frag):R2:=fun x y H Q=> ∃ a b ns ms,x= .ref a/\y= .ref b/\SqT K H a (ns.map V.int)/\SqT K H b (ms.map V.int)/\Q (.bl (HT.Zbw ns ms)) H
theorem ZmX (hu:X.A.units + 64 < cLine):OpR X (compareOp .LtE) (Zrk X.K):=by
 intro pins s σ H x y v u Q I rx ry h
 obtain ⟨a,b,ns,ms,rfl,rfl,ha,hb,q⟩:=h
 cases rx
 cases ry
 obtain ⟨its,r1,p1,_⟩:=I.tuple ha
 obtain ⟨its2,r2,p2,_⟩:=I.tuple hb
 exact HT.Zgl p1 p2 (ZbN r1) (ZbN r2) (by omega) ⟨.bl (HT.Zbw ns ms),H,I,rfl,q⟩
noncomputable def dLeT:Bo:=fun x y M=>match x,y with
 | .tup ds,.tup es=>(match ZaS ds,ZaS es with | some a,some c=> .ok (.bl (HT.Zbw a c)) M | _,_=> .bad)
 |_,_=> .bad
theorem ZmY:BO X ξ (Zrk X.K) dLeT:=by
 intro H α M v w x y Q h r1 r2 q
 cases r1 with
 | @tup p xs ds hp rp=>
  cases r2 with
  | @tup p2 xs2 ds2 hp2 rp2=>
   simp only[dLeT] at q
   cases e1:ZaS ds with
   |none=>simp only[e1] at q;exact q.elim
   |some a=>
    cases e2:ZaS ds2 with
    |none=>simp only[e1,e2] at q;exact q.elim
    |some c=>
     simp only[e1,e2] at q
     have h1:=ZbF rp e1
     have h2:=ZbF rp2 e2
     subst h1 h2
     exact ⟨p,p2,a,c,rfl,rfl,SqT.of hp,SqT.of hp2,q _ H α Ext.refl h (.bl _)⟩
  |_=>exact q.elim
 |_=>cases r2<;>exact q.elim
end
end DL
end
section
namespace DL
open PySem PySem.Spec PyProof.Rows L2
theorem Zpo (its:List Value):slicePick its.toArray none (some 0) (some (-1))=(its.drop 1).reverse.toArray:=by
 cases its with
 |nil=>rfl
 |cons x r=>
  have h:=ZdK r.toArray
  have e:slicePick (x :: r).toArray none (some 0) (some (-1))=((List.range r.toArray.size).filterMap fun (m:Nat)=>r.toArray[((r.toArray.size:Int) - 1 + (m:Int) * (-1)).toNat]?).toArray:=by
   unfold slicePick sliceBounds sliceRange
   simp only[Option.getD_some]
   congr 1
   rw[List.filterMap_map]
   simp only[List.size_toArray,List.length_cons]
   simp only[gt_iff_lt,show ¬ ((0:Int) < -1) by decide,if_false,Int.lt_irrefl]
   generalize hn:(if max (-1:Int) (min 0 (((r.length + 1:Nat):Int) - 1)) < ((r.length + 1:Nat):Int) - 1 then _ else (0:Int)).toNat=cnt
   have c:cnt=r.length:=by
    rw[<- hn]
    have m0:max (-1:Int) (min 0 (((r.length + 1:Nat):Int) - 1))=0:=by omega
    rw[m0]
    split
    ·simp
     try omega
    ·simp
     omega
   rw[c]
   refine ZcI fun m hm=> ?_
   have hm':=List.mem_range.mp hm
   simp only[Function.comp]
   rw[show (((r.length + 1:Nat):Int) - 1 + -1 * (m:Int)).toNat=((r.length:Int) - 1 + (m:Int) * (-1)).toNat + 1 by omega]
   simp
  rw[e,h]
  rfl
noncomputable def eR0 (f:Ev):Ev:=fun ρ M=>(f ρ M).bind fun x M1=>match x with
 | .ref n=>(match M1[n]? with | some (.lst xs)=> .ok (.ref M1.length) (M1 ++ [.lst (xs.drop 1).reverse]) | none=> .bad)
 |_=> .bad
noncomputable def tR0 (K:PySem.W.Frag) (te:TE):TE:=fun σ H Q=>te σ H fun x H1=> ∃ a xs,x= .ref a/\SqL K H1 a xs/\ ∀ p,H1 p=none->Q (.ref p) (upd H1 p (.lst (xs.drop 1).reverse))
theorem Zpp {X:Cx} {e:Expr} {p2 p3 p4 p5 pos:Pos} {j j0:Nat} {te:TE} (he:PE X e te):PE X (.Subscript e (.Slice none (some (.Constant (.int 0) j0 p5)) (some (.UnaryOp .USub (.Constant (.int 1) j p3) p4)) p2) pos) (tR0 X.K te):=by
 intro pins s σ H Q I h
 refine Subscript_ (thn (he pins s σ H _ I h) fun v s1 ⟨x,H1,I1,r1,q1⟩=> ?_)
 refine wpAny_Slice ?_
 rw[evalPart_none]
 refine wpAny_pure ?_
 rw[evalPart_some]
 refine thn (Zfz pins s1 σ H1 (fun v H'=>v= .int 0/\H'=H1) I1 ⟨rfl,rfl⟩) fun u0 s1' ⟨y0,H1',I1',r2',ey0,eH0⟩=> ?_
 subst ey0 eH0
 obtain ⟨t0,rfl⟩:=r2'
 rw[evalPart_some]
 refine thn (Zj5 ZgK Zfz pins s1' σ H1' (fun v H'=>v= .int (-1)/\H'=H1') I1' ⟨1,rfl,rfl,rfl⟩) fun u s2 ⟨y,H2,I2,r2,ey,eH⟩=> ?_
 subst ey eH
 obtain ⟨t,rfl⟩:=r2
 have I4:Inv X pins σ H2 { s2 with heap:=s2.heap.push { cls:= .type "slice",data:= .fields #[.none,.int 0 t0,.int (-1) t] } }:=I2.kept (t':=s2.toks) fun b ob q=>Heap.get?_push_of_some _ q
 show wpAny (model X.prog X.w) X.A (subscriptTail e (.Slice none (some (.Constant (.int 0) j0 p5)) (some (.UnaryOp .USub (.Constant (.int 1) j p3) p4)) p2) v (.ref s2.heap.objs.size)) (EP X pins σ Q) X.xe { s2 with heap:=s2.heap.push { cls:= .type "slice",data:= .fields #[.none,.int 0 t0,.int (-1) t] } }
 obtain ⟨a,xs,rfl,hq,q⟩:=q1
 cases r1
 obtain ⟨its,rv,ht,hz⟩:=I4.list hq
 have hsz:its.toArray.size<=sizeLine:=by rw[List.size_toArray,<- rv.length];exact hz
 refine tail_any (ops:=[.ref a,.ref s2.heap.objs.size]) ht.isList.typeIs slot_list_getitem.lookup (wpAny_getItem_list_slice ht.isList (Heap.IsSliceOf.new ..) .none (.int 0 t0) (.int (-1) t) (by decide) ?_ hsz) (by with_unfolding_all rfl)
 rw[Zpo]
 refine ⟨.ref _,_,I4.laid (t':=s2.toks) (o:= .lst (xs.drop 1).reverse) (fun _ _ q=>Heap.get?_push_of_some _ q) (Nat.le_refl _) ?_,rfl,q _ (I4.hok.fresh (Nat.le_refl _))⟩
 exact ⟨by rw[List.length_reverse,List.length_drop];omega,(its.drop 1).reverse,0,(rv.drop 1).reverse,Heap.get?_push_size _ rfl⟩
theorem ZhJ {K:PySem.W.Frag} {H:Hp} {α:List Addr}: ∀ {vs:List V} {ds:List D},Reps K H α vs ds->Reps K H α (vs.drop 1) (ds.drop 1)
 |_,_,.nil=> .nil
 |_,_,.cons _ t=>t
theorem Zpq {X:Cx} {ξ:XK} {e:Expr} {f:Ev} {p2 p3 p4 p5 pos:Pos} {j j0:Nat} (he:DE X ξ e f):DE X ξ (.Subscript e (.Slice none (some (.Constant (.int 0) j0 p5)) (some (.UnaryOp .USub (.Constant (.int 1) j p3) p4)) p2) pos) (eR0 f):=by
 obtain ⟨t,p,q⟩:=he
 refine ⟨_,Zpp p,fun σ ρ H α M Q s h w=>q σ ρ H α M _ s h (OG.seq w fun x M1 v H1 α1 e1 h1 r1 w1=> ?_)⟩
 cases r1 with
 | @ref a n hp=>
  cases em:M1[n]? with
  |none=>simp only[em] at w1;exact w1.elim
  |some so=>
   cases so with
   |lst es=>
    simp only[em] at w1
    obtain ⟨xs,g1,g2⟩:=h1.at hp em
    exact ⟨a,xs,rfl,SqL.of g1,fun l hl=>w1 _ _ (α1 ++ [l]) (Ext.new hl) (h1.new hl (ZhJ g2).rev) (.ref ⟨h1.last l,Kn.lst Zr⟩)⟩
 |_=>exact w1.elim
end DL
end
section
namespace DL
open PySem PySem.Spec PyProof.Rows L2
section
variable {X:Cx} {pins:List (Addr × Obj)} {σ:L2.St} {H:Hp} {s:Shared} {a b:Addr} {v:V} {r:Value} {A:Around} {E:Value->Shared->Prop}
theorem ZmZ {kvs:List (List Key × V)} {k:List Key} {Q:Unit->Shared->Prop} (hu:A.units < cLine) (I:Inv X pins σ H s) (e:H a=some (.dT kvs)) (eb:H b=some (.tup (k.map kV))) (l:kvs.length < sizeLine) (rv:ZS v r) (h: ∀ s',Inv X pins σ (upd H a (.dT (ZgY kvs k v))) s'->Q () s'):
  wpAny (model X.prog X.w) A (dictSet a (.ref b) r) Q E s:=by
 obtain ⟨z,hd,xs,rel,dd⟩:=L2.Ziw I.hok e
 have hz:xs.length<=sizeLine:=by rw[<- Paired.length rel];exact z
 have hl:(ZgY kvs k v).length<=sizeLine:=by have:=ZeZ kvs k v;omega
 refine wpAny_dictSet_heap (hsz:=hz) (knd:=tupleKind (ZaE X.prog X.w)) hu (ZgZ I.hok eb) dd fun h' dd' hs=>h _ ?_
 obtain ⟨q,es,ep,hq,h2,h3,h4,_,h5⟩:=dd'
 refine Zkj I (by rw[e];exact True.intro) hs ⟨q,hq⟩ ⟨hl,hd,_,(rel.put k eb rv).keeps fun c ys ec=> ?_,q,es,ep,hq,h2,h3,h4,h5⟩
 rw[ZI (ZoS ec e (fun z=>nomatch z))]
 exact ec
end
noncomputable def Zb3 (src:Src) (tg:Tg) (c:Tv) (fk fv:Ev) (n:Nat):Nat->Nat->Ro->Sto->Out Unit
 |fuel,i,ρ,M=>match nxt src i M with
  |none=> .bad
  |some none=> .ok () M
  |some (some d)=>(match fuel with
   |0=> .bad
   |fuel + 1=>(match tg d ρ with
    |none=> .bad
    |some ρ1=>(match c ρ1 M with
     | .ok true M1=>(match fk ρ1 M1 with
      | .ok x M2=>(match fv ρ1 M2 with
       | .ok y M3=>(match ZmM M3 (.dt n) x y with
        |some M4=>Zb3 src tg c fk fv n fuel (i + 1) ρ1 M4
        |none=> .bad)
       |_=> .bad)
      |_=> .bad)
     | .ok false M1=>Zb3 src tg c fk fv n fuel (i + 1) ρ1 M1
     |_=> .bad)))
noncomputable def Zdv (fi:Ro->Sto->Out Src) (k:Nat) (fr:List Nat) (tg:Tg) (c:Tv) (fk fv:Ev):Ev:=fun ρ M=>(fi ρ M).bind fun src M1=>match Zb3 src tg c fk fv M1.length (cnt src M1) 0 (roB k fr ρ) (M1 ++ [.lst []]) with
 | .ok _ M2=> .ok (.dt M1.length) M2
 |_=> .bad
theorem ZdQ {prog:Program} {w:World} {A:Around} {R:Result->Shared->Prop} {s:Shared} {kx vx target iter:Expr} {ifs:List Expr} {scope:Scope} {pos:Pos} {it:Value} {D:Addr} {env:Env} (I:Nat->Shared->Prop)
  (turn: ∀ n s,I n s->wpAny (model prog w) A (pyNext it) (fun r s₁=>match r with
   |none=>R (.ok .next) s₁
   |some v=>wpAny (model prog w) A (letOwnedTupleGo target it v) (fun _ s₁=>wpAny (model prog w) A (assign target env v) (fun _ s₂=>
     wpAny (model prog w) A (forIn ifs true fun c r=>if r=true then do let ok <- isTrue c env (eval c env);pure (ForInStep.yield ok) else pure (ForInStep.yield r)) (fun ok s₃=>
      if ok=true then wpAny (model prog w) A (eval kx env) (fun kv s₄=>wpAny (model prog w) A (eval vx env) (fun vv s₅=>
       wpAny (model prog w) A (dictSet D kv vv) (fun _ s₆=> ∃ m,m < n/\I m s₆) (fun _ _=>False) s₅) (fun _ _=>False) s₄) (fun _ _=>False) s₃
      else ∃ m,m < n/\I m s₃) (fun _ _=>False) s₂) (fun _ _=>False) s₁) (fun _ _=>False) s₁) (fun _ _=>False) s)
  (n:Nat) (h:I n s):
  codeAny (model prog w) A (.compLoop (.DictComp kx vx [⟨target,iter,ifs,0⟩] scope pos) 0 it (.ref D) env) R s:=by
 refine codeAny_loop rfl I (fun n s hI=> ?_) n h
 show wpAny _ A ((compTurn (.DictComp kx vx [⟨target,iter,ifs,0⟩] scope pos) 0 it (.ref D) env).onRaise (fun x=>do noteFrame x env;theTreesLotGoes x)) _ _ s
 refine wpAny_noted ?_
 rw[compTurn_dict]
 refine wpAny_bind (wpAny_standAt (wpAny_bind (wpAny_mono (turn n s hI) (fun r s₁ h₁=> ?_) fun _ _ h'=>h'.elim)))
 cases r with
 |none=>exact wpAny_pure h₁
 |some v=>
  refine wpAny_bind (wpAny_mono h₁ (fun _ s₁ h₁=> ?_) fun _ _ h'=>h'.elim)
  refine wpAny_bind (wpAny_mono h₁ (fun _ s₂ h₂=>wpAny_bind (wpAny_mono h₂ (fun ok s₃ h₃=> ?_) fun _ _ h'=>h'.elim)) fun _ _ h'=>h'.elim)
  cases ok with
  |false=>exact wpAny_pure ⟨rfl,h₃⟩
  |true=>
   refine wpAny_bind (wpAny_bind (wpAny_mono h₃ (fun kv s₄ h₄=> ?_) fun _ _ h'=>h'.elim))
   refine wpAny_bind (wpAny_holding (wpAny_mono h₄ (fun vv s₅ h₅=> ?_) fun _ _ h'=>h'.elim))
   refine wpAny_bind (wpAny_standAt ?_)
   refine wpAny_holding (wpAny_mono h₅ (fun _ s₆ h₆=> ?_) fun _ _ h'=>h'.elim)
   exact wpAny_pure ⟨rfl,h₆⟩
section
variable {X:Cx} {ξ:XK} {tg iter kx vx:Expr} {ifs:List Expr} {scope:Scope} {cl:List (Str × Addr)} {N:List Str} {k:Nat} {fr:List Nat} {fi:Ro->Sto->Out Src} {gt:Tg} {c:Tv} {fk fv:Ev} {pos:Pos}
theorem ZiW (hu:X.A.units + 64 < cLine) (B:Blk X scope cl N k fr) (hi:DI X ξ tg iter fi) (hg: ∀ C fp s H,DG (blk X scope cl N C fp s H) tg gt) (ht: ∀ C fp s H,DC (blk X scope cl N C fp s H) ifs c) (hk: ∀ C fp s H,DE (blk X scope cl N C fp s H) E0 kx fk) (hv: ∀ C fp s H,DE (blk X scope cl N C fp s H) E0 vx fv)
  (hs: ∀ x,foldedSetIterable iter X.env x=pure x:=by intro _;rfl):DE X ξ (.DictComp kx vx [⟨tg,iter,ifs,0⟩] scope pos) (Zdv fi k fr gt c fk fv):=by
 obtain ⟨wi,pi,qi⟩:=hi
 refine ⟨fun σ H Q=> ∃ ρ α M,SR X.K H α σ ρ/\HR X.K H α M/\OP X.K H α ξ Q (Zdv fi k fr gt c fk fv ρ M),?_,fun σ ρ H α M Q s h q=>⟨ρ,α,M,s,h,q⟩⟩
 rintro pins s σ H Q I ⟨ρ,α,M,sr,hr,op⟩
 rw[arm_eval_DictComp]
 refine wpAny_comprehension_free (use:=none) rfl hs B.clos B.kind B.names ?_
 refine thn (pi pins s σ H (fun J H2=> ∃ α2 M2 src,Ext X.K H H2 α α2/\HR X.K H2 α2 M2/\Zmx X.K H2 α2 J src/\OP X.K H2 α2 ξ Q (match Zb3 src gt c fk fv M2.length (cnt src M2) 0 (roB k fr ρ) (M2 ++ [.lst []]) with | .ok _ M2'=> .ok (.dt M2.length) M2' | _=> .bad)) I
  (qi σ ρ H α M _ sr hr (OG.seq op fun src M1 J H1 α1 e1 h1 r1 q1=>⟨α1,M1,src,e1,h1,r1,q1⟩))) fun v s1 w1=>thn w1 fun itv s2 w2=> ?_
 obtain ⟨it,fp,tn,J,H2,rfl,I2,T,st2,f2,α2,M2,src,e2,h2,sc,op2⟩:=w2
 have srI:=sr.mono e2
 refine wpAny_newObj_type ?_
 have I3:Inv X pins σ (upd H2 s2.heap.objs.size (.dT [])) { s2 with heap:=s2.heap.push { cls:= .type "dict",dict:=none,data:= .dict #[] } }:=I2.laid (a:=s2.heap.objs.size) (o:= .dT []) (t':=s2.toks) (fun _ _ q=>Heap.get?_push_of_some _ q) (Nat.le_refl _) (Ziy s2.heap I2.big)
 have fD:H2 s2.heap.objs.size=none:=I2.fresh
 generalize hD:s2.heap.objs.size=D at I3 fD
 generalize hs3:({ s2 with heap:=s2.heap.push { cls:= .type "dict",dict:=none,data:= .dict #[] } }:Shared)=s3 at I3
 generalize hH3:upd H2 D (.dT [])=H3 at I3
 have h3:HR X.K H3 (α2 ++ [D]) (M2 ++ [.lst []]):=by rw[<- hH3];exact h2.newO fD (.inr (.inr ⟨[],Zr,ZhB⟩))
 have e3:Ext X.K H2 H3 α2 (α2 ++ [D]):=by rw[<- hH3];exact Ext.new fD
 have aD:RefK H3 (α2 ++ [D]) 2 M2.length D:=⟨h2.last D,by rw[<- hH3];unfold Kn;rw[Zr]⟩
 have lt2: ∀ b∈fp,b < s2.heap.objs.size:=fun b hb=>let ⟨o,e,_⟩:=T.obj _ _ st2 b hb;Heap.lt_size e
 have keep3: ∀ b o,s2.heap.get? b=some o->s3.heap.get? b=some o:=fun b o e=>by rw[<- hs3];exact Heap.get?_push_of_some _ e
 have f3: ∀ b∈fp,Zd9 X pins H3 b:=fun b hb=>⟨by rw[<- hH3,ZI (by rw[<- hD];exact Nat.ne_of_lt (lt2 b hb))];exact (f2 b hb).1,(f2 b hb).2⟩
 have lt3: ∀ b∈fp,b < s3.heap.objs.size:=fun b hb=>let ⟨o,e,_⟩:=T.obj _ _ st2 b hb;Heap.lt_size (keep3 b o e)
 have st3:tn 0 s3.heap:=T.keep _ _ _ st2 fun b _ o e=>keep3 b o e
 refine wpAny_newFunctionEnv B.cell (by intro y hy;simp at hy) (fun h₁ hns₁ hsb₁=> ?_) B.kind
 have keep4: ∀ b o,s3.heap.get? b=some o->h₁.get? b=some o:=fun b o e=>hsb₁.extBut b o (Nat.ne_of_lt (Heap.lt_size e)) (Heap.get?_push_of_some _ e)
 have I4:=Ze4 (tk:=s3.toks + ([]:List (Str × Value)).length) B I3 f3 lt3 hns₁ keep4
 have st4:tn 0 h₁:=T.keep _ _ _ st3 fun b _ o e=>keep4 b o e
 generalize hX:blk X scope cl N s3.heap.objs.size fp s3 H3=Y at I4
 have YK:Y.K=X.K:=by rw[<- hX];rfl
 have Yp:Y.prog=X.prog:=by rw[<- hX];rfl
 have Yw:Y.w=X.w:=by rw[<- hX];rfl
 have YA:Y.A=X.A:=by rw[<- hX];rfl
 have Ye:Y.env=compEnvC scope cl s3.heap.objs.size X.env:=by rw[<- hX];rfl
 obtain ⟨tt,pt,qt⟩:=hg s3.heap.objs.size fp s3 H3
 obtain ⟨tk,pk,qk⟩:=hk s3.heap.objs.size fp s3 H3
 obtain ⟨tv,pv,qv⟩:=hv s3.heap.objs.size fp s3 H3
 have tst:=ht s3.heap.objs.size fp s3 H3
 rw[hX] at pt qt pk qk pv qv tst
 cases er:Zb3 src gt c fk fv M2.length (cnt src M2) 0 (roB k fr ρ) (M2 ++ [.lst []]) with
 |exc x M9=>rw[er] at op2;exact op2.elim
 |bad=>rw[er] at op2;exact op2.elim
 |ok u9 M9=>
  rw[er] at op2
  have loop:codeAny (model X.prog X.w) X.A (.compLoop (.DictComp kx vx [⟨tg,iter,ifs,0⟩] scope pos) 0 (.ref it) (.ref D) (compEnvC scope cl s3.heap.objs.size X.env)) (compPost (model X.prog X.w) X.A X.xe none (EP X pins σ Q) (.ref D) s3.heap.objs.size) { s3 with heap:=h₁,toks:=s3.toks + ([]:List (Str × Value)).length }:=by
   refine ZdQ (fun n s'=> ∃ i σ' ρ' H' α' M',Inv Y [] σ' H' s'/\tn i s'.heap/\(∀ b∈fp,H' b=none)/\SR X.K H' α' σ' ρ'/\HR X.K H' α' M'/\Ext X.K H3 H' (α2 ++ [D]) α'/\Zb3 src gt c fk fv M2.length n i ρ' M'= .ok u9 M9) ?_ (cnt src M2)
    ⟨0,stB k fr σ,roB k fr ρ,H3,α2 ++ [D],M2 ++ [.lst []],I4,st4,fun b hb=>(f3 b hb).1,(srI.blk).mono e3,h3,Ext.refl,er⟩
   rintro n s5 ⟨i,σ5,ρ5,H5,α5,M5,I5,st5,fr5,sr5,hr5,ex5,en⟩
   have fp5: ∀ {H':Hp},(∀ b∈fp,H' b=none)-> ∀ b∈fp,Zd9 Y [] H' b:=fun hn b hb=>⟨hn b hb,by rw[Ye];exact Nat.ne_of_lt (lt3 b hb),by
    have:=(ZfL B I3 f3 lt3).exfs b hb
    rw[hX] at this;exact this,.inl (by rw[<- hX];exact hb),fun x c h=>(by rw[Ye] at h;exact (f3 b hb).2.2.2.2.1 x c (B.sub x c h)),fun p hp=>(by rw[<- hX] at hp;simp[blk] at hp)⟩
   have src5:=sc i H5 α5 M5 (e3.trans ex5) hr5
   rw[Zb3] at en
   cases ex:nxt src i M5 with
   |none=>rw[ex] at en;cases en
   |some od=>
    rw[ex] at src5 en
    cases od with
    |none=>
     cases en
     have fin:=T.done Y Yp Yw YK YA i [] s5 σ5 H5 (fun _ _=>False) I5 (fp5 fr5) st5 src5
     rw[YA] at fin
     refine thn fin fun r s6 ⟨hr6,I6⟩=> ?_
     subst hr6
     obtain ⟨m6,hm6,_⟩:=id I6.loc
     rw[Ye] at hm6
     refine ⟨m6,hm6,fun h' sb=> ?_⟩
     have un:=I6.base
     have hok6:=I6.hok
     have I7:Inv X pins σ H5 s6:=by
      refine I3.call' (s':=s6) (ch:=fp) ?_ ?_ ?_ I6.bare fun b hb=> ?_
      ·have:=I6.os
       rw[this,<- hX];rfl
      ·rw[<- hX] at un
       exact un
      ·rw[Yp,Yw] at hok6
       exact hok6
      ·obtain ⟨_,z1,z2,z3,z4,z5⟩:=f3 b hb
       exact ⟨z3,z1,z4,z5⟩
     have hC:H5 s3.heap.objs.size=none:=by have:=I6.free;rw[Ye] at this;exact this
     have I8:Inv X pins σ H5 { s6 with heap:=h',toks:=s6.toks }:=I7.turned (it:=s3.heap.objs.size) (fun b o hb e=>(sb.2 b hb).trans e) hC (Nat.ne_of_gt I3.lt) (.inr I3.sz)
      (fun x c h z=>by
       obtain ⟨v,o,e,_⟩:=I3.cell x c h
       exact absurd (Heap.lt_size e) (by rw[z];exact Nat.lt_irrefl _)) (fun p hp z=>by
       have:=(I3.pin p hp).1
       exact absurd (Heap.lt_size this) (by rw[z];exact Nat.lt_irrefl _))
     exact ⟨.ref D,H5,I8,rfl,op2 _ H5 α5 (e3.trans ex5) hr5 (.dt (ex5.get aD))⟩
    |some d=>
     obtain ⟨go,yl⟩:=src5
     cases n with
     |zero=>cases en
     |succ n=>
      simp only at en
      have itm:=T.item Y Yp Yw YK YA i [] s5 σ5 H5 (fun _ _=>False) I5 (fp5 fr5) st5 go
      rw[YA] at itm
      refine thn itm fun r s6 ⟨u,hr6,w6⟩=> ?_
      subst hr6
      refine thn w6 fun _ s7 ⟨x,H7,I7,r7,y7,st7,fr7⟩=> ?_
      obtain ⟨ex7,hr7,rp7⟩:=yl x H7 y7
      have sr5:=sr5.mono ex7
      have hr5:=hr7
      have ex5:=ex5.trans ex7
      have I7':=I7.pinned (fp5 fr7) (T.obj _ _ st7)
      cases eg:gt d ρ5 with
      |none=>rw[eg] at en;cases en
      |some ρ6=>
       rw[eg] at en
       simp only at en
       have asg:=pt _ s7 σ5 H7 x u _ I7' r7 (qt x d σ5 ρ5 H7 α5 ρ6 (fun σ' H'=>H'=H7/\SR X.K H7 α5 σ' ρ6) (by rw[YK];exact sr5) (by rw[YK];exact rp7) eg fun σ' s'=>⟨rfl,by rw[YK] at s';exact s'⟩)
       rw[Yp,Yw,YA,Ye] at asg
       refine wpAny_mono asg (fun _ s8 ⟨σ8,H8,I8,z8,sr8⟩=> ?_) (fun _ _ z=>by rw[<- hX] at z;exact z)
       subst z8
       have again: ∀ {σ9:L2.St} {H9:Hp} {s9:Shared},Inv Y ([] ++ Zbz fp s7.heap) σ9 H9 s9->Inv Y [] σ9 H9 s9/\tn (i + 1) s9.heap/\ ∀ b∈fp,H9 b=none:=fun {σ9 H9 s9} I9=>by
        refine ⟨I9.unpinned,T.keep _ _ _ st7 fun b hb o e=>(I9.pin (b,o) (List.mem_append_right _ (List.mem_append_right _ (Z8 hb e)))).1,fun b hb=> ?_⟩
        obtain ⟨o,e,_⟩:=T.obj _ _ st7 b hb
        exact (I9.pin (b,o) (List.mem_append_right _ (List.mem_append_right _ (Z8 hb e)))).2.1
       have after: ∀ (kk:Bool) (M8:Sto) (H9:Hp) (α9:List Addr) (s9:Shared),Inv Y ([] ++ Zbz fp s7.heap) σ8 H9 s9->Ext X.K H8 H9 α5 α9->HR X.K H9 α9 M8->c ρ6 M5= .ok kk M8->
         (if kk=true then wpAny (model X.prog X.w) X.A (eval kx (compEnvC scope cl s3.heap.objs.size X.env)) (fun kv s₄=>wpAny (model X.prog X.w) X.A (eval vx (compEnvC scope cl s3.heap.objs.size X.env)) (fun vv s₅=>wpAny (model X.prog X.w) X.A (dictSet D kv vv) (fun _ s₆=> ∃ m,m < n + 1/\ ∃ i σ' ρ' H' α' M',Inv Y [] σ' H' s₆/\tn i s₆.heap/\(∀ b∈fp,H' b=none)/\SR X.K H' α' σ' ρ'/\HR X.K H' α' M'/\Ext X.K H3 H' (α2 ++ [D]) α'/\Zb3 src gt c fk fv M2.length m i ρ' M'= .ok u9 M9) (fun _ _=>False) s₅) (fun _ _=>False) s₄) (fun _ _=>False) s9
          else ∃ m,m < n + 1/\ ∃ i σ' ρ' H' α' M',Inv Y [] σ' H' s9/\tn i s9.heap/\(∀ b∈fp,H' b=none)/\SR X.K H' α' σ' ρ'/\HR X.K H' α' M'/\Ext X.K H3 H' (α2 ++ [D]) α'/\Zb3 src gt c fk fv M2.length m i ρ' M'= .ok u9 M9):=by
        intro kk M8 H9 α9 s9 I9 ex9 hr9 ec
        rw[ec] at en
        cases kk with
        |false=>
         obtain ⟨a1,a2,a3⟩:=again I9
         exact Zjm ⟨n,Nat.lt_succ_self n,i + 1,σ8,ρ6,H9,α9,M8,a1,a2,a3,sr8.mono ex9,hr9,ex5.trans ex9,en⟩
        |true=>
         simp only at en
         refine Zjn ?_
         cases ef:fk ρ6 M8 with
         |exc x9 M10=>rw[ef] at en;cases en
         |bad=>rw[ef] at en;cases en
         |ok y M10=>
          rw[ef] at en
          simp only at en
          have ev:=pk _ s9 σ8 H9 (fun v H'=> ∃ α',Ext X.K H9 H' α9 α'/\HR X.K H' α' M10/\Rep X.K H' α' v y) I9 (qk σ8 ρ6 H9 α9 M8 _ (by rw[YK];exact sr8.mono ex9) (by rw[YK];exact hr9) (by
           rw[ef,YK]
           exact fun v H' α' e h r=>⟨α',e,h,r⟩))
          rw[Yp,Yw,YA,Ye] at ev
          refine wpAny_mono ev (fun yv s10 ⟨v,H10,I10,r10,α10,ex10,hr10,rp10⟩=> ?_) (fun _ _ z=>by rw[<- hX] at z;exact z)
          cases eg2:fv ρ6 M10 with
          |exc x9 M11=>rw[eg2] at en;cases en
          |bad=>rw[eg2] at en;cases en
          |ok y2 M11=>
           rw[eg2] at en
           simp only at en
           have ev2:=pv _ s10 σ8 H10 (fun v H'=> ∃ α',Ext X.K H10 H' α10 α'/\HR X.K H' α' M11/\Rep X.K H' α' v y2) I10 (qv σ8 ρ6 H10 α10 M10 _ (by rw[YK];exact (sr8.mono ex9).mono ex10) (by rw[YK];exact hr10) (by
            rw[eg2,YK]
            exact fun v H' α' e h r=>⟨α',e,h,r⟩))
           rw[Yp,Yw,YA,Ye] at ev2
           refine wpAny_mono ev2 (fun yv2 s11 ⟨v2,H11,I11,r11,α11,ex11,hr11,rp11⟩=> ?_) (fun _ _ z=>by rw[<- hX] at z;exact z)
           have aD11:=ex11.get (ex10.get (ex9.get (ex5.get aD)))
           have rk:=Rep.mono ex11 rp10
           simp only[ZmM] at en
           cases e5:kT y with
           |none=>simp only[e5] at en;cases en
           |some kk=>
            cases em:M11[M2.length]? with
            |none=>simp only[e5,em] at en;cases en
            |some so=>
             cases so with
             |lst ds=>
              simp only[e5,em] at en
              by_cases cz:ds.length < 10000000
              ·simp only[if_pos cz] at en
               obtain ⟨kvs,g1,g2⟩:=hr11.atT aD11 em
               have kn:Kn (upd H11 D (.dT (ZgY kvs kk v2))) D=some 2:=by unfold Kn;rw[Zr]
               have exw:Ext X.K H11 (upd H11 D (.dT (ZgY kvs kk v2))) α11 α11:=Ext.wrK aD11.kn kn
               have eg3:=ZhC ZfP kk g2 rp11
               rw[<- ZmJ e5] at eg3
               cases rk with
               | @tup tb txs tds thb trb=>
                cases r10
                have hkey:H11 tb=some (.tup (kk.map kV)):=by rw[thb,ZdO (X:=X) trb e5]
                have st:=ZmZ (A:=X.A) (E:=fun _ _=>False) (by omega) I11 g1 hkey (by rw[ZhD g2];exact Nat.lt_of_lt_of_le cz (by decide)) r11 (Q:=fun _ s'=>Inv Y ([] ++ Zbz fp s7.heap) σ8 (upd H11 D (.dT (ZgY kvs kk v2))) s') fun s' I'=>I'
                rw[Yp,Yw] at st
                refine wpAny_mono st (fun _ s12 I12=> ?_) (fun _ _ z=>z)
                obtain ⟨a1,a2,a3⟩:=again I12
                exact ⟨n,Nat.lt_succ_self n,i + 1,σ8,ρ6,_,α11,_,a1,a2,a3,(((sr8.mono ex9).mono ex10).mono ex11).mono exw,hr11.wrO aD11.at' exw (.inr (.inr ⟨_,Zr,Zgg eg3 exw⟩)),(((ex5.trans ex9).trans ex10).trans ex11).trans exw,en⟩
               |_=>cases e5
              ·simp only[if_neg cz] at en
               cases en
       rcases tst with ⟨rfl,ec⟩ | ⟨e,rfl,tt',ptt,qtt⟩
       ·refine wpAny_tests_nil ?_
        exact after true M5 H8 α5 s8 I8 Ext.refl hr5 (by rw[ec])
       ·refine wpAny_tests_one ?_
        cases ec:c ρ6 M5 with
        |exc x9 M10=>rw[ec] at en;cases en
        |bad=>rw[ec] at en;cases en
        |ok kk M8=>
         have tv':=ptt _ s8 σ8 H8 (fun b H'=>b=kk/\ ∃ α',Ext X.K H8 H' α5 α'/\HR X.K H' α' M8) I8 (qtt σ8 ρ6 H8 α5 M5 _ (by rw[YK];exact sr8) (by rw[YK];exact hr5) (by
          rw[ec,YK]
          exact fun v H' α' e h r=>⟨r,α',e,h⟩))
         rw[Yp,Yw,YA,Ye] at tv'
         refine wpAny_mono tv' (fun b s9 ⟨H9,I9,zb,α9,ex9,hr9⟩=> ?_) (fun _ _ z=>by rw[<- hX] at z;exact z)
         subst zb
         exact after b M8 H9 α9 s9 I9 ex9 hr9 ec
  exact codeAny_compStart_dict loop (T.self X.A 0 _ _ _ st4 loop)
end
end DL
end
section
namespace DL
open PySem PySem.Spec PyProof.Rows L2
noncomputable def Bag (n:Nat) (M:Sto):Prop:= ∃ a b:Int,0<=a/\M[n]?=some (.lst [.int a,.int b])
structure Gr (n:Nat) (M M':Sto):Prop where
 len:M.length<=M'.length
 bag:Bag n M'
 keep: ∀ k,k≠n->k < M.length->M'[k]?=M[k]?
theorem ZhK {i j:Int} (h1: -(2 ^ 64) < j) (h2:j < 2 ^ 64):Z2 i j:= .inr (.inl (intBits_le_64 h1 h2))
theorem ZhL {i j:Int} (h1: -(2 ^ 64) < i) (h2:i < 2 ^ 64):Z2 i j:= .inl (intBits_le_64 h1 h2)
theorem at0 {x:D} {r:List D}:atI (x :: r) 0=some x:=by
 show (ixN (r.length + 1) 0).bind _=_
 unfold ixN
 rw[if_pos (by decide),if_pos (by omega)]
 rfl
theorem at1 {x y:D} {r:List D}:atI (x :: y :: r) 1=some y:=by
 show (ixN (r.length + 2) 1).bind _=_
 unfold ixN
 rw[if_pos (by decide),if_pos (by omega)]
 rfl
theorem ix0 {n:Nat}:ixN (n + 1) 0=some 0:=by
 unfold ixN
 rw[if_pos (by decide),if_pos (by omega)]
 rfl
theorem ix1 {n:Nat}:ixN (n + 2) 1=some 1:=by
 unfold ixN
 rw[if_pos (by decide),if_pos (by omega)]
 rfl
theorem Bag.lt {n:Nat} {M:Sto} (h:Bag n M):n < M.length:=let ⟨_,_,_,e⟩:=h;(List.getElem?_eq_some_iff.mp e).1
theorem Bag.app {n:Nat} {M:Sto} (h:Bag n M) (L:Sto):Bag n (M ++ L):=by
 have hl:=h.lt
 obtain ⟨a,b,h1,h2⟩:=h
 exact ⟨a,b,h1,by rw[List.getElem?_append_left hl];exact h2⟩
theorem Gr.trans {n:Nat} {M M1 M2:Sto} (a:Gr n M M1) (b:Gr n M1 M2):Gr n M M2:=
 ⟨Nat.le_trans a.len b.len,b.bag,fun k h1 h2=>(b.keep k h1 (Nat.lt_of_lt_of_le h2 a.len)).trans (a.keep k h1 h2)⟩
theorem Gr.app {n:Nat} {M:Sto} (h:Bag n M) (L:Sto):Gr n M (M ++ L):=⟨by simp,h.app L,fun k _ hk=>by rw[List.getElem?_append_left hk]⟩
theorem Gr.app2 {n:Nat} {M M1:Sto} (h:Gr n M M1) (L:Sto):Gr n M (M1 ++ L):=h.trans (.app h.bag L)
theorem Gr.new {n:Nat} {M M1:Sto} {o:SO} {L:Sto} (hb:Bag n M) (h:Gr n (M ++ o :: L) M1):M1[M.length]?=some o:=by
 rw[h.keep _ (Nat.ne_of_gt hb.lt) (by simp)]
 simp
theorem ZiX {ns:List Int} {k:Nat} (h:k < ns.length):atI (ns.map D.int) (k:Int)=some (.int ns[k]):=Zkf (by rw[List.getElem?_map,List.getElem?_eq_getElem h];rfl)
theorem ZkJ (a:Int):(if a < 0 then -a else a)=(a.natAbs:Int):=by split<;>omega
end DL
end
section
end
section
namespace HD
open PySem PySem.W PyProof.Rows
noncomputable def ZoM (thr:Thread->Bool) (stp:SharedT->Thread->Option (SharedT × Thread)) (n:Nat):SharedT->Thread->Option SharedT:=
 Nat.rec (motive:=fun _=>SharedT->Thread->Option SharedT) (fun _ _=>none) (fun _ ih s t=>Bool.rec (motive:=fun _=>Option SharedT) (Option.rec (motive:=fun _=>Option SharedT) none (fun r=>ih r.1 r.2) (stp s t)) (some s) (thr t)) n
noncomputable def ZiY (ok:Thread->Bool) (stp:SharedT->Thread->Option (SharedT × Thread)) (s:SharedT) (t:Thread):Option (SharedT × Thread):=Bool.rec (motive:=fun _=>Option (SharedT × Thread)) none (stp s t) (ok t)
section
variable {tb:String->Option Builtin} {p:Program} {w:World} {n₀:Nat} {ann:Option Value}
theorem ZjF: ∀ {n:Nat} {s s':SharedT} {t:Thread},ZoM through (ZiY (stepOk n₀ ann) (stepT (denote tb) p w)) n s t=some s'->topRun tb p w n₀ ann n s.abs t=some s'.abs
 |0,s,s',t,h=>by cases h
 |n + 1,s,s',t,h=>by
  unfold topRun
  change Bool.rec (motive:=fun _=>Option SharedT) (Option.rec (motive:=fun _=>Option SharedT) none (fun r=>ZoM through (ZiY (stepOk n₀ ann) (stepT (denote tb) p w)) n r.1 r.2) (ZiY (stepOk n₀ ann) (stepT (denote tb) p w) s t)) (some s) (through t)=some s' at h
  cases ht:through t with
  |true=>
   rw[ht] at h
   have h':some s=some s':=h
   cases h'
   rfl
  |false=>
   rw[ht] at h
   cases hk:stepOk n₀ ann t with
   |false=>
    have e:ZiY (stepOk n₀ ann) (stepT (denote tb) p w) s t=none:=by unfold ZiY;rw[hk]
    rw[e] at h
    cases h
   |true=>
    have e:ZiY (stepOk n₀ ann) (stepT (denote tb) p w) s t=stepT (denote tb) p w s t:=by unfold ZiY;rw[hk]
    rw[e] at h
    cases hs:stepT (denote tb) p w s t with
    |none=>rw[hs] at h;cases h
    |some r=>
     obtain ⟨s2,t2⟩:=r
     rw[hs] at h
     have:=stepT_spec hs
     rw[this]
     exact ZjF (n:=n) h
end
noncomputable def T0 (w:World) (os:OsState):SharedT:=
 ⟨[boot_o_0,boot_o_1,boot_o_2,boot_o_3,boot_o_4,boot_o_5,boot_o_6,boot_o_7,boot_o_8,boot_o_9,boot_o_10].foldl (fun (r:Nat × BT) o=>(r.1 + 1,r.2.ins r.1 (o w.params))) (0,.nil) |>.2,11,(boot_heap w.params).life,#[],boot_drawn,boot_toks,os⟩
theorem Zm0 (w:World) (os:OsState):(T0 w os).abs=⟨boot_heap w.params,#[],boot_drawn,boot_toks,os⟩:=by kernel_rfl
theorem ZkK:Str.ofString "__annotations__"=⟨#[95,95,97,110,110,111,116,97,116,105,111,110,115,95,95]⟩:=by decide +kernel
theorem ZhM {p q:Program} {loose:List Str} {Xt:Shared->Bool} {α:Type} {Yf:Shared->α} {Ya:World->α} {N M:Nat} (e:opening p=plainProg p.main.scope.names) (hN:Nat.ble 600 N=true) (f: ∀ s,fenceModules? p s=some s) (le:Nat.ble M N=true)
  (Zpr: ∀ (w:World) (os:OsState),(ZoM through (ZiY (stepOk 11 (some (.ref 6))) (stepT (denote treeTable) p w)) M (T0 w os) (topStub p)).map (fun s=>((staticsOk (importedModules p.main.body) (boot_heap w.params) s.abs.heap && namesBound p s.abs.heap && gensDone s.abs && laidKept (boot_heap w.params) s.abs.heap),
    openSeen q loose (importedModules p.main.body) Xt true s.abs,Yf s.abs))=some (true,openGood q loose,Ya w)):LeftO p q loose Xt Yf Ya N:=fun w=>by
 obtain ⟨⟨h,gs,d,k,os⟩,e1,e2⟩:=Option.map_eq_some_iff.mp (boot_open e hN f w)
 obtain ⟨rfl,rfl,rfl,rfl⟩:h=boot_heap w.params/\gs=Array.mk []/\d=boot_drawn/\k=boot_toks:=by simpa using e2
 obtain ⟨s',r1,r2⟩:=Option.map_eq_some_iff.mp (Zpr w os)
 obtain ⟨l1,l2,l3⟩:_/\_/\_:=by simpa only[Prod.mk.injEq] using r2
 have r:=ZjF r1
 rw[Zm0] at r
 have r:=topRun_mono (N - M) _ _ _ _ r
 rw[show M + (N - M)=N by have:=Nat.le_of_ble_eq_true le;omega] at r
 have z1:((boot_heap w.params).isNs mainGlobals && (Array.mk []:Array GenState).size == 0)=true:=by kernel_rfl
 have z2:(boot_heap w.params).objs.size=11:=rfl
 have z3:(boot_heap w.params).nsMap mainGlobals "__annotations__"=some (.ref 6):=by
  rw[ZkK]
  kernel_rfl
 have t:topFrom treeTable p w N ⟨boot_heap w.params,Array.mk [],boot_drawn,boot_toks,os⟩=some s'.abs:=by
  unfold topFrom
  dsimp only
  rw[z1,z2,z3,r]
  show (match staticsOk (importedModules p.main.body) (boot_heap w.params) s'.abs.heap && namesBound p s'.abs.heap && gensDone s'.abs && laidKept (boot_heap w.params) s'.abs.heap with | true=>_ | false=>_)=_
  rw[l1]
 unfold openEnds
 rw[e1]
 show (topFrom treeTable p w N _).map _=_
 rw[t]
 exact congrArg some (Prod.ext l2 l3)
end HD
namespace HD
open PySem PySem.W
theorem Zps: @stepOk= @PySem.W.Fast.tw6613529449190102663:=PySem.W.Fast.te6613529449190102663
theorem ZkL: @stepT= @PySem.W.Fast.tw10156331382660048174:=PySem.W.Fast.te10156331382660048174
theorem Zm1: @denote= @PySem.W.Fast.tw11892475500146522536:=PySem.W.Fast.te11892475500146522536
theorem Zm2: @treeTable= @PySem.W.Fast.tw14364793385576792824:=PySem.W.Fast.te14364793385576792824
theorem ZkM: @openSeen= @PySem.W.Fast.tw4187177175401517315:=PySem.W.Fast.te4187177175401517315
theorem Zm3: @importedModules= @PySem.W.Fast.tw5923862056798008813:=PySem.W.Fast.te5923862056798008813
end HD
end
section
namespace DL
open PySem PySem.Spec PyProof.Rows L2
noncomputable def wO {β:Type} (o:Out β) (Q:β->Sto->Prop) (E:Str->Sto->Prop):Prop:=match o with
 | .ok a M=>Q a M
 | .exc c M=>E c M
 | .bad=>False
noncomputable def wS (f:Fl) (N:Ro->Sto->Prop) (R:D->Sto->Prop) (B C:Ro->Sto->Prop) (E:Str->Sto->Prop):Prop:=match f with
 | .nx ρ M=>N ρ M
 | .ret d M=>R d M
 | .brk ρ M=>B ρ M
 | .cnt ρ M=>C ρ M
 | .exc c M=>E c M
 | .bad=>False
noncomputable def Br (k:Bool) (A B:Prop):Prop:=(k=true->A)/\(k=false->B)
noncomputable def wG {β:Type} (o:Option β) (N:β->Prop):Prop:=match o with | some ρ=>N ρ | none=>False
noncomputable def wV (o:Option (Option D)) (Q:D->Prop):Prop:=match o with | some (some d)=>Q d | _=>False
noncomputable def wI (x:D) (Q:Int->Prop):Prop:=match x with | .int i=>Q i | _=>False
noncomputable def wB (x:D) (Q:Bool->Prop):Prop:=match x with | .bl i=>Q i | _=>False
noncomputable def wR (x:D) (Q:Nat->Prop):Prop:=match x with | .ref i=>Q i | _=>False
noncomputable def w1 (x:List D) (Q:D->Prop):Prop:=match x with | [v]=>Q v | _=>False
noncomputable def w2 (x:List D) (Q:D->D->Prop):Prop:=match x with | [v,w]=>Q v w | _=>False
noncomputable def wL (o:Option SO) (Q:List D->Prop):Prop:=match o with | some (.lst xs)=>Q xs | none=>False
section
variable {β:Type} {o o':Option (Option D)} {x x':D} {Q:D->Prop} {QI:Int->Prop} {QB:Bool->Prop} {QR:Nat->Prop} {QL:List D->Prop} {l l':Option SO} {d:D} {i:Int} {k:Bool} {n:Nat} {xs:List D} {g g':Option β} {QG:β->Prop} {y:β}
theorem Zsw:w1 [d] Q=Q d:=rfl
theorem Zsx {Q2:D->D->Prop}:w2 [d,x] Q2=Q2 d x:=rfl
theorem Zsy:wV (some (some d)) Q=Q d:=rfl
theorem Zsz:wI (.int i) QI=QI i:=rfl
theorem ZsA:wB (.bl k) QB=QB k:=rfl
theorem ZsB:wR (.ref n) QR=QR n:=rfl
theorem ZsC:wL (some (.lst xs)) QL=QL xs:=rfl
theorem ZsD:wG (some y) QG=QG y:=rfl
end
section
variable {β:Type} {Q:β->Sto->Prop} {E:Str->Sto->Prop} {N B C:Ro->Sto->Prop} {R:D->Sto->Prop} {ρ:Ro} {M:Sto} {A A':Prop}
theorem Zl {d:β}:wO (.ok d M) Q E=Q d M:=rfl
theorem Zm4 {c:Str}:wO (.exc c M:Out β) Q E=E c M:=rfl
theorem ZoN:Br true A A'=A:=by simp[Br]
theorem Zrl:Br false A A'=A':=by simp[Br]
theorem brD {p:Prop} [Decidable p] (h1:p->A) (h2: ¬ p->A'):Br (decide p) A A':=⟨fun h=>h1 (of_decide_eq_true h),fun h=>h2 (of_decide_eq_false h)⟩
theorem brN {p:Prop} [Decidable p] (h1: ¬ p->A) (h2:p->A'):Br (!decide p) A A':=⟨fun h=>h1 (by simpa using h),fun h=>h2 (by simpa using h)⟩
theorem ZcX {o:Out β} {Q':β->Sto->Prop} {E':Str->Sto->Prop} (h:wO o Q E) (hq: ∀ d M,Q d M->Q' d M) (he: ∀ c M,E c M->E' c M):wO o Q' E':=by
 cases o with
 |ok d M=>exact hq d M h
 |exc c M=>exact he c M h
 |bad=>exact h
theorem ZhN {o:Out β} (h:wO o Q (fun _ _=>False)): ∃ d M',o= .ok d M'/\Q d M':=by
 cases o with
 |ok d M=>exact ⟨d,M,rfl,h⟩
 |exc c M=>exact h.elim
 |bad=>exact h.elim
theorem Zu {γ:Type} {o:Out γ} {f:γ->Sto->Out β}:wO (o.bind f) Q E=wO o (fun x M1=>wO (f x M1) Q E) E:=by cases o<;>rfl
end
section
variable {Q:D->Sto->Prop} {E:Str->Sto->Prop} {N B C:Ro->Sto->Prop} {R:D->Sto->Prop} {ρ:Ro} {M:Sto} {e f g:Ev} {fs:Av}
theorem Zpt {op:Bo}:wO (e2 op f g ρ M) Q E=wO (f ρ M) (fun x M1=>wO (g ρ M1) (fun y M2=>wO (op x y M2) Q E) E) E:=by
 unfold e2
 rw[Zu]
 congr 1
 funext x M1
 rw[Zu]
theorem ZsE {i:Nat}:wO (Zd i ρ M) Q E=wV ρ[i]? (fun d=>Q d M):=by
 unfold Zd
 cases ρ[i]? with
 |none=>rfl
 |some o=>cases o<;>rfl
theorem ZkN {F:List D->Sto->Out D}:wO (Zh F fs ρ M) Q E=wO (fs ρ M) (fun ds M1=>wO (F ds M1) Q E) E:=Zu
theorem ZkO {Q:List D->Sto->Prop}:wO (Zb f fs ρ M) Q E=wO (f ρ M) (fun x M1=>wO (fs ρ M1) (fun xs M2=>Q (x :: xs) M2) E) E:=by
 unfold Zb
 rw[Zu]
 congr 1
 funext x M1
 rw[Zu]
 congr 1
theorem Zm5:wO (Z5 fs ρ M) Q E=wO (fs ρ M) (fun xs M1=>xs.length<=1000/\Q (.tup xs) M1) E:=by
 unfold Z5
 rw[Zu]
 congr 1
 funext x M1
 by_cases h:x.length<=1000
 ·rw[if_pos h];simp[h,wO]
 ·rw[if_neg h];simp[h,wO]
theorem Zm6:wO (ZbR fs ρ M) Q E=wO (fs ρ M) (fun xs M1=>xs.length<=1000/\Q (.ref M1.length) (M1 ++ [.lst xs])) E:=by
 unfold ZbR
 rw[Zu]
 congr 1
 funext x M1
 by_cases h:x.length<=1000
 ·rw[if_pos h];simp[h,wO]
 ·rw[if_neg h];simp[h,wO]
variable {t u:Tv}
theorem Zm7 {Q:Bool->Sto->Prop}:wO (Zf9 t ρ M) Q E=wO (t ρ M) (fun k M1=>Q (!k) M1) E:=by
 unfold Zf9
 rw[Zu]
 congr 1
variable {a b:Sv}
theorem Zm8:wS (Zn a b ρ M) N R B C E=wS (a ρ M) (fun ρ1 M1=>wS (b ρ1 M1) N R B C E) R B C E:=by
 unfold Zn
 cases a ρ M<;>rfl
theorem Zaf {β:Type} {o:Out β} {k:β->Sto->Fl}:wS (ZaR o k) N R B C E=wO o (fun x M1=>wS (k x M1) N R B C E) E:=by cases o<;>rfl
theorem Zm9:wS (Z1 f ρ M) N R B C E=wO (f ρ M) R E:=Zaf
theorem ZkP:wS (ZbY f ρ M) N R B C E=wO (f ρ M) (fun _ M1=>N ρ M1) E:=Zaf
theorem Zna {i:Nat}:wS (ZB (gNm i) f ρ M) N R B C E=wO (f ρ M) (fun d M1=>N (ρ.set i (some d)) M1) E:=Zaf
theorem ZkQ {gs:Tgs}:wS (ZB (gTp gs) f ρ M) N R B C E=wO (f ρ M) (fun d M1=>wG (gTp gs d ρ) (fun r=>N r M1)) E:=by
 unfold ZB
 rw[Zaf]
 congr 1
 funext d M1
 cases gTp gs d ρ<;>rfl
theorem Znb {i j:Nat}:wS (Zd6 i j fs ρ M) N R B C E=wO (fs ρ M) (fun ds M1=>w2 ds fun v w=>N ((ρ.set i (some v)).set j (some w)) M1) E:=by
 unfold Zd6
 rw[Zaf]
 congr 1
 funext ds M1
 rcases ds with _ | ⟨v,_ | ⟨w,_ | ⟨z,r⟩⟩⟩<;>rfl
theorem Znc {fo fi:Ev}:wS (Zjv fo fi f ρ M) N R B C E=wO (f ρ M) (fun d M1=>wO (fo ρ M1) (fun o M2=>wO (fi ρ M2) (fun i M3=>wR o fun n=>wI i fun k=>wL M3[n]? fun xs=>wG (ixN xs.length k) fun j=>N ρ (M3.set n (.lst (xs.set j d)))) E) E) E:=by
 unfold Zjv
 rw[Zaf]
 congr 1
 funext d M1
 rw[Zaf]
 congr 1
 funext o M2
 rw[Zaf]
 congr 1
 funext i M3
 cases o<;>cases i<;>try rfl
 rename_i n k
 cases e:M3[n]? with
 |none=>simp only[e,wR,wI,wL,wS]
 |some s=>
  cases s with
  |lst xs=>
   cases e2:ixN xs.length k<;>simp only[e,e2,wR,wI,wL,wG,wS]
theorem ZiZ {c:Str}:wS (Zcc c fs ρ M) N R B C E=wO (fs ρ M) (fun ds M1=>ds.length<=1000/\E c M1) E:=by
 unfold Zcc
 rw[Zaf]
 congr 1
 funext ds M1
 by_cases h:ds.length<=1000
 ·rw[if_pos h];simp[h,wS]
 ·rw[if_neg h];simp[h,wS]
theorem wF {n k:Nat} {ds:List D} (hl:ds.length=n):wO (fnF a n k ds M) Q E=wS (a (ds.map some ++ List.replicate k none) M) (fun _ M1=>Q .non M1) Q (fun _ _=>False) (fun _ _=>False) E:=by
 unfold fnF
 rw[if_pos hl]
 cases a (ds.map some ++ List.replicate k none) M<;>rfl
theorem ZhO {o:Fl} {N' B' C':Ro->Sto->Prop} {R':D->Sto->Prop} {E':Str->Sto->Prop} (h:wS o N R B C E) (hn: ∀ ρ M,N ρ M->N' ρ M) (hr: ∀ d M,R d M->R' d M) (hb: ∀ ρ M,B ρ M->B' ρ M) (hc: ∀ ρ M,C ρ M->C' ρ M) (he: ∀ c M,E c M->E' c M):wS o N' R' B' C' E':=by
 cases o with
 |nx ρ M=>exact hn _ _ h
 |ret ρ M=>exact hr _ _ h
 |brk ρ M=>exact hb _ _ h
 |cnt ρ M=>exact hc _ _ h
 |exc ρ M=>exact he _ _ h
 |bad=>exact h
variable {tg:Tg} {bd:Sv} {fi:Ro->Sto->Out Src}
theorem ZhP (I:Nat->Ro->Sto->Prop): ∀ (xs:List D) (k:Nat) (ρ:Ro) (M:Sto),I k ρ M->(∀ i ρ M (h:i < xs.length),I (k + i) ρ M->wG (tg xs[i] ρ) fun r=>wS (bd r M) (I (k + i + 1)) R N (I (k + i + 1)) E)->(∀ ρ M,I (k + xs.length) ρ M->N ρ M)->wS (ZbS tg bd xs ρ M) N R B C E
 | [],k,ρ,M,h,_,hn=>hn ρ M h
 |x :: xs,k,ρ,M,h,st,hn=>by
  have s:=st 0 ρ M (by simp) h
  unfold ZbS
  simp only[List.getElem_cons_zero,Nat.add_zero] at s
  cases e:tg x ρ with
  |none=>rw[e] at s;exact s.elim
  |some ρ1=>
   rw[e] at s
   simp only[wG] at s
   have rc: ∀ ρ2 M2,I (k + 1) ρ2 M2->wS (ZbS tg bd xs ρ2 M2) N R B C E:=fun ρ2 M2 h2=>ZhP I xs (k + 1) ρ2 M2 h2 (fun i ρ M hi hI=>by
    have z:=st (i + 1) ρ M (by simp;omega) (by rw[show k + (i + 1)=k + 1 + i by omega];exact hI)
    simp only[List.getElem_cons_succ] at z
    rw[show k + (i + 1) + 1=k + 1 + i + 1 by omega] at z
    exact z) (fun ρ M hI=>hn ρ M (by rw[show k + (x :: xs).length=k + 1 + xs.length by simp;omega];exact hI))
   cases eg:bd ρ1 M<;>rw[eg] at s<;>simp only[eg]
   ·exact rc _ _ s
   ·exact s
   ·exact s
   ·exact rc _ _ s
   ·exact s
   ·exact s
theorem ZkR:wS (Zbt tg fs bd ρ M) N R B C E=wO (fs ρ M) (fun ds M1=>w1 ds fun d=>wI d fun j=>(-(2 ^ 62)<=j/\j < 2 ^ 62)/\wS (ZbS tg bd (Zby 0 j.toNat) ρ M1) N R B C E) E:=by
 unfold Zbt
 rw[Zaf]
 congr 1
 funext ds M1
 rcases ds with _ | ⟨v,_ | ⟨w,r⟩⟩
 ·rfl
 ·cases v<;>try rfl
  rename_i j
  by_cases h: -(2 ^ 62)<=j/\j < 2 ^ 62
  ·simp only[w1,wI,eq_true h,true_and,if_true]
  ·simp only[w1,wI,eq_false h,false_and,if_false]
   rfl
 ·cases v<;>rfl
theorem Zdw (I:Nat->Ro->Sto->Prop) {n:Nat} {lo:Int} (h0:I 0 ρ M) (st: ∀ i ρ M,i < n->I i ρ M->wG (tg (.int (lo + i)) ρ) fun r=>wS (bd r M) (I (i + 1)) R N (I (i + 1)) E) (hn: ∀ ρ M,I n ρ M->N ρ M):wS (ZbS tg bd (Zby lo n) ρ M) N R B C E:=by
 have hl:(Zby lo n).length=n:=by simp[Zby]
 refine ZhP I _ 0 ρ M h0 (fun i ρ M h hI=> ?_) (fun ρ M hI=>hn ρ M (by rw[hl,Nat.zero_add] at hI;exact hI))
 have:(Zby lo n)[i]= .int (lo + i):=by simp[Zby]
 rw[this]
 rw[Nat.zero_add] at *
 exact st i ρ M (by rw[hl] at h;exact h) hI
theorem Znd:wS (Zif tg f bd ρ M) N R B C E=wO (f ρ M) (fun d M1=>wS (Zjx tg bd d ρ M1) N R B C E) E:=Zaf
theorem ZkS (I:Nat->Ro->Sto->Prop) {n:Nat} {xs:List D}: ∀ (f i:Nat) (ρ:Ro) (M:Sto),i + f=xs.length->I i ρ M->(∀ i ρ M,I i ρ M->M[n]?=some (.lst xs))->(∀ i ρ M (h:i < xs.length),I i ρ M->wG (tg xs[i] ρ) fun r=>wS (bd r M) (I (i + 1)) R N (I (i + 1)) E)->(∀ ρ M,I xs.length ρ M->N ρ M)->wS (Zgv tg bd n f i ρ M) N R B C E:=by
  intro f
  induction f with
  |zero=>
   intro i ρ M e h hm st hn
   have hx:=hm _ _ _ h
   unfold Zgv
   rw[hx]
   have:xs[i]?=none:=List.getElem?_eq_none (by omega)
   simp only[this]
   exact hn ρ M (by rw[show xs.length=i by omega];exact h)
  |succ f ih=>
   intro i ρ M e h hm st hn
   have hx:=hm _ _ _ h
   unfold Zgv
   rw[hx]
   have hi:i < xs.length:=by omega
   have:xs[i]?=some xs[i]:=List.getElem?_eq_getElem hi
   simp only[this]
   have s:=st i ρ M hi h
   cases e:tg xs[i] ρ with
   |none=>rw[e] at s;exact s.elim
   |some ρ1=>
    rw[e] at s
    simp only[wG] at s
    have rc: ∀ ρ2 M2,I (i + 1) ρ2 M2->wS (Zgv tg bd n f (i + 1) ρ2 M2) N R B C E:=fun ρ2 M2 h2=>ih (i + 1) ρ2 M2 (by omega) h2 hm st hn
    cases eg:bd ρ1 M<;>rw[eg] at s<;>simp only[eg]
    ·exact rc _ _ s
    ·exact s
    ·exact s
    ·exact rc _ _ s
    ·exact s
    ·exact s
theorem ZdR (I:Nat->Ro->Sto->Prop) {n:Nat} {xs:List D} (hM:M[n]?=some (.lst xs)) (h0:I 0 ρ M) (hm: ∀ i ρ M,I i ρ M->M[n]?=some (.lst xs)) (st: ∀ i ρ M (h:i < xs.length),I i ρ M->wG (tg xs[i] ρ) fun r=>wS (bd r M) (I (i + 1)) R N (I (i + 1)) E) (hn: ∀ ρ M,I xs.length ρ M->N ρ M):wS (Zjx tg bd (.ref n) ρ M) N R B C E:=by
 show wS (match M[n]? with | some (.lst xs)=>Zgv tg bd n xs.length 0 ρ M | none=> .bad) N R B C E
 rw[hM]
 exact ZkS I xs.length 0 ρ M (by omega) h0 hm st hn
theorem ZkT:wS (ZcU tg fi bd ρ M) N R B C E=wO (fi ρ M) (fun src M1=>wS (ZeS tg bd src (cnt src M1) 0 ρ M1) N R B C E) E:=Zaf
theorem ZhQ (I:Nat->Ro->Sto->Prop) {src:Src} {xs:List D}: ∀ (f i:Nat) (ρ:Ro) (M:Sto),i<=xs.length->xs.length<=i + f->I i ρ M->(∀ i ρ M,i<=xs.length->I i ρ M->nxt src i M=some xs[i]?)->(∀ i ρ M (h:i < xs.length),I i ρ M->wG (tg xs[i] ρ) fun r=>wS (bd r M) (I (i + 1)) R N (I (i + 1)) E)->(∀ ρ M,I xs.length ρ M->N ρ M)->wS (ZeS tg bd src f i ρ M) N R B C E:=by
  intro f
  induction f with
  |zero=>
   intro i ρ M le e h hm st hn
   have hx:=hm _ _ _ le h
   unfold ZeS
   rw[hx]
   have hi: ¬ i < xs.length:=by omega
   have:xs[i]?=none:=List.getElem?_eq_none (by omega)
   simp only[this]
   exact hn ρ M (by rw[show xs.length=i by omega];exact h)
  |succ f ih=>
   intro i ρ M le e h hm st hn
   have hx:=hm _ _ _ le h
   unfold ZeS
   rw[hx]
   by_cases hi:i < xs.length
   ·have:xs[i]?=some xs[i]:=List.getElem?_eq_getElem hi
    simp only[this]
    have s:=st i ρ M hi h
    cases e:tg xs[i] ρ with
    |none=>rw[e] at s;exact s.elim
    |some ρ1=>
     rw[e] at s
     simp only[wG] at s
     have rc: ∀ ρ2 M2,I (i + 1) ρ2 M2->wS (ZeS tg bd src f (i + 1) ρ2 M2) N R B C E:=fun ρ2 M2 h2=>ih (i + 1) ρ2 M2 (by omega) (by omega) h2 hm st hn
     cases eg:bd ρ1 M<;>rw[eg] at s<;>simp only[eg]
     ·exact rc _ _ s
     ·exact s
     ·exact s
     ·exact rc _ _ s
     ·exact s
     ·exact s
   ·have:xs[i]?=none:=List.getElem?_eq_none (by omega)
    simp only[this]
    exact hn ρ M (by rw[show xs.length=i by omega];exact h)
theorem Zi0 {c:Tv} (I:Nat->Ro->Sto->Prop) (st: ∀ n ρ M,I n ρ M->wO (c ρ M) (fun k M1=>Br k (wS (bd ρ M1) (fun ρ2 M2=> ∃ m,m < n/\I m ρ2 M2) R N (fun ρ2 M2=> ∃ m,m < n/\I m ρ2 M2) E) (N ρ M1)) E): ∀ (n:Nat) (ρ:Ro) (M:Sto),I n ρ M->wS (sWh c bd ρ M) N R B C E:=by
 intro n
 induction n using Nat.strongRecOn with
 |ind n ih=>
  intro ρ M h
  have s:=st n ρ M h
  cases ec:c ρ M with
  |bad=>rw[ec] at s;exact s.elim
  |exc x M1=>rw[ec] at s;rw[Zcw (n:=1) (o:= .exc x M1) (by simp only[whN,ec])];exact s
  |ok k M1=>
   rw[ec] at s
   cases k with
   |false=>
    rw[Zl,Zrl] at s
    rw[Zhj ec]
    exact s
   |true=>
    rw[Zl,ZoN] at s
    cases eg:bd ρ M1 with
    |nx ρ2 M2=>
     rw[eg] at s
     obtain ⟨m,hm,hI⟩:=s
     have r:=ih m hm ρ2 M2 hI
     rw[ZiH ec eg (by intro z;rw[z] at r;exact r)]
     exact r
    |cnt ρ2 M2=>
     rw[eg] at s
     obtain ⟨m,hm,hI⟩:=s
     have r:=ih m hm ρ2 M2 hI
     have nb:sWh c bd ρ2 M2≠ .bad:=by intro z;rw[z] at r;exact r
     obtain ⟨j,ej⟩:=Zhi nb
     rw[Zcw (n:=j + 1) (o:=sWh c bd ρ2 M2) (by simp only[whN,ec,eg];exact ej)]
     exact r
    |brk ρ2 M2=>rw[eg] at s;rw[Zcw (n:=1) (o:= .nx ρ2 M2) (by simp only[whN,ec,eg])];exact s
    |ret d M2=>rw[eg] at s;rw[Zcw (n:=1) (o:= .ret d M2) (by simp only[whN,ec,eg])];exact s
    |exc d M2=>rw[eg] at s;rw[Zcw (n:=1) (o:= .exc d M2) (by simp only[whN,ec,eg])];exact s
    |bad=>rw[eg] at s;exact s.elim
theorem ZkU {fi:Ro->Sto->Out Src} {k:Nat} {fr:List Nat} {c:Tv}:wO (ZaW fi k fr tg c f ρ M) Q E=wO (fi ρ M) (fun src M1=>wO (ZcB src tg c f M1.length (cnt src M1) 0 (roB k fr ρ) (M1 ++ [.lst []])) (fun _ M2=>Q (.ref M1.length) M2) (fun _ _=>False)) E:=by
 unfold ZaW
 rw[Zu]
 congr 1
 funext src M1
 cases ZcB src tg c f M1.length (cnt src M1) 0 (roB k fr ρ) (M1 ++ [.lst []])<;>rfl
theorem ZjG (I:Nat->Ro->Sto->Prop) {src:Src} {xs:List D} {c:Tv} {m:Nat} {Q:Sto->Prop}: ∀ (fu i:Nat) (ρ:Ro) (M:Sto),i<=xs.length->xs.length<=i + fu->I i ρ M->(∀ i ρ M,i<=xs.length->I i ρ M->nxt src i M=some xs[i]?)->
  (∀ i ρ M (h:i < xs.length),I i ρ M->wG (tg xs[i] ρ) fun r=>wO (c r M) (fun k M1=>Br k (wO (f r M1) (fun y M2=>wL M2[m]? fun ys=>ys.length < 10000000/\I (i + 1) r (M2.set m (.lst (ys ++ [y])))) (fun _ _=>False)) (I (i + 1) r M1)) (fun _ _=>False))->
  (∀ ρ M,I xs.length ρ M->Q M)->wO (ZcB src tg c f m fu i ρ M) (fun _ M2=>Q M2) (fun _ _=>False):=by
  intro fu
  induction fu with
  |zero=>
   intro i ρ M le e h hm st hn
   have hx:=hm _ _ _ le h
   unfold ZcB
   rw[hx]
   have hi: ¬ i < xs.length:=by omega
   have:xs[i]?=none:=List.getElem?_eq_none (by omega)
   simp only[this]
   exact hn ρ M (by rw[show xs.length=i by omega];exact h)
  |succ fu ih=>
   intro i ρ M le e h hm st hn
   have hx:=hm _ _ _ le h
   unfold ZcB
   rw[hx]
   by_cases hi:i < xs.length
   ·have:xs[i]?=some xs[i]:=List.getElem?_eq_getElem hi
    simp only[this]
    have s:=st i ρ M hi h
    cases e:tg xs[i] ρ with
    |none=>rw[e] at s;exact s.elim
    |some ρ1=>
     rw[e] at s
     simp only[wG] at s
     have rc: ∀ ρ2 M2,I (i + 1) ρ2 M2->wO (ZcB src tg c f m fu (i + 1) ρ2 M2) (fun _ M2=>Q M2) (fun _ _=>False):=fun ρ2 M2 h2=>ih (i + 1) ρ2 M2 (by omega) (by omega) h2 hm st hn
     cases ec:c ρ1 M with
     |bad=>rw[ec] at s;exact s.elim
     |exc _ _=>rw[ec] at s;exact s.elim
     |ok k M1=>
      rw[ec] at s
      rw[Zl] at s
      cases k with
      |false=>
       rw[Zrl] at s
       simp only[ec]
       exact rc _ _ s
      |true=>
       rw[ZoN] at s
       simp only[ec]
       cases ef:f ρ1 M1 with
       |bad=>rw[ef] at s;exact s.elim
       |exc _ _=>rw[ef] at s;exact s.elim
       |ok y M2=>
        rw[ef,Zl] at s
        simp only[ef]
        cases ey:M2[m]? with
        |none=>rw[ey] at s;exact s.elim
        |some o=>
         cases o with
         |lst ys=>
          rw[ey] at s
          simp only[wL,ey] at s ⊢
          rw[if_pos s.1]
          exact rc _ _ s.2
   ·have:xs[i]?=none:=List.getElem?_eq_none (by omega)
    simp only[this]
    exact hn ρ M (by rw[show xs.length=i by omega];exact h)
end
end DL
end
section
namespace DL
open PySem PySem.Spec PyProof.Rows L2
section
variable {Q:D->Sto->Prop} {E:Str->Sto->Prop} {N B C:Ro->Sto->Prop} {R:D->Sto->Prop} {ρ:Ro} {M:Sto} {f:Ev} {fs:Av} {i j:Int} {n m k:Nat} {x y d:D} {xs ys ds:List D} {lo hi:Ro->Sto->Out (Option Int)}
theorem Zex (h: -(18446744073709551616) < i/\i < 18446744073709551616):Z2 i j:=ZhL h.1 h.2
theorem ZdS (h: -(18446744073709551616) < j/\j < 18446744073709551616):Z2 i j:=ZhK h.1 h.2
theorem Zey (h:0 < j/\j < 18446744073709551616):Za5 j:=by
 refine ⟨by omega,?_⟩
 have:j.natAbs.log2 < 64:=(Nat.log2_lt (by omega)).mpr (by omega)
 omega
theorem Zpu:wO (dAdd (.int i) (.int j) M) Q E=Q (.int (i + j)) M:=rfl
theorem Zpv:wO (dSub (.int i) (.int j) M) Q E=Q (.int (i - j)) M:=rfl
theorem ZfR (h:Z2 i j):wO (dMul (.int i) (.int j) M) Q E=Q (.int (i * j)) M:=by
 show wO (if Z2 i j then _ else _) Q E=_
 rw[if_pos h];rfl
theorem Zpw (h: -(18446744073709551616) < i/\i < 18446744073709551616):wO (dMul (.int i) (.int j) M) Q E=Q (.int (i * j)) M:=ZfR (Zex h)
theorem Zne (h: -(18446744073709551616) < j/\j < 18446744073709551616):wO (dMul (.int i) (.int j) M) Q E=Q (.int (i * j)) M:=ZfR (ZdS h)
theorem Zpx (h:0 < j/\j < 18446744073709551616):wO (dDiv (.int i) (.int j) M) Q E=Q (.int (i / j)) M:=by
 show wO (if Za5 j then _ else _) Q E=_
 rw[if_pos (Zey h),Int.fdiv_eq_ediv_of_nonneg _ (by omega)];rfl
theorem Zpy (h:0 < j):wO (dMod (.int i) (.int j) M) Q E=Q (.int (i % j)) M:=by
 show wO (if j≠0 then _ else _) Q E=_
 rw[if_pos (by omega),Int.fmod_eq_emod_of_nonneg _ (by omega)];rfl
theorem Zpz (h:0<=j/\j<=1000000/\i.natAbs < 18446744073709551616):wO (dPow (.int i) (.int j) M) Q E=Q (.int (i ^ j.toNat)) M:=by
 show wO (if 0<=j/\j<=1000000/\i.natAbs < 2 ^ 64 then _ else _) Q E=_
 rw[if_pos ⟨h.1,h.2.1,by omega⟩];rfl
theorem ZsF:wO (dLt (.int i) (.int j) M) Q E=Q (.bl (decide (i < j))) M:=rfl
theorem ZsG:wO (dLe (.int i) (.int j) M) Q E=Q (.bl (decide (i<=j))) M:=rfl
theorem ZsH:wO (dGt (.int i) (.int j) M) Q E=Q (.bl (decide (j < i))) M:=rfl
theorem ZsI:wO (dGe (.int i) (.int j) M) Q E=Q (.bl (decide (j<=i))) M:=rfl
theorem ZpA:wO (dAdd (.ref n) (.ref m) M) Q E=wL M[n]? fun xs=>wL M[m]? fun ys=>xs.length + ys.length<=10000000/\Q (.ref M.length) (M ++ [.lst (xs ++ ys)]):=by
 show wO (match M[n]?,M[m]? with | some (.lst xs),some (.lst ys)=>_ | _,_=>_) Q E=_
 cases e1:M[n]? with
 |none=>rfl
 |some o=>
  cases o with
  |lst xs=>
   cases e2:M[m]? with
   |none=>rfl
   |some p=>
    cases p with
    |lst ys=>
     by_cases h:xs.length + ys.length<=10000000
     ·simp[wL,h,wO]
     ·simp[wL,h,wO]
theorem Znf (h:xs.length + ys.length<=100000/\xs≠[]):wO (dAdd (.tup xs) (.tup ys) M) Q E=Q (.tup (xs ++ ys)) M:=by
 show wO (if xs.length + ys.length<=100000/\xs≠[] then _ else _) Q E=_
 rw[if_pos h];rfl
theorem ZsJ:wO (dEq x y M) Q E=wG (eqF 12 M x y) fun b=>Q (.bl b) M:=by
 show wO (match eqF 12 M x y with | some b=>_ | none=>_) Q E=_
 cases eqF 12 M x y<;>rfl
theorem ZsK:wO (dNe x y M) Q E=wG (eqF 12 M x y) fun b=>Q (.bl (!b)) M:=by
 show wO (match eqF 12 M x y with | some b=>_ | none=>_) Q E=_
 cases eqF 12 M x y<;>rfl
theorem ZsL:wO (dIs x y M) Q E=wG (isP x y) fun b=>Q (.bl b) M:=by
 show wO (match isP x y with | some b=>_ | none=>_) Q E=_
 cases isP x y<;>rfl
theorem ZpB:wO (dIsNot x y M) Q E=wG (isP x y) fun b=>Q (.bl (!b)) M:=by
 show wO (match isP x y with | some b=>_ | none=>_) Q E=_
 cases isP x y<;>rfl
theorem ZkV:wO (atD xs i M) Q E=wG (atI xs i) fun d=>Q d M:=by
 unfold atD
 cases atI xs i<;>rfl
theorem ZpC:wO (dIx (.tup xs) (.int i) M) Q E=wG (atI xs i) fun d=>Q d M:=ZkV
theorem ZpD:wO (dIx (.rol xs) (.int i) M) Q E=wG (atI xs i) fun d=>Q d M:=ZkV
theorem ZpE:wO (dIx (.ref n) (.int i) M) Q E=wL M[n]? fun xs=>wG (atI xs i) fun d=>Q d M:=by
 show wO (match M[n]? with | some (.lst xs)=>atD xs i M | _=> .bad) Q E=_
 cases e1:M[n]? with
 |none=>rfl
 |some o=>cases o with | lst xs=>exact ZkV
theorem Zng:wO (bLen [.ref n] M) Q E=wL M[n]? fun xs=>Q (.int xs.length) M:=by
 show wO (match (match M[n]? with | some (.lst xs)=>some xs | _=>none) with | some xs=>_ | none=>_) Q E=_
 cases e1:M[n]? with
 |none=>rfl
 |some o=>cases o with | lst xs=>rfl
theorem Znh:wO (bLen [.tup xs] M) Q E=Q (.int xs.length) M:=rfl
theorem Zni:wO (bLen [.rol xs] M) Q E=Q (.int xs.length) M:=rfl
theorem ZpF:wO (bAbs [.int i] M) Q E=Q (.int (i.natAbs:Int)) M:=by rw[<- ZkJ];rfl
theorem ZpG:wO (bMax [.int i,.int j] M) Q E=Q (.int (max i j)) M:=by
 have:max i j=if j > i then j else i:=by split<;>omega
 rw[this];rfl
theorem ZpH:wO (bMin [.int i,.int j] M) Q E=Q (.int (min i j)) M:=by
 have:min i j=if j < i then j else i:=by split<;>omega
 rw[this];rfl
theorem Znj {k:Bool}:wO (bInt [.bl k] M) Q E=Q (.int (if k then 1 else 0)) M:=rfl
theorem Znk:wO (bInt [.int i] M) Q E=Q (.int i) M:=rfl
theorem ZkW:wO (bList [.ref n] M) Q E=wL M[n]? fun xs=>Q (.ref M.length) (M ++ [.lst xs]):=by
 show wO (match (match M[n]? with | some (.lst xs)=>some xs | _=>none) with | some xs=>_ | none=>_) Q E=_
 cases e1:M[n]? with
 |none=>rfl
 |some o=>cases o with | lst xs=>rfl
theorem ZkX:wO (bList [.tup xs] M) Q E=Q (.ref M.length) (M ++ [.lst xs]):=rfl
theorem ZpI:wO (bAll [.ref n] M) Q E=wL M[n]? fun xs=>wG (ZaB xs) fun bs=>Q (.bl (bs.all id)) M:=by
 show wO (match M[n]? with | some (.lst xs)=>(match ZaB xs with | some bs=>Out.ok (.bl (bs.all id)) M | none=> .bad) | none=> .bad) Q E=_
 cases e1:M[n]? with
 |none=>rfl
 |some o=>
  cases o with
  |lst xs=>
   show wO (match ZaB xs with | some bs=>Out.ok (.bl (bs.all id)) M | none=> .bad) Q E=wG (ZaB xs) _
   cases ZaB xs<;>rfl
theorem Znl {g:List Int->Option Int}:wO (Ze9 g [.ref n] M) Q E=wL M[n]? fun xs=>wG (ZbT xs) fun ns=>wG (g ns) fun i=>Q (.int i) M:=by
 show wO (match (match M[n]? with | some (.lst xs)=>some xs | _=>none) with | some xs=>(match ZbT xs with | some ns=>(match g ns with | some i=>Out.ok (.int i) M | none=> .bad) | none=> .bad) | none=> .bad) Q E=_
 cases e1:M[n]? with
 |none=>rfl
 |some o=>
  cases o with
  |lst xs=>
   show wO (match ZbT xs with | some ns=>(match g ns with | some i=>Out.ok (.int i) M | none=> .bad) | none=> .bad) Q E=wG (ZbT xs) _
   cases ZbT xs with
   |none=>rfl
   |some ns=>
    show wO (match g ns with | some i=>Out.ok (.int i) M | none=> .bad) Q E=wG (g ns) _
    cases g ns<;>rfl
theorem ZsM {g:Me} {fo:Ev}:wO (Zer g fo fs ρ M) Q E=wO (fo ρ M) (fun x M1=>Zky x M1=true/\wO (fs ρ M1) (fun ds M2=>wO (g x ds M2) Q E) E) E:=by
 unfold Zer
 rw[Zu]
 congr 1
 funext x M1
 by_cases h:Zky x M1=true
 ·simp only[h,if_true,true_and];rw[Zu]
 ·simp[h,wO]
theorem Znm:Zky (.ref n) M=M[n]?.isSome:=rfl
theorem ZpJ:wO (mApp (.ref n) [d] M) Q E=wL M[n]? fun xs=>xs.length < 10000000/\Q .non (M.set n (.lst (xs ++ [d]))):=by
 show wO (match M[n]? with | some (.lst xs)=>if xs.length < 10000000 then _ else _ | none=>_) Q E=_
 cases e1:M[n]? with
 |none=>rfl
 |some o=>
  cases o with
  |lst xs=>
   by_cases h:xs.length < 10000000
   ·simp[wL,h,wO]
   ·simp[wL,h,wO]
theorem ZpK:wO (Zrg (.ref n) [] M) Q E=wL M[n]? fun xs=>Q .non (M.set n (.lst [])):=by
 show wO (match M[n]? with | some (.lst xs)=>_ | none=>_) Q E=_
 cases e1:M[n]? with
 |none=>rfl
 |some o=>cases o with | lst xs=>rfl
theorem ZpL:wO (mExt (.ref n) [.ref m] M) Q E=wL M[n]? fun xs=>wL M[m]? fun ys=>xs.length + ys.length<=10000000/\Q .non (M.set n (.lst (xs ++ ys))):=by
 show wO (match M[n]?,M[m]? with | some (.lst xs),some (.lst ys)=>if xs.length + ys.length<=10000000 then _ else _ | _,_=>_) Q E=_
 cases e1:M[n]? with
 |none=>rfl
 |some o=>
  cases o with
  |lst xs=>
   cases e2:M[m]? with
   |none=>rfl
   |some p=>
    cases p with
    |lst ys=>
     by_cases h:xs.length + ys.length<=10000000
     ·simp[wL,h,wO]
     ·simp[wL,h,wO]
noncomputable def slR (x:D) (l u:Option Int) (M3:Sto):Out D:=match x with
 | .ref n=>(match M3[n]? with | some (.lst xs)=> .ok (.ref M3.length) (M3 ++ [.lst (Zd7 xs l u)]) | none=> .bad)
 | .rol xs=> .ok (.ref M3.length) (M3 ++ [.lst (Zd7 xs l u)])
 | .tup xs=>if HT.sIx xs.length 0 l=0/\HT.sIx xs.length xs.length u=xs.length then .bad else .ok (.tup (Zd7 xs l u)) M3
 |_=> .bad
theorem ZpM:wO (eSl f lo hi ρ M) Q E=wO (f ρ M) (fun x M1=>wO (lo ρ M1) (fun l M2=>wO (hi ρ M2) (fun u M3=>wO (slR x l u M3) Q E) E) E) E:=by
 unfold eSl
 rw[Zu]
 congr 1
 funext x M1
 rw[Zu]
 congr 1
 funext l M2
 rw[Zu]
 congr 1
theorem ZpN {l u:Option Int}:wO (slR (.ref n) l u M) Q E=wL M[n]? fun xs=>Q (.ref M.length) (M ++ [.lst (Zd7 xs l u)]):=by
 unfold slR
 cases e1:M[n]? with
 |none=>simp only[e1];rfl
 |some o=>cases o with | lst xs=>simp only[e1];rfl
theorem ZpO {Q:Option Int->Sto->Prop}:wO (oSo f ρ M) Q E=wO (f ρ M) (fun x M1=>wI x fun i=>Q (some i) M1) E:=by
 unfold oSo
 rw[Zu]
 congr 1
 funext x M1
 cases x<;>rfl
theorem Znn (h:0<=i):Zd7 xs none (some i)=xs.take i.toNat:=by
 unfold Zd7
 simp only[HT.sIx]
 rw[if_neg (by omega),List.drop_zero,Nat.sub_zero]
 by_cases c:i.toNat<=xs.length
 ·rw[Nat.min_eq_left c]
 ·rw[Nat.min_eq_right (by omega),List.take_of_length_le (Nat.le_refl _),List.take_of_length_le (by omega)]
theorem Zi1 (h:0<=i):Zd7 xs (some i) none=xs.drop i.toNat:=by
 unfold Zd7
 simp only[HT.sIx]
 rw[if_neg (by omega)]
 by_cases c:i.toNat<=xs.length
 ·rw[Nat.min_eq_left c,List.take_of_length_le (by simp)]
 ·rw[Nat.min_eq_right (by omega),List.drop_eq_nil_of_le (Nat.le_refl _),List.drop_eq_nil_of_le (by omega),List.take_nil]
theorem Zdj {L:Sto}:(M ++ L)[M.length]?=L[0]?:=by rw[List.getElem?_append_right (Nat.le_refl _),Nat.sub_self]
theorem Zgw {L:Sto} {i:Nat}:(M ++ L)[M.length + i]?=L[i]?:=by rw[List.getElem?_append_right (by omega)];congr 1;omega
theorem Zbx {L:Sto} (h:n < M.length):(M ++ L)[n]?=M[n]?:=List.getElem?_append_left h
theorem ZjH {L:Sto} {o:SO}:(M ++ L).set M.length o=M ++ L.set 0 o:=by rw[List.set_append_right _ _ (Nat.le_refl _),Nat.sub_self]
theorem ZpP {L:Sto} {o:SO} {i:Nat}:(M ++ L).set (M.length + i) o=M ++ L.set i o:=by rw[List.set_append_right _ _ (by omega)];congr 2;omega
theorem Zno {o:SO} (h:k≠n):(M.set n o)[k]?=M[k]?:=List.getElem?_set_ne (Ne.symm h)
theorem Znp {o:SO} (h:n < M.length):(M.set n o)[n]?=some o:=List.getElem?_set_self h
theorem Zs {o:SO} (h:M[n]?=some o):n < M.length:=(List.getElem?_eq_some_iff.mp h).1
noncomputable abbrev pr (x y:Int):D:= .tup [.int x,.int y]
noncomputable def prs (rs:List (Int × Int)):List D:=rs.map fun p=>pr p.1 p.2
noncomputable def nts (ns:List Int):List D:=ns.map D.int
theorem Zq {rs:List (Int × Int)}:(prs rs).length=rs.length:=List.length_map _
theorem Zb4 {rs:List Int}:(nts rs).length=rs.length:=List.length_map _
theorem ZkY {a b:List (Int × Int)}:prs a ++ prs b=prs (a ++ b):=(List.map_append).symm
theorem ZkZ {a b:List Int}:nts a ++ nts b=nts (a ++ b):=(List.map_append).symm
theorem ZfS {a:List (Int × Int)}:(prs a).take n=prs (a.take n):=List.map_take.symm
theorem ZfT {a:List (Int × Int)}:(prs a).drop n=prs (a.drop n):=List.map_drop.symm
theorem Zi2 {a:List Int}:(nts a).take n=nts (a.take n):=List.map_take.symm
theorem Zi3 {a:List Int}:(nts a).drop n=nts (a.drop n):=List.map_drop.symm
theorem Zi4 {a b:Int} {r:List (Int × Int)}:pr a b :: prs r=prs ((a,b) :: r):=rfl
theorem Zk0 {a:List (Int × Int)} {b c:Int}:(prs a).set n (pr b c)=prs (a.set n (b,c)):=by unfold prs;rw[List.map_set]
theorem Zk1 {a:List Int} {b:Int}:(nts a).set n (.int b)=nts (a.set n b):=by unfold nts;rw[List.map_set]
noncomputable def cy (rs:List (Int × Int)) (i:Int):Int × Int:=rs.getD (i % rs.length).toNat (0,0)
theorem Znq {i:Int} {n:Nat} (h: -(n:Int)<=i/\i < n):ixN n i=some (i % n).toNat:=by
 unfold ixN
 by_cases c:0<=i
 ·rw[if_pos c,if_pos h.2,Int.emod_eq_of_lt c h.2]
 ·rw[if_neg c,if_pos h.1]
  have:i % n=i + n:=by
   rw[<- Int.add_emod_right,Int.emod_eq_of_lt (by omega) (by omega)]
  rw[this]
theorem Zdx {rs:List (Int × Int)} (h: -(rs.length:Int)<=i/\i < rs.length):atI (prs rs) i=some (pr (cy rs i).1 (cy rs i).2):=by
 unfold atI
 rw[Zq,Znq h]
 have hp:(i % rs.length).toNat < rs.length:=by
  have:=Int.emod_lt_of_pos i (show (0:Int) < rs.length by omega)
  have:=Int.emod_nonneg i (show (rs.length:Int)≠0 by omega)
  omega
 simp[prs,cy,List.getElem?_eq_getElem hp]
theorem Zdy {rs:List (Int × Int)}:cy rs (i % rs.length)=cy rs i:=by unfold cy;rw[Int.emod_emod_of_dvd _ (Int.dvd_refl _)]
theorem ZcY {rs:List (Int × Int)}:cy rs (i + rs.length)=cy rs i:=by unfold cy;rw[Int.add_emod_right]
theorem Zcy {rs:List (Int × Int)}:cy rs (i - rs.length)=cy rs i:=by unfold cy;rw[Int.sub_emod_right]
theorem Zez {rs:List (Int × Int)} {k:Nat} (h:k < rs.length):cy rs k=rs[k]:=by
 unfold cy
 rw[Int.emod_eq_of_lt (by omega) (by omega)]
 simp[List.getElem?_eq_getElem h]
theorem ZpQ {a b:Int}:eqF (n + 1) M (.int a) (.int b)=some (decide (a=b)):=rfl
theorem ZsN {a b:Bool}:eqF (n + 1) M (.bl a) (.bl b)=some (a == b):=rfl
theorem ZpR {a b c d:Int}:eqF (n + 2) M (pr a b) (pr c d)=some (decide ((a,b)=(c,d))):=by
 show some ((a == c) && ((b == d) && true))=_
 congr 1
 rw[Bool.eq_iff_iff]
 simp
theorem Znr {rs ss:List (Int × Int)}:eqL (eqF (n + 2) M) (prs rs) (prs ss)=some (decide (rs=ss)):=by
 induction rs generalizing ss with
 |nil=>cases ss<;>rfl
 |cons r rs ih=>
  cases ss with
  |nil=>rfl
  |cons s ss=>
   show (match eqF (n + 2) M (pr r.1 r.2) (pr s.1 s.2) with | some a=>(match eqL _ (prs rs) (prs ss) with | some b=>some (a && b) | none=>none) | none=>none)=_
   rw[ZpR,ih]
   simp only[]
   congr 1
   rw[Bool.eq_iff_iff]
   obtain ⟨r1,r2⟩:=r
   obtain ⟨s1,s2⟩:=s
   simp
theorem ZpS {xs ys:List D} (h1:M[n]?=some (.lst xs)) (h2:M[m]?=some (.lst ys)):eqF (k + 1) M (.ref n) (.ref m)=if xs.length=ys.length then eqL (eqF k M) xs ys else some false:=by
 show (match kd M (.ref n),kd M (.ref m) with | some a,some b=>eqK (eqF k M) a b | _,_=>none)=_
 have e1:kd M (.ref n)=some (.lst xs):=by show (match M[n]? with | some (.lst xs)=>some (Kd.lst xs) | _=>none)=_;rw[h1]
 have e2:kd M (.ref m)=some (.lst ys):=by show (match M[m]? with | some (.lst xs)=>some (Kd.lst xs) | _=>none)=_;rw[h2]
 rw[e1,e2]
 rfl
theorem Zns:Zbr M (.int i)=some "int":=rfl
theorem ZpT {b:Bool}:Zbr M (.bl b)=some "bool":=rfl
theorem Znt:Zbr M (.tup xs)=some "tuple":=rfl
theorem Znu:Zbr M .non=some "NoneType":=rfl
theorem Znv (h:M[n]?=some (.lst xs)):Zbr M (.ref n)=some "list":=by
 show (match (match M[n]? with | some (.lst xs)=>some (Kd.lst xs) | _=>none) with | some .non=>_ | some (.bl _)=>_ | some (.int _)=>_ | some (.str _)=>_ | some (.tup _)=>_ | some (.lst _)=>_ | none=>_)=_
 rw[h]
end
end DL
end
section
namespace DL
open PySem PySem.Spec PyProof.Rows L2
section
variable {Q:D->Sto->Prop} {E:Str->Sto->Prop} {N B C:Ro->Sto->Prop} {R:D->Sto->Prop} {ρ:Ro} {M:Sto} {f:Ev} {fs:Av} {i j:Int} {n m k:Nat} {x y z d:D} {xs ys ds:List D} {QS:Src->Sto->Prop} {tg:Tg} {bd:Sv} {b:Bool}
theorem Zk2:wS (Zhk tg fs bd ρ M) N R B C E=wO (fs ρ M) (fun ds M1=>w2 ds fun x y=>wI x fun i=>wI y fun j=>(-(2 ^ 62)<=i/\i < 2 ^ 62/\ -(2 ^ 62)<=j/\j < 2 ^ 62)/\wS (ZbS tg bd (Zby i (j - i).toNat) ρ M1) N R B C E) E:=by
 unfold Zhk
 rw[Zaf]
 congr 1
 funext ds M1
 rcases ds with _ | ⟨v,_ | ⟨w,_ | ⟨w',r⟩⟩⟩
 ·rfl
 ·cases v<;>rfl
 ·cases v<;>try rfl
  cases w<;>try rfl
  rename_i i j
  by_cases h: -(2 ^ 62)<=i/\i < 2 ^ 62/\ -(2 ^ 62)<=j/\j < 2 ^ 62
  ·simp only[w2,wI,eq_true h,true_and,if_true]
  ·simp only[w2,wI,eq_false h,false_and,if_false]
   rfl
 ·cases v<;>cases w<;>rfl
theorem ZsO:wO (iR1 fs ρ M) QS E=wO (fs ρ M) (fun ds M1=>w1 ds fun d=>wI d fun j=>(-(2 ^ 62)<=j/\j < 2 ^ 62)/\QS (.pur (Zby 0 j.toNat)) M1) E:=by
 unfold iR1
 rw[Zu]
 congr 1
 funext ds M1
 rcases ds with _ | ⟨v,_ | ⟨w,r⟩⟩
 ·rfl
 ·cases v<;>try rfl
  rename_i j
  by_cases h: -(2 ^ 62)<=j/\j < 2 ^ 62
  ·simp only[w1,wI,eq_true h,true_and,if_true,Zl]
  ·simp only[w1,wI,eq_false h,false_and,if_false]
   rfl
 ·cases v<;>rfl
theorem ZsP:wO (iR2 fs ρ M) QS E=wO (fs ρ M) (fun ds M1=>w2 ds fun x y=>wI x fun i=>wI y fun j=>(-(2 ^ 62)<=i/\i < 2 ^ 62/\ -(2 ^ 62)<=j/\j < 2 ^ 62)/\QS (.pur (Zby i (j - i).toNat)) M1) E:=by
 unfold iR2
 rw[Zu]
 congr 1
 funext ds M1
 rcases ds with _ | ⟨v,_ | ⟨w,_ | ⟨w',r⟩⟩⟩
 ·rfl
 ·cases v<;>rfl
 ·cases v<;>try rfl
  cases w<;>try rfl
  rename_i i j
  by_cases h: -(2 ^ 62)<=i/\i < 2 ^ 62/\ -(2 ^ 62)<=j/\j < 2 ^ 62
  ·simp only[w2,wI,eq_true h,true_and,if_true,Zl]
  ·simp only[w2,wI,eq_false h,false_and,if_false]
   rfl
 ·cases v<;>cases w<;>rfl
theorem ZsQ:wO (iEn fs ρ M) QS E=wO (fs ρ M) (fun ds M1=>w1 ds fun d=>wR d fun n=>QS (.enu n) M1) E:=by
 unfold iEn
 rw[Zu]
 congr 1
 funext ds M1
 rcases ds with _ | ⟨v,_ | ⟨w,r⟩⟩<;>try rfl
 ·cases v<;>rfl
 ·cases v<;>rfl
theorem ZsR:wO (iZp fs ρ M) QS E=wO (fs ρ M) (fun ds M1=>w2 ds fun x y=>wR x fun n=>wR y fun m=>QS (.zip n m) M1) E:=by
 unfold iZp
 rw[Zu]
 congr 1
 funext ds M1
 rcases ds with _ | ⟨v,_ | ⟨w,_ | ⟨w',r⟩⟩⟩<;>try rfl
 ·cases v<;>rfl
 ·cases v<;>cases w<;>rfl
 ·cases v<;>cases w<;>rfl
theorem ZsS:wO (iRv fs ρ M) QS E=wO (fs ρ M) (fun ds M1=>w1 ds fun d=>wR d fun n=>wL M1[n]? fun xs=>QS (.rev n xs.length) M1) E:=by
 unfold iRv
 rw[Zu]
 congr 1
 funext ds M1
 rcases ds with _ | ⟨v,_ | ⟨w,r⟩⟩<;>try rfl
 ·cases v<;>try rfl
  rename_i n
  cases e:M1[n]? with
  |none=>simp only[e];simp only[w1,wR,e];rfl
  |some o=>cases o with | lst xs=>simp only[e,w1,wR];rfl
 ·cases v<;>rfl
noncomputable def Znw (Q:D->Sto->Prop) (ρ:Ro) (M:Sto):Prop:=Q .non M
theorem wF1:wO (fnF bd 1 k [x] M) Q E=wS (bd (some x :: List.replicate k none) M) (Znw Q) Q (fun _ _=>False) (fun _ _=>False) E:=wF rfl
theorem wF2:wO (fnF bd 2 k [x,y] M) Q E=wS (bd (some x :: some y :: List.replicate k none) M) (Znw Q) Q (fun _ _=>False) (fun _ _=>False) E:=wF rfl
theorem wF3:wO (fnF bd 3 k [x,y,z] M) Q E=wS (bd (some x :: some y :: some z :: List.replicate k none) M) (Znw Q) Q (fun _ _=>False) (fun _ _=>False) E:=wF rfl
theorem wF4:wO (fnF bd 4 k [x,y,z,d] M) Q E=wS (bd (some x :: some y :: some z :: some d :: List.replicate k none) M) (Znw Q) Q (fun _ _=>False) (fun _ _=>False) E:=wF rfl
theorem Zi5 {a:List (Int × Int)} {b c:Int}:prs a ++ [pr b c]=prs (a ++ [(b,c)]):=by simp[prs]
theorem Zi6 {a:List Int} {b:Int}:nts a ++ [D.int b]=nts (a ++ [b]):=by simp[nts]
theorem Zi7 {b:Int} {r:List Int}:D.int b :: nts r=nts (b :: r):=rfl
theorem ZpU:isP .non .non=some true:=rfl
theorem ZpV:isP (.int i) .non=some false:=rfl
theorem ZpW:isP (.tup xs) .non=some false:=rfl
theorem ZpX:isP (.ref n) .non=some false:=rfl
theorem Zfd (h:M[n]?=some (.lst xs)):cnt (.sto n) M=xs.length:=by show (match M[n]? with | some (.lst xs)=>xs.length | none=>0)=_;rw[h]
theorem Zk3 (h:M[n]?=some (.lst xs)):cnt (.enu n) M=xs.length:=by show (match M[n]? with | some (.lst xs)=>xs.length | none=>0)=_;rw[h]
theorem Zk4 (h:M[n]?=some (.lst xs)):cnt (.zip n m) M=xs.length:=by show (match M[n]? with | some (.lst xs)=>xs.length | none=>0)=_;rw[h]
theorem at2 {r:List D}:atI (x :: y :: z :: r) 2=some z:=by
 show (ixN (r.length + 3) 2).bind _=_
 unfold ixN
 rw[if_pos (by decide),if_pos (by omega)]
 rfl
theorem at3 {r:List D}:atI (x :: y :: z :: d :: r) 3=some d:=by
 show (ixN (r.length + 4) 3).bind _=_
 unfold ixN
 rw[if_pos (by decide),if_pos (by omega)]
 rfl
theorem Znx:ZcQ "int" "int"=true:=rfl
theorem Zny:ZcQ "int" "bool"=false:=rfl
theorem Znz:ZcQ "bool" "int"=true:=rfl
theorem ZnA:ZcQ "bool" "bool"=true:=rfl
theorem ZnB:ZcQ "tuple" "tuple"=true:=rfl
theorem ZnC:ZcQ "list" "list"=true:=rfl
theorem ZnD:ZcQ "tuple" "int"=false:=rfl
theorem ZnE:ZcQ "tuple" "list"=false:=rfl
theorem ZnF:ZcQ "list" "tuple"=false:=rfl
theorem ZnG:ZcQ "list" "int"=false:=rfl
theorem ZnH:ZcQ "NoneType" "tuple"=false:=rfl
theorem ZnI:ZcQ "NoneType" "list"=false:=rfl
theorem ZnJ (h:M[n]?=some (.lst xs)):nxt (.enu n) k M=some ((xs[k]?).map fun d=>D.tup [.int k,d]):=by
 show (match M[n]? with | some (.lst xs)=>(match xs[k]? with | some x=>some (some (D.tup [.int k,x])) | none=>some none) | none=>none)=_
 rw[h]
 simp only[]
 cases xs[k]?<;>rfl
theorem ZeA (h:M[n]?=some (.lst xs)):nxt (.sto n) k M=some xs[k]?:=by
 show (match M[n]? with | some (.lst xs)=>some xs[k]? | none=>none)=_
 rw[h]
section
variable {g:Jv} {bb:Nat}
end
theorem ZhR (I:Nat->Ro->Sto->Prop) (hM:M[n]?=some (.lst xs)) (h0:I 0 ρ M) (hm: ∀ i ρ M,I i ρ M->M[n]?=some (.lst xs)) (st: ∀ (i:Nat) ρ M (h:i < xs.length),I i ρ M->wG (tg (.tup [.int i,xs[i]]) ρ) fun r=>wS (bd r M) (I (i + 1)) R N (I (i + 1)) E) (hn: ∀ ρ M,I xs.length ρ M->N ρ M):wS (ZeS tg bd (.enu n) (cnt (.enu n) M) 0 ρ M) N R B C E:=by
 rw[Zk3 hM]
 have hl:(xs.mapIdx fun (k:Nat) d=>D.tup [.int k,d]).length=xs.length:=by simp
 refine ZhQ I (xs:=xs.mapIdx fun (k:Nat) d=>D.tup [.int k,d]) _ 0 ρ M (by simp) (by simp) h0 (fun i ρ M _ hI=> ?_) (fun i ρ M h hI=> ?_) (fun ρ M hI=>hn ρ M (by rw[hl] at hI;exact hI))
 ·rw[ZnJ (hm _ _ _ hI),List.getElem?_mapIdx]
 ·rw[List.getElem_mapIdx]
  exact st i ρ M (by rw[hl] at h;exact h) hI
theorem ZnK (h:M[n]?=some (.lst xs)) (h':M[m]?=some (.lst ys)):nxt (.zip n m) k M=some ((List.zipWith (fun a b=>D.tup [a,b]) xs ys)[k]?):=by
 show (match M[n]?,M[m]? with | some (.lst xs),some (.lst ys)=>(match xs[k]?,ys[k]? with | some x,some y=>some (some (D.tup [x,y])) | _,_=>some none) | _,_=>none)=_
 rw[h,h',List.getElem?_zipWith]
 simp only[]
 cases xs[k]?<;>cases ys[k]?<;>rfl
theorem ZnL (h:M[n]?=some (.lst xs)) (hk:k<=xs.length):nxt (.rev n xs.length) k M=some xs.reverse[k]?:=by
 show (match M[n]? with | some (.lst ys)=>if k < xs.length then (match ys[xs.length - 1 - k]? with | some x=>some (some x) | none=>none) else (if k=xs.length then some none else none) | none=>none)=_
 rw[h]
 simp only[]
 by_cases c:k < xs.length
 ·rw[if_pos c,List.getElem?_reverse c,List.getElem?_eq_getElem (by omega)]
 ·rw[if_neg c,if_pos (by omega),List.getElem?_eq_none (by simp;omega)]
theorem Zk5 {src:Src} (Inv:Ro->Prop) (F:Nat->D) {Q:Sto->Prop} (hl:xs.length < 10000000) (hcnt:xs.length<=cnt src M) (h0:Inv ρ) (hs: ∀ (L:Sto) (i:Nat),i<=xs.length->nxt src i (M ++ L)=some xs[i]?)
  (st: ∀ (i:Nat) (h:i < xs.length) (ρ:Ro) (L:Sto),Inv ρ->wG (tg xs[i] ρ) fun r=>Inv r/\wO (f r (M ++ L)) (fun y M2=>y=F i/\M2=M ++ L) (fun _ _=>False)) (hq:Q (M ++ [.lst ((List.range xs.length).map F)])):
  wO (ZcB src tg (fun _ M=> .ok true M) f M.length (cnt src M) 0 ρ (M ++ [.lst []])) (fun _ M2=>Q M2) (fun _ _=>False):=by
 refine ZjG (fun i ρ M'=>Inv ρ/\M'=M ++ [.lst ((List.range i).map F)]) (xs:=xs) _ 0 ρ _ (by simp) (by omega) ⟨h0,rfl⟩ (fun i ρ M' hi hI=>by rw[hI.2];exact hs _ i hi) (fun i ρ M' h hI=> ?_) (fun ρ M' hI=>by rw[hI.2];exact hq)
 obtain ⟨hI,rfl⟩:=hI
 have s:=st i h ρ [.lst ((List.range i).map F)] hI
 cases e:tg xs[i] ρ with
 |none=>rw[e] at s;exact s.elim
 |some r=>
  rw[e] at s
  obtain ⟨hr,s⟩:=s
  show Br true _ _
  rw[ZoN]
  refine ZcX s (fun y M2 ⟨h1,h2⟩=> ?_) (fun _ _ z=>z)
  subst h1 h2
  rw[Zdj]
  refine ⟨by simp;omega,hr,?_⟩
  rw[ZjH,List.range_succ,List.map_append]
  rfl
theorem Zfe {lo:Int}:(Zby lo n).length=n:=by simp[Zby]
theorem Zk6 {lo:Int} (h:k < (Zby lo n).length):(Zby lo n)[k]= .int (lo + k):=by simp[Zby]
theorem ZhS {F:Nat->Int}:(List.range n).map (fun i=>D.int (F i))=nts ((List.range n).map F):=by simp[nts]
end
end DL
end
section
namespace DL
open PySem PySem.Spec PyProof.Rows L2
section
variable {Q:D->Sto->Prop} {E:Str->Sto->Prop} {N B C:Ro->Sto->Prop} {R:D->Sto->Prop} {ρ:Ro} {M:Sto} {f g:Ev} {fs:Av} {i j:Int} {n m k:Nat} {x y z d:D} {xs ys ds:List D} {QL:List D->Sto->Prop} {QB:Bool->Sto->Prop} {QS:Src->Sto->Prop} {tg:Tg} {a bd:Sv} {b:Bool} {t u:Tv}
noncomputable def kU {β γ:Type} (u:β->Sto->Out γ) (Q:γ->Sto->Prop) (E:Str->Sto->Prop) (x:β) (M:Sto):Prop:=wO (u x M) Q E
noncomputable def kQ {β γ:Type} (Q:γ->Sto->Prop) (c:β->γ) (M:Sto) (x:β):Prop:=Q (c x) M
noncomputable def kB2 (op:Bo) (x:D) (Q:D->Sto->Prop) (E:Str->Sto->Prop) (y:D) (M:Sto):Prop:=wO (op x y M) Q E
noncomputable def kB1 (op:Bo) (g:Ev) (ρ:Ro) (Q:D->Sto->Prop) (E:Str->Sto->Prop) (x:D) (M:Sto):Prop:=wO (g ρ M) (kB2 op x Q E) E
theorem ZsT {op:Bo}:wO (e2 op f g ρ M) Q E=wO (f ρ M) (kB1 op g ρ Q E) E:=Zpt
theorem y_c:wO (eC d ρ M) Q E=Q d M:=rfl
theorem y_v:wO (Zd k ρ M) Q E=wV ρ[k]? (kQ Q id M):=ZsE
theorem ZnM {F:List D->Sto->Out D}:wO (Zh F fs ρ M) Q E=wO (fs ρ M) (kU F Q E) E:=ZkN
noncomputable def kA2 (x:D) (Q:List D->Sto->Prop) (xs:List D) (M:Sto):Prop:=Q (x :: xs) M
noncomputable def kA1 (fs:Av) (ρ:Ro) (Q:List D->Sto->Prop) (E:Str->Sto->Prop) (x:D) (M:Sto):Prop:=wO (fs ρ M) (kA2 x Q) E
theorem ZpY:wO (aNil ρ M) QL E=QL [] M:=rfl
theorem ZnN:wO (Zb f fs ρ M) QL E=wO (f ρ M) (kA1 fs ρ QL E) E:=ZkO
noncomputable def kTu (Q:D->Sto->Prop) (xs:List D) (M:Sto):Prop:=xs.length<=1000/\Q (.tup xs) M
noncomputable def kLs (Q:D->Sto->Prop) (xs:List D) (M:Sto):Prop:=xs.length<=1000/\Q (.ref M.length) (M ++ [.lst xs])
theorem ZpZ:wO (Z5 fs ρ M) Q E=wO (fs ρ M) (kTu Q) E:=Zm5
theorem Zp0:wO (ZbR fs ρ M) Q E=wO (fs ρ M) (kLs Q) E:=Zm6
noncomputable def Zrm (x:D) (M:Sto):Out D:=match x with | .int i=> .ok (.int (-i)) M | _=> .bad
theorem Zp1:wO (Zdf f ρ M) Q E=wO (f ρ M) (kU Zrm Q E) E:=by unfold Zdf;exact Zu
theorem ZnO:wO (Zrm (.int i) M) Q E=Q (.int (-i)) M:=rfl
noncomputable def Zp2 (T:String) (x:D) (M:Sto):Out D:=match Zbr M x with | some t=> .ok (.bl (ZcQ t T)) M | none=> .bad
theorem Zp3 {T:String}:wO (Zms T f ρ M) Q E=wO (f ρ M) (kU (Zp2 T) Q E) E:=by unfold Zms;exact Zu
noncomputable def kTy (T:String) (Q:D->Sto->Prop) (M:Sto) (t:String):Prop:=Q (.bl (ZcQ t T)) M
theorem ZnP {T:String}:wO (Zp2 T x M) Q E=wG (Zbr M x) (kTy T Q M):=by unfold Zp2;cases Zbr M x<;>rfl
noncomputable def tC (b:Bool):Tv:=fun _ M=> .ok b M
noncomputable def BrO {β:Type} (k:Bool) (f g:Ro->Sto->Out β) (ρ:Ro) (M:Sto) (Q:β->Sto->Prop) (E:Str->Sto->Prop):Prop:=wO ((if k=true then f else g) ρ M) Q E
theorem ZsU {β:Type} {fO gO:Ro->Sto->Out β} {QO:β->Sto->Prop}:BrO true fO gO ρ M QO E=wO (fO ρ M) QO E:=rfl
theorem ZsV {β:Type} {fO gO:Ro->Sto->Out β} {QO:β->Sto->Prop}:BrO false fO gO ρ M QO E=wO (gO ρ M) QO E:=rfl
theorem brO {β:Type} {fO gO:Ro->Sto->Out β} {QO:β->Sto->Prop} {p:Prop} [Decidable p] (h1:p->wO (fO ρ M) QO E) (h2: ¬ p->wO (gO ρ M) QO E):BrO (decide p) fO gO ρ M QO E:=by
 by_cases h:p
 ·rw[decide_eq_true h];exact h1 h
 ·rw[decide_eq_false h];exact h2 h
theorem ZsW {β:Type} {fO gO:Ro->Sto->Out β} {QO:β->Sto->Prop} (P:β->Sto->Prop) (h:BrO b fO gO ρ M P E) (hn: ∀ x M,P x M->QO x M):BrO b fO gO ρ M QO E:=by
 cases b
 ·exact ZcX h hn (fun _ _ z=>z)
 ·exact ZcX h hn (fun _ _ z=>z)
noncomputable def kIf (f g:Ev) (ρ:Ro) (Q:D->Sto->Prop) (E:Str->Sto->Prop) (k:Bool) (M:Sto):Prop:=BrO k f g ρ M Q E
theorem ZsX:wO (eIf t f g ρ M) Q E=wO (t ρ M) (kIf f g ρ Q E) E:=by unfold eIf;rw[Zu];congr 1;funext k M1;cases k<;>rfl
noncomputable def Zrn (g:Ev) (ρ:Ro) (x:D) (M:Sto):Out D:=match x with | .bl k=>if k=true then g ρ M else .ok (.bl false) M | _=> .bad
noncomputable def oOr (g:Ev) (ρ:Ro) (x:D) (M:Sto):Out D:=match x with | .bl k=>if k=true then .ok (.bl true) M else g ρ M | _=> .bad
noncomputable def Zro (x:D) (M:Sto):Out D:=match x with | .bl k=> .ok (.bl (!k)) M | _=> .bad
noncomputable def oTv (x:D) (M:Sto):Out Bool:=match x with | .bl k=> .ok k M | _=> .bad
theorem Zp4:wO (Zme f g ρ M) Q E=wO (f ρ M) (kU (Zrn g ρ) Q E) E:=by unfold Zme;exact Zu
theorem ZsY:wO (Zrb f g ρ M) Q E=wO (f ρ M) (kU (oOr g ρ) Q E) E:=by unfold Zrb;exact Zu
theorem Zp5:wO (Zmf f ρ M) Q E=wO (f ρ M) (kU Zro Q E) E:=by unfold Zmf;exact Zu
theorem ZnQ:wO (Zrn g ρ (.bl b) M) Q E=BrO b g (eC (.bl false)) ρ M Q E:=by cases b<;>rfl
theorem Zp6:wO (oOr g ρ (.bl b) M) Q E=BrO b (eC (.bl true)) g ρ M Q E:=by cases b<;>rfl
theorem ZnR:wO (Zro (.bl b) M) Q E=Q (.bl (!b)) M:=rfl
theorem ZsZ:wO (tv f ρ M) QB E=wO (f ρ M) (kU oTv QB E) E:=by unfold tv;exact Zu
theorem Zp7:wO (oTv (.bl b) M) QB E=QB b M:=rfl
noncomputable def kTA (u:Tv) (ρ:Ro) (Q:Bool->Sto->Prop) (E:Str->Sto->Prop) (k:Bool) (M:Sto):Prop:=BrO k u (tC false) ρ M Q E
noncomputable def kTO (u:Tv) (ρ:Ro) (Q:Bool->Sto->Prop) (E:Str->Sto->Prop) (k:Bool) (M:Sto):Prop:=BrO k (tC true) u ρ M Q E
noncomputable def kTN (Q:Bool->Sto->Prop) (k:Bool) (M:Sto):Prop:=Q (!k) M
theorem Zs0:wO (tC b ρ M) QB E=QB b M:=rfl
theorem ZnS:wO (Zg8 t u ρ M) QB E=wO (t ρ M) (kTA u ρ QB E) E:=by unfold Zg8;rw[Zu];congr 1;funext k M1;cases k<;>rfl
theorem Zp8:wO (Zkl t u ρ M) QB E=wO (t ρ M) (kTO u ρ QB E) E:=by unfold Zkl;rw[Zu];congr 1;funext k M1;cases k<;>rfl
theorem ZnT:wO (Zf9 t ρ M) QB E=wO (t ρ M) (kTN QB) E:=Zm7
noncomputable def kSq (b:Sv) (N:Ro->Sto->Prop) (R:D->Sto->Prop) (B C:Ro->Sto->Prop) (E:Str->Sto->Prop) (ρ:Ro) (M:Sto):Prop:=wS (b ρ M) N R B C E
theorem Zp9:wS (Zn a bd ρ M) N R B C E=wS (a ρ M) (kSq bd N R B C E) R B C E:=Zm8
theorem ZnU:wS (sNil ρ M) N R B C E=N ρ M:=rfl
theorem Zqa:wS (Zsp ρ M) N R B C E=B ρ M:=rfl
theorem Zqb:wS (Zsq ρ M) N R B C E=C ρ M:=rfl
theorem Zqc:wS (Z1 f ρ M) N R B C E=wO (f ρ M) R E:=Zm9
theorem ZnV:wS (Zpe ρ M) N R B C E=R .non M:=rfl
noncomputable def kDr (ρ:Ro) (N:Ro->Sto->Prop) (d:D) (M:Sto):Prop:=N ρ M
theorem ZnW:wS (ZbY f ρ M) N R B C E=wO (f ρ M) (kDr ρ N) E:=ZkP
noncomputable def BrS (k:Bool) (a b:Sv) (ρ:Ro) (M:Sto) (N:Ro->Sto->Prop) (R:D->Sto->Prop) (B C:Ro->Sto->Prop) (E:Str->Sto->Prop):Prop:=wS ((if k=true then a else b) ρ M) N R B C E
theorem Zs1:BrS true a bd ρ M N R B C E=wS (a ρ M) N R B C E:=rfl
theorem Zs2:BrS false a bd ρ M N R B C E=wS (bd ρ M) N R B C E:=rfl
theorem brS {p:Prop} [Decidable p] (h1:p->wS (a ρ M) N R B C E) (h2: ¬ p->wS (bd ρ M) N R B C E):BrS (decide p) a bd ρ M N R B C E:=by
 by_cases h:p
 ·rw[decide_eq_true h];exact h1 h
 ·rw[decide_eq_false h];exact h2 h
theorem Zqd (h1:b=true->wS (a ρ M) N R B C E) (h2:b=false->wS (bd ρ M) N R B C E):BrS b a bd ρ M N R B C E:=by
 cases b
 ·exact h2 rfl
 ·exact h1 rfl
theorem Zqe (P:Ro->Sto->Prop) (h:BrS b a bd ρ M P R B C E) (hn: ∀ ρ M,P ρ M->N ρ M):BrS b a bd ρ M N R B C E:=by
 cases b
 ·exact ZhO h hn (fun _ _ z=>z) (fun _ _ z=>z) (fun _ _ z=>z) (fun _ _ z=>z)
 ·exact ZhO h hn (fun _ _ z=>z) (fun _ _ z=>z) (fun _ _ z=>z) (fun _ _ z=>z)
noncomputable def kSi (a b:Sv) (ρ:Ro) (N:Ro->Sto->Prop) (R:D->Sto->Prop) (B C:Ro->Sto->Prop) (E:Str->Sto->Prop) (k:Bool) (M:Sto):Prop:=BrS k a b ρ M N R B C E
theorem Zqf:wS (sIf t a bd ρ M) N R B C E=wO (t ρ M) (kSi a bd ρ N R B C E) E:=by unfold sIf;rw[Zaf];congr 1;funext k M1;cases k<;>rfl
noncomputable def kAs (i:Nat) (ρ:Ro) (N:Ro->Sto->Prop) (d:D) (M:Sto):Prop:=N (ρ.set i (some d)) M
theorem Zqg:wS (ZB (gNm k) f ρ M) N R B C E=wO (f ρ M) (kAs k ρ N) E:=Zna
noncomputable def kAt (gs:Tgs) (ρ:Ro) (N:Ro->Sto->Prop) (d:D) (M:Sto):Prop:=wG (gTp gs d ρ) (kQ N id M)
theorem ZnX {gs:Tgs}:wS (ZB (gTp gs) f ρ M) N R B C E=wO (f ρ M) (kAt gs ρ N) E:=ZkQ
noncomputable def Zrp (i j:Nat) (ρ:Ro) (N:Ro->Sto->Prop) (M:Sto) (v w:D):Prop:=N ((ρ.set i (some v)).set j (some w)) M
noncomputable def kPa (i j:Nat) (ρ:Ro) (N:Ro->Sto->Prop) (ds:List D) (M:Sto):Prop:=w2 ds (Zrp i j ρ N M)
theorem Zqh:wS (Zd6 k m fs ρ M) N R B C E=wO (fs ρ M) (kPa k m ρ N) E:=Znb
noncomputable def Zrq (n:Nat) (d:D) (xs:List D) (ρ:Ro) (N:Ro->Sto->Prop) (M:Sto) (j:Nat):Prop:=N ρ (M.set n (.lst (xs.set j d)))
noncomputable def Zrr (n:Nat) (k:Int) (d:D) (ρ:Ro) (N:Ro->Sto->Prop) (M:Sto) (xs:List D):Prop:=wG (ixN xs.length k) (Zrq n d xs ρ N M)
noncomputable def Zrs (n:Nat) (d:D) (ρ:Ro) (N:Ro->Sto->Prop) (M:Sto) (k:Int):Prop:=wL M[n]? (Zrr n k d ρ N M)
noncomputable def Zrt (i:D) (d:D) (ρ:Ro) (N:Ro->Sto->Prop) (M:Sto) (n:Nat):Prop:=wI i (Zrs n d ρ N M)
noncomputable def Zru (o:D) (d:D) (ρ:Ro) (N:Ro->Sto->Prop) (i:D) (M:Sto):Prop:=wR o (Zrt i d ρ N M)
noncomputable def Zrv (fi:Ev) (d:D) (ρ:Ro) (N:Ro->Sto->Prop) (E:Str->Sto->Prop) (o:D) (M:Sto):Prop:=wO (fi ρ M) (Zru o d ρ N) E
noncomputable def kPu (fo fi:Ev) (ρ:Ro) (N:Ro->Sto->Prop) (E:Str->Sto->Prop) (d:D) (M:Sto):Prop:=wO (fo ρ M) (Zrv fi d ρ N E) E
theorem Zqi {fo fi:Ev}:wS (Zjv fo fi f ρ M) N R B C E=wO (f ρ M) (kPu fo fi ρ N E) E:=Znc
noncomputable def kRa (c:Str) (E:Str->Sto->Prop) (ds:List D) (M:Sto):Prop:=ds.length<=1000/\E c M
theorem Zk7 {c:Str}:wS (Zcc c fs ρ M) N R B C E=wO (fs ρ M) (kRa c E) E:=ZiZ
noncomputable def Zrw (tg:Tg) (bd:Sv) (ρ:Ro) (N:Ro->Sto->Prop) (R:D->Sto->Prop) (B C:Ro->Sto->Prop) (E:Str->Sto->Prop) (M:Sto) (j:Int):Prop:=(-(2 ^ 62)<=j/\j < 2 ^ 62)/\wS (ZbS tg bd (Zby 0 j.toNat) ρ M) N R B C E
noncomputable def Zrx (tg:Tg) (bd:Sv) (ρ:Ro) (N:Ro->Sto->Prop) (R:D->Sto->Prop) (B C:Ro->Sto->Prop) (E:Str->Sto->Prop) (M:Sto) (d:D):Prop:=wI d (Zrw tg bd ρ N R B C E M)
noncomputable def kR1 (tg:Tg) (bd:Sv) (ρ:Ro) (N:Ro->Sto->Prop) (R:D->Sto->Prop) (B C:Ro->Sto->Prop) (E:Str->Sto->Prop) (ds:List D) (M:Sto):Prop:=w1 ds (Zrx tg bd ρ N R B C E M)
theorem ZnY:wS (Zbt tg fs bd ρ M) N R B C E=wO (fs ρ M) (kR1 tg bd ρ N R B C E) E:=ZkR
noncomputable def Zry (tg:Tg) (bd:Sv) (ρ:Ro) (N:Ro->Sto->Prop) (R:D->Sto->Prop) (B C:Ro->Sto->Prop) (E:Str->Sto->Prop) (M:Sto) (i:Int) (j:Int):Prop:=(-(2 ^ 62)<=i/\i < 2 ^ 62/\ -(2 ^ 62)<=j/\j < 2 ^ 62)/\wS (ZbS tg bd (Zby i (j - i).toNat) ρ M) N R B C E
noncomputable def Zrz (tg:Tg) (bd:Sv) (ρ:Ro) (N:Ro->Sto->Prop) (R:D->Sto->Prop) (B C:Ro->Sto->Prop) (E:Str->Sto->Prop) (M:Sto) (y:D) (i:Int):Prop:=wI y (Zry tg bd ρ N R B C E M i)
noncomputable def ZrA (tg:Tg) (bd:Sv) (ρ:Ro) (N:Ro->Sto->Prop) (R:D->Sto->Prop) (B C:Ro->Sto->Prop) (E:Str->Sto->Prop) (M:Sto) (x y:D):Prop:=wI x (Zrz tg bd ρ N R B C E M y)
noncomputable def kR2 (tg:Tg) (bd:Sv) (ρ:Ro) (N:Ro->Sto->Prop) (R:D->Sto->Prop) (B C:Ro->Sto->Prop) (E:Str->Sto->Prop) (ds:List D) (M:Sto):Prop:=w2 ds (ZrA tg bd ρ N R B C E M)
theorem ZnZ:wS (Zhk tg fs bd ρ M) N R B C E=wO (fs ρ M) (kR2 tg bd ρ N R B C E) E:=Zk2
noncomputable def kFo (tg:Tg) (bd:Sv) (ρ:Ro) (N:Ro->Sto->Prop) (R:D->Sto->Prop) (B C:Ro->Sto->Prop) (E:Str->Sto->Prop) (d:D) (M:Sto):Prop:=wS (Zjx tg bd d ρ M) N R B C E
theorem Zqj:wS (Zif tg f bd ρ M) N R B C E=wO (f ρ M) (kFo tg bd ρ N R B C E) E:=Znd
theorem Zn0:wS (Zjx tg bd (.tup xs) ρ M) N R B C E=wS (ZbS tg bd xs ρ M) N R B C E:=rfl
theorem Zn1:wS (Zjx tg bd (.rol xs) ρ M) N R B C E=wS (ZbS tg bd xs ρ M) N R B C E:=rfl
noncomputable def kFs (tg:Tg) (bd:Sv) (ρ:Ro) (N:Ro->Sto->Prop) (R:D->Sto->Prop) (B C:Ro->Sto->Prop) (E:Str->Sto->Prop) (src:Src) (M:Sto):Prop:=wS (ZeS tg bd src (cnt src M) 0 ρ M) N R B C E
theorem Zn2 {fi:Ro->Sto->Out Src}:wS (ZcU tg fi bd ρ M) N R B C E=wO (fi ρ M) (kFs tg bd ρ N R B C E) E:=ZkT
noncomputable def hT (cs:List Str) (gh:Sv) (i:Nat) (ρ:Ro) (c:Str) (M:Sto):Fl:=if cs.contains c=true then (match gh ((List.replicate ρ.length none).set i (some (.err c []))) M with | .ret d M2=> .ret d M2 | .nx _ M2=> .nx (List.replicate ρ.length none) M2 | _=> .bad) else .bad
noncomputable def kTr (cs:List Str) (gh:Sv) (i:Nat) (ρ:Ro) (N:Ro->Sto->Prop) (R:D->Sto->Prop) (B C:Ro->Sto->Prop) (E:Str->Sto->Prop) (c:Str) (M:Sto):Prop:=cs.contains c=true/\wS (gh ((List.replicate ρ.length none).set i (some (.err c []))) M) (fun _ M2=>N (List.replicate ρ.length none) M2) R (fun _ _=>False) (fun _ _=>False) (fun _ _=>False)
theorem Zqk {cs:List Str} {gh:Sv}:wS (Zrf a cs k gh ρ M) N R B C E=wS (a ρ M) N R B C (kTr cs gh k ρ N R B C E):=by
 unfold Zrf
 cases e:a ρ M<;>try rfl
 rename_i c M1
 show wS (if cs.contains c=true then _ else _) N R B C E=kTr cs gh k ρ N R B C E c M1
 unfold kTr
 by_cases h:cs.contains c=true
 ·rw[if_pos h]
  simp only[h,true_and]
  cases gh ((List.replicate ρ.length none).set k (some (.err c []))) M1<;>rfl
 ·rw[if_neg h]
  simp only[h,Bool.false_eq_true,false_and]
  rfl
noncomputable def Zs3 (Q:D->Sto->Prop) (M1:Sto) (u:Unit) (M:Sto):Prop:=Q (.ref M1.length) M
noncomputable def kCo (tg:Tg) (c:Tv) (f:Ev) (k:Nat) (fr:List Nat) (ρ:Ro) (Q:D->Sto->Prop) (src:Src) (M:Sto):Prop:=wO (ZcB src tg c f M.length (cnt src M) 0 (roB k fr ρ) (M ++ [.lst []])) (Zs3 Q M) (fun _ _=>False)
theorem Zn3 {fi:Ro->Sto->Out Src} {fr:List Nat}:wO (ZaW fi k fr tg t f ρ M) Q E=wO (fi ρ M) (kCo tg t f k fr ρ Q) E:=ZkU
noncomputable def ZrB (QS:Src->Sto->Prop) (M:Sto) (j:Int):Prop:=(-(2 ^ 62)<=j/\j < 2 ^ 62)/\QS (.pur (Zby 0 j.toNat)) M
noncomputable def ZrC (QS:Src->Sto->Prop) (M:Sto) (d:D):Prop:=wI d (ZrB QS M)
noncomputable def kS1 (QS:Src->Sto->Prop) (ds:List D) (M:Sto):Prop:=w1 ds (ZrC QS M)
theorem Zs4:wO (iR1 fs ρ M) QS E=wO (fs ρ M) (kS1 QS) E:=ZsO
noncomputable def ZrD (QS:Src->Sto->Prop) (M:Sto) (i:Int) (j:Int):Prop:=(-(2 ^ 62)<=i/\i < 2 ^ 62/\ -(2 ^ 62)<=j/\j < 2 ^ 62)/\QS (.pur (Zby i (j - i).toNat)) M
noncomputable def ZrE (QS:Src->Sto->Prop) (M:Sto) (y:D) (i:Int):Prop:=wI y (ZrD QS M i)
noncomputable def ZrF (QS:Src->Sto->Prop) (M:Sto) (x y:D):Prop:=wI x (ZrE QS M y)
noncomputable def kS2 (QS:Src->Sto->Prop) (ds:List D) (M:Sto):Prop:=w2 ds (ZrF QS M)
theorem Zs5:wO (iR2 fs ρ M) QS E=wO (fs ρ M) (kS2 QS) E:=ZsP
noncomputable def oSq (d:D) (M:Sto):Out Src:=match d with | .tup ds=> .ok (.pur ds) M | .rol ds=> .ok (.pur ds) M | .ref n=> .ok (.sto n) M | _=> .bad
theorem Zs6:wO (iSq f ρ M) QS E=wO (f ρ M) (kU oSq QS E) E:=by unfold iSq;exact Zu
theorem Zql:wO (oSq (.tup xs) M) QS E=QS (.pur xs) M:=rfl
theorem Zqm:wO (oSq (.rol xs) M) QS E=QS (.pur xs) M:=rfl
theorem Zqn:wO (oSq (.ref n) M) QS E=QS (.sto n) M:=rfl
noncomputable def ZrG (QS:Src->Sto->Prop) (M:Sto) (d:D):Prop:=wR d (kQ QS .enu M)
noncomputable def kEn (QS:Src->Sto->Prop) (ds:List D) (M:Sto):Prop:=w1 ds (ZrG QS M)
theorem Zs7:wO (iEn fs ρ M) QS E=wO (fs ρ M) (kEn QS) E:=ZsQ
noncomputable def ZrH (QS:Src->Sto->Prop) (M:Sto) (y:D) (n:Nat):Prop:=wR y (kQ QS (.zip n) M)
noncomputable def ZrI (QS:Src->Sto->Prop) (M:Sto) (x y:D):Prop:=wR x (ZrH QS M y)
noncomputable def kZp (QS:Src->Sto->Prop) (ds:List D) (M:Sto):Prop:=w2 ds (ZrI QS M)
theorem Zs8:wO (iZp fs ρ M) QS E=wO (fs ρ M) (kZp QS) E:=ZsR
noncomputable def ZrJ (QS:Src->Sto->Prop) (n:Nat) (M:Sto) (xs:List D):Prop:=QS (.rev n xs.length) M
noncomputable def ZrK (QS:Src->Sto->Prop) (M:Sto) (n:Nat):Prop:=wL M[n]? (ZrJ QS n M)
noncomputable def ZrL (QS:Src->Sto->Prop) (M:Sto) (d:D):Prop:=wR d (ZrK QS M)
noncomputable def kRv (QS:Src->Sto->Prop) (ds:List D) (M:Sto):Prop:=w1 ds (ZrL QS M)
theorem Zs9:wO (iRv fs ρ M) QS E=wO (fs ρ M) (kRv QS) E:=ZsS
noncomputable def Zn4 (xs:List D) (M:Sto) (Q:D->Sto->Prop) (ys:List D):Prop:=xs.length + ys.length<=10000000/\Q (.ref M.length) (M ++ [.lst (xs ++ ys)])
noncomputable def ZrM (m:Nat) (M:Sto) (Q:D->Sto->Prop) (xs:List D):Prop:=wL M[m]? (Zn4 xs M Q)
theorem Zqo:wO (dAdd (.ref n) (.ref m) M) Q E=wL M[n]? (ZrM m M Q):=ZpA
noncomputable def ZoO (i:Int) (M:Sto) (Q:D->Sto->Prop) (xs:List D):Prop:=((-9223372036854775808<=i/\i < 9223372036854775808)/\xs.length * i.toNat<=100000)/\Q (.ref M.length) (M ++ [.lst (List.replicate i.toNat xs).flatten])
theorem Zqp:wO (Zsv (.ref n) (.int i) M) Q E=wL M[n]? (ZoO i M Q):=by
 show wO (match M[n]? with | some (.lst xs)=>if (-9223372036854775808<=i/\i < 9223372036854775808)/\xs.length * i.toNat<=100000 then Out.ok (.ref M.length) (M ++ [.lst (List.replicate i.toNat xs).flatten]) else .bad | none=> .bad) Q E=_
 cases e1:M[n]? with
 |none=>rfl
 |some o=>
  cases o with
  |lst xs=>
   show wO (if (-9223372036854775808<=i/\i < 9223372036854775808)/\xs.length * i.toNat<=100000 then Out.ok (.ref M.length) (M ++ [.lst (List.replicate i.toNat xs).flatten]) else .bad) Q E=ZoO i M Q xs
   unfold ZoO
   by_cases h:(-9223372036854775808<=i/\i < 9223372036854775808)/\xs.length * i.toNat<=100000
   ·rw[if_pos h];simp only[eq_true h,true_and];rfl
   ·rw[if_neg h];simp only[eq_false h,false_and];rfl
noncomputable def kEq (Q:D->Sto->Prop) (M:Sto) (b:Bool):Prop:=Q (.bl b) M
noncomputable def kNe (Q:D->Sto->Prop) (M:Sto) (b:Bool):Prop:=Q (.bl (!b)) M
theorem Zta:wO (dEq x y M) Q E=wG (eqF 12 M x y) (kEq Q M):=ZsJ
theorem Ztb:wO (dNe x y M) Q E=wG (eqF 12 M x y) (kNe Q M):=ZsK
theorem Ztc:wO (dIs x y M) Q E=wG (isP x y) (kEq Q M):=ZsL
theorem Zqq:wO (dIsNot x y M) Q E=wG (isP x y) (kNe Q M):=ZpB
theorem Zqr:wO (dInE x y M) Q E=wG (inE x y M) (kEq Q M):=by unfold dInE;cases inE x y M<;>rfl
theorem Zi8:wO (Zhw x y M) Q E=wG (inE x y M) (kNe Q M):=by unfold Zhw;cases inE x y M<;>rfl
theorem Zqs:wO (dIx (.tup xs) (.int i) M) Q E=wG (atI xs i) (kQ Q id M):=ZpC
theorem Zqt:wO (dIx (.rol xs) (.int i) M) Q E=wG (atI xs i) (kQ Q id M):=ZpD
noncomputable def kIx (i:Int) (Q:D->Sto->Prop) (M:Sto) (xs:List D):Prop:=wG (atI xs i) (kQ Q id M)
theorem Zqu:wO (dIx (.ref n) (.int i) M) Q E=wL M[n]? (kIx i Q M):=ZpE
noncomputable def ZrN (Q:D->Sto->Prop) (M:Sto) (xs:List D):Prop:=Q (.int xs.length) M
theorem Zn5:wO (bLen [.ref n] M) Q E=wL M[n]? (ZrN Q M):=Zng
noncomputable def kLi (Q:D->Sto->Prop) (M:Sto) (xs:List D):Prop:=Q (.ref M.length) (M ++ [.lst xs])
theorem Zk8:wO (bList [.ref n] M) Q E=wL M[n]? (kLi Q M):=ZkW
noncomputable def ZrO (Q:D->Sto->Prop) (M:Sto) (bs:List Bool):Prop:=Q (.bl (bs.all id)) M
noncomputable def kAl (Q:D->Sto->Prop) (M:Sto) (xs:List D):Prop:=wG (ZaB xs) (ZrO Q M)
theorem Zn6:wO (bAll [.ref n] M) Q E=wL M[n]? (kAl Q M):=ZpI
noncomputable def ZrP (g:List Int->Option Int) (Q:D->Sto->Prop) (M:Sto) (ns:List Int):Prop:=wG (g ns) (kQ Q .int M)
noncomputable def ZrQ (g:List Int->Option Int) (Q:D->Sto->Prop) (M:Sto) (xs:List D):Prop:=wG (ZbT xs) (ZrP g Q M)
theorem Zn7 {gi:List Int->Option Int}:wO (Ze9 gi [.ref n] M) Q E=wL M[n]? (ZrQ gi Q M):=Znl
noncomputable def kMt (g:Me) (fs:Av) (ρ:Ro) (Q:D->Sto->Prop) (E:Str->Sto->Prop) (x:D) (M:Sto):Prop:=Zky x M=true/\wO (fs ρ M) (kU (g x) Q E) E
theorem Ztd {me:Me} {fo:Ev}:wO (Zer me fo fs ρ M) Q E=wO (fo ρ M) (kMt me fs ρ Q E) E:=ZsM
noncomputable def ZrR (n:Nat) (d:D) (Q:D->Sto->Prop) (M:Sto) (xs:List D):Prop:=xs.length < 10000000/\Q .non (M.set n (.lst (xs ++ [d])))
theorem Zqv:wO (mApp (.ref n) [d] M) Q E=wL M[n]? (ZrR n d Q M):=ZpJ
noncomputable def ZrS (n:Nat) (Q:D->Sto->Prop) (M:Sto) (xs:List D):Prop:=Q .non (M.set n (.lst []))
theorem Zqw:wO (Zrg (.ref n) [] M) Q E=wL M[n]? (ZrS n Q M):=ZpK
noncomputable def Zn8 (n:Nat) (xs:List D) (Q:D->Sto->Prop) (M:Sto) (ys:List D):Prop:=xs.length + ys.length<=10000000/\Q .non (M.set n (.lst (xs ++ ys)))
noncomputable def ZrT (n m:Nat) (Q:D->Sto->Prop) (M:Sto) (xs:List D):Prop:=wL M[m]? (Zn8 n xs Q M)
theorem Zqx:wO (mExt (.ref n) [.ref m] M) Q E=wL M[n]? (ZrT n m Q M):=ZpL
noncomputable def Zk9 (Q:D->Sto->Prop) (M:Sto) (bs:List Bool):Prop:=wG (bs.findIdx? id) (kQ Q (fun (j:Nat)=> .int j) M)
noncomputable def ZrU (d:D) (Q:D->Sto->Prop) (M:Sto) (xs:List D):Prop:=wG (eqs M d xs) (Zk9 Q M)
theorem Zqy:wO (mIdx (.ref n) [d] M) Q E=wL M[n]? (ZrU d Q M):=by
 show wO (match M[n]? with | some (.lst xs)=>(match eqs M d xs with | some bs=>(match bs.findIdx? id with | some j=>Out.ok (.int (j:Nat)) M | none=> .bad) | none=> .bad) | none=> .bad) Q E=_
 cases e1:M[n]? with
 |none=>rfl
 |some o=>
  cases o with
  |lst xs=>
   show wO (match eqs M d xs with | some bs=>(match bs.findIdx? id with | some j=>Out.ok (.int (j:Nat)) M | none=> .bad) | none=> .bad) Q E=wG (eqs M d xs) (Zk9 Q M)
   cases eqs M d xs with
   |none=>rfl
   |some bs=>
    show wO (match bs.findIdx? id with | some j=>Out.ok (.int (j:Nat)) M | none=> .bad) Q E=wG (bs.findIdx? id) _
    cases bs.findIdx? id<;>rfl
noncomputable def kCn (Q:D->Sto->Prop) (M:Sto) (bs:List Bool):Prop:=Q (.int (bs.countP id:Nat)) M
noncomputable def ZrV (d:D) (Q:D->Sto->Prop) (M:Sto) (xs:List D):Prop:=wG (eqs M d xs) (kCn Q M)
theorem Zn9:wO (Zss (.ref n) [d] M) Q E=wL M[n]? (ZrV d Q M):=by
 show wO (match M[n]? with | some (.lst xs)=>(match eqs M d xs with | some bs=>Out.ok (.int (bs.countP id:Nat)) M | none=> .bad) | none=> .bad) Q E=_
 cases e1:M[n]? with
 |none=>rfl
 |some o=>
  cases o with
  |lst xs=>
   show wO (match eqs M d xs with | some bs=>Out.ok (.int (bs.countP id:Nat)) M | none=> .bad) Q E=wG (eqs M d xs) (kCn Q M)
   cases eqs M d xs<;>rfl
noncomputable def ZrW (l u:Option Int) (Q:D->Sto->Prop) (M:Sto) (xs:List D):Prop:=Q (.ref M.length) (M ++ [.lst (Zd7 xs l u)])
noncomputable def ZrX (x:D) (l:Option Int) (Q:D->Sto->Prop) (E:Str->Sto->Prop) (u:Option Int) (M:Sto):Prop:=wO (slR x l u M) Q E
noncomputable def ZrY (x:D) (hi:Ro->Sto->Out (Option Int)) (ρ:Ro) (Q:D->Sto->Prop) (E:Str->Sto->Prop) (l:Option Int) (M:Sto):Prop:=wO (hi ρ M) (ZrX x l Q E) E
noncomputable def ZrZ (lo hi:Ro->Sto->Out (Option Int)) (ρ:Ro) (Q:D->Sto->Prop) (E:Str->Sto->Prop) (x:D) (M:Sto):Prop:=wO (lo ρ M) (ZrY x hi ρ Q E) E
theorem Zte {lo hi:Ro->Sto->Out (Option Int)}:wO (eSl f lo hi ρ M) Q E=wO (f ρ M) (ZrZ lo hi ρ Q E) E:=ZpM
theorem Zqz {l u':Option Int}:wO (slR (.ref n) l u' M) Q E=wL M[n]? (ZrW l u' Q M):=ZpN
theorem ZqA {QI:Option Int->Sto->Prop}:wO (oNo ρ M) QI E=QI none M:=rfl
noncomputable def Zr0 (Q:Option Int->Sto->Prop) (x:D) (M:Sto):Prop:=wI x (kQ Q some M)
theorem ZqB {QI:Option Int->Sto->Prop}:wO (oSo f ρ M) QI E=wO (f ρ M) (Zr0 QI) E:=ZpO
noncomputable def oRv (x:D) (M1:Sto):Out D:=match x with | .tup xs=> .ok (.tup xs.reverse) M1 | .ref n=>(match M1[n]? with | some (.lst xs)=> .ok (.ref M1.length) (M1 ++ [.lst xs.reverse]) | none=> .bad) | .rol xs=> .ok (.ref M1.length) (M1 ++ [.lst xs.reverse]) | _=> .bad
theorem Ztf:wO (eRv f ρ M) Q E=wO (f ρ M) (kU oRv Q E) E:=by unfold eRv;exact Zu
noncomputable def Zr1 (Q:D->Sto->Prop) (M:Sto) (xs:List D):Prop:=Q (.ref M.length) (M ++ [.lst xs.reverse])
theorem ZqC:wO (oRv (.ref n) M) Q E=wL M[n]? (Zr1 Q M):=by show wO (match M[n]? with | some (.lst xs)=>Out.ok (.ref M.length) (M ++ [.lst xs.reverse]) | none=> .bad) Q E=_;cases M[n]? with | none=>rfl | some o=>cases o with | lst xs=>rfl
theorem ZqD:wO (oRv (.tup xs) M) Q E=Q (.tup xs.reverse) M:=rfl
noncomputable def Zr2 (tab:List (Str × Bool)) (x:D) (M:Sto):Out D:=match x with | .err c _=>(match tab.lookup c with | some b=> .ok (.bl b) M | none=> .bad) | _=> .bad
theorem ZqE {tab:List (Str × Bool)}:wO (Zre tab f ρ M) Q E=wO (f ρ M) (kU (Zr2 tab) Q E) E:=by unfold Zre;exact Zu
theorem Zoa {tab:List (Str × Bool)} {c:Str}:wO (Zr2 tab (.err c xs) M) Q E=wG (tab.lookup c) (kEq Q M):=by show wO (match tab.lookup c with | some b=>Out.ok (.bl b) M | none=> .bad) Q E=_;cases tab.lookup c<;>rfl
noncomputable def kWh (bd:Sv) (ρ:Ro) (I:Ro->Sto->Prop) (N:Ro->Sto->Prop) (R:D->Sto->Prop) (B C:Ro->Sto->Prop) (E:Str->Sto->Prop) (k:Bool) (M:Sto):Prop:=Br k (wS (bd ρ M) I R N I E) (N ρ M)
theorem Zla {c:Tv} (I:Nat->Ro->Sto->Prop) (st: ∀ n ρ M,I n ρ M->wO (c ρ M) (kWh bd ρ (fun ρ2 M2=> ∃ m,m < n/\I m ρ2 M2) N R B C E) E) (n:Nat) (ρ:Ro) (M:Sto) (h:I n ρ M):wS (sWh c bd ρ M) N R B C E:=Zi0 I st n ρ M h
theorem Zob {I:Ro->Sto->Prop} {p:Prop} [Decidable p] (h1: ¬ p->wS (bd ρ M) I R N I E) (h2:p->N ρ M):kWh bd ρ I N R B C E (!decide p) M:=brN h1 h2
theorem ZqF {I:Ro->Sto->Prop} {p:Prop} [Decidable p] (h1:p->wS (bd ρ M) I R N I E) (h2: ¬ p->N ρ M):kWh bd ρ I N R B C E (decide p) M:=brD h1 h2
theorem ZoP {src:Src} {fr:List Nat} (Inv:Ro->Prop) (F:Nat->D) (hl:xs.length < 10000000) (hcnt:xs.length<=cnt src M) (h0:Inv (roB k fr ρ)) (hs: ∀ (L:Sto) (i:Nat),i<=xs.length->nxt src i (M ++ L)=some xs[i]?)
  (st: ∀ (i:Nat) (h:i < xs.length) (ρ:Ro) (L:Sto),Inv ρ->wG (tg xs[i] ρ) fun r=>Inv r/\wO (f r (M ++ L)) (fun y M2=>y=F i/\M2=M ++ L) (fun _ _=>False)) (hq:Q (.ref M.length) (M ++ [.lst ((List.range xs.length).map F)])):
  kCo tg (fun _ M=> .ok true M) f k fr ρ Q src M:=Zk5 (Q:=fun M2=>Q (.ref M.length) M2) Inv F hl hcnt h0 hs st hq
theorem Ztg {fr:List Nat} (Inv:Ro->Prop) (F:Nat->D) (hl:n < 10000000) (h0:Inv (roB k fr ρ))
  (st: ∀ (i:Nat) (h:i < n) (ρ:Ro) (L:Sto),Inv ρ->wG (tg (.int i) ρ) fun r=>Inv r/\wO (f r (M ++ L)) (fun y M2=>y=F i/\M2=M ++ L) (fun _ _=>False)) (hq:Q (.ref M.length) (M ++ [.lst ((List.range n).map F)])):
  kCo tg (fun _ M=> .ok true M) f k fr ρ Q (.pur (Zby 0 n)) M:=by
 refine ZoP (xs:=Zby 0 n) Inv F (by rw[Zfe];exact hl) (by simp[cnt]) h0 (fun L i hi=>rfl) (fun i hi ρ L hI=> ?_) (by rw[Zfe];exact hq)
 rw[Zk6]
 have:=st i (by rw[Zfe] at hi;exact hi) ρ L hI
 rw[show (0:Int) + (i:Nat)=i by omega]
 exact this
theorem ZqG {fr:List Nat} (Inv:Ro->Prop) (F:Nat->D) (hM:M[n]?=some (.lst xs)) (hl:xs.length < 10000000) (h0:Inv (roB k fr ρ))
  (st: ∀ (i:Nat) (h:i < xs.length) (ρ:Ro) (L:Sto),Inv ρ->wG (tg xs[i] ρ) fun r=>Inv r/\wO (f r (M ++ L)) (fun y M2=>y=F i/\M2=M ++ L) (fun _ _=>False)) (hq:Q (.ref M.length) (M ++ [.lst ((List.range xs.length).map F)])):
  kCo tg (fun _ M=> .ok true M) f k fr ρ Q (.sto n) M:=
 ZoP (xs:=xs) Inv F hl (by rw[Zfd hM];exact Nat.le_refl _) h0 (fun L i hi=>by rw[ZeA];rw[List.getElem?_append_left (Zs hM)];exact hM) st hq
end
end DL
end
namespace DL
open PySem PySem.Spec L2
section
variable {Q:D->Sto->Prop} {E:Str->Sto->Prop} {M:Sto} {n:Nat}
end
end DL
namespace DL
open PySem PySem.Spec L2
section
variable {E:Str->Sto->Prop} {N B C:Ro->Sto->Prop} {R:D->Sto->Prop} {ρ:Ro} {M:Sto} {fs:Av} {a b c d:Nat} {QS:Src->Sto->Prop} {tg:Tg} {bd:Sv} {xs ys zs ws:List D}
noncomputable def ZqH (QS:Src->Sto->Prop) (ds:List D) (M:Sto):Prop:=match ds with | [.ref a,.ref b,.ref c]=>QS (.zips [a,b,c]) M | _=>False
theorem Zoc:ZqH QS [.ref a,.ref b,.ref c] M=QS (.zips [a,b,c]) M:=rfl
theorem Zlb {β:Type} {o:Out β} {Q Q':β->Sto->Prop} (h: ∀ x M,Q x M->Q' x M) (k:wO o Q E):wO o Q' E:=ZcX k h (fun _ _ z=>z)
theorem ZqI (h:wO (fs ρ M) (ZqH QS) E):wO (DL3.iZs fs ρ M) QS E:=by
 unfold DL3.iZs
 rw[Zu]
 refine Zlb (fun ds M' k=> ?_) h
 unfold ZqH at k
 split at k
 ·exact k
 ·exact k.elim
noncomputable def z3 (xs ys zs:List D) (L:Nat):List D:=(List.range L).map fun i=>D.tup [xs.getD i .non,ys.getD i .non,zs.getD i .non]
noncomputable def z4 (xs ys zs ws:List D) (L:Nat):List D:=(List.range L).map fun i=>D.tup [xs.getD i .non,ys.getD i .non,zs.getD i .non,ws.getD i .non]
theorem gD {xs:List D} {i:Nat} (h:i < xs.length):xs[i]?=some (xs.getD i .non):=by simp[List.getElem?_eq_getElem h]
theorem ZqJ {L i:Nat} (ha:M[a]?=some (.lst xs)) (hb:M[b]?=some (.lst ys)) (hc:M[c]?=some (.lst zs)) (hd:M[d]?=some (.lst ws)) (l1:L<=xs.length) (l2:L<=ys.length) (l3:L<=zs.length) (l4:ws.length=L) (hi:i<=L):nxt (.zips [a,b,c,d]) i M=some (z4 xs ys zs ws L)[i]?:=by
 by_cases ci:i < L
 ·have:(z4 xs ys zs ws L)[i]?=some (D.tup [xs.getD i .non,ys.getD i .non,zs.getD i .non,ws.getD i .non]):=by simp[z4,ci]
  rw[this]
  simp only[nxt,Zak,ha,hb,hc,hd,gD (show i < xs.length by omega),gD (show i < ys.length by omega),gD (show i < zs.length by omega),gD (show i < ws.length by omega)]
 ·have:(z4 xs ys zs ws L)[i]?=none:=by simp[z4];omega
  rw[this,ZaA (show Zgd M [a,b,c,d] from ⟨⟨_,ha⟩,⟨_,hb⟩,⟨_,hc⟩,⟨_,hd⟩,trivial⟩) (n:=d) (by simp) hd (List.getElem?_eq_none (by omega))]
theorem ZqK {L i:Nat} (ha:M[a]?=some (.lst xs)) (hb:M[b]?=some (.lst ys)) (hc:M[c]?=some (.lst zs)) (l1:L<=xs.length) (l2:L<=ys.length) (l3:zs.length=L) (hi:i<=L):nxt (.zips [a,b,c]) i M=some (z3 xs ys zs L)[i]?:=by
 by_cases ci:i < L
 ·have:(z3 xs ys zs L)[i]?=some (D.tup [xs.getD i .non,ys.getD i .non,zs.getD i .non]):=by simp[z3,ci]
  rw[this]
  simp only[nxt,Zak,ha,hb,hc,gD (show i < xs.length by omega),gD (show i < ys.length by omega),gD (show i < zs.length by omega)]
 ·have:(z3 xs ys zs L)[i]?=none:=by simp[z3];omega
  rw[this,ZaA (show Zgd M [a,b,c] from ⟨⟨_,ha⟩,⟨_,hb⟩,⟨_,hc⟩,trivial⟩) (by simp) hc (List.getElem?_eq_none (by omega))]
theorem ZqL (I:Nat->Ro->Sto->Prop) {L:Nat} (l1:L<=xs.length) (l2:L<=ys.length) (l3:L<=zs.length) (l4:ws.length=L) (h0:I 0 ρ M) (hm: ∀ i ρ M,I i ρ M->M[a]?=some (.lst xs)/\M[b]?=some (.lst ys)/\M[c]?=some (.lst zs)/\M[d]?=some (.lst ws))
  (st: ∀ (i:Nat) ρ M (h:i < L),I i ρ M->wG (tg (.tup [xs.getD i .non,ys.getD i .non,zs.getD i .non,ws.getD i .non]) ρ) fun r=>wS (bd r M) (I (i + 1)) R N (I (i + 1)) E) (hn: ∀ ρ M,I L ρ M->N ρ M):wS (ZeS tg bd (.zips [a,b,c,d]) (cnt (.zips [a,b,c,d]) M) 0 ρ M) N R B C E:=by
 have zl:(z4 xs ys zs ws L).length=L:=by simp[z4]
 have ce:cnt (.zips [a,b,c,d]) M=xs.length:=by show (match M[a]? with | some (.lst xs)=>xs.length | none=>0)=_;rw[(hm _ _ _ h0).1]
 rw[ce]
 refine ZhQ I (xs:=z4 xs ys zs ws L) _ 0 ρ M (by simp) (by rw[zl];omega) h0 (fun i ρ M hi hI=> ?_) (fun i ρ M h hI=> ?_) (fun ρ M hI=>hn ρ M (by rw[zl] at hI;exact hI))
 ·obtain ⟨e1,e2,e3,e4⟩:=hm _ _ _ hI
  exact ZqJ e1 e2 e3 e4 l1 l2 l3 l4 (by rw[zl] at hi;exact hi)
 ·have e:(z4 xs ys zs ws L)[i]=D.tup [xs.getD i .non,ys.getD i .non,zs.getD i .non,ws.getD i .non]:=by simp[z4]
  rw[e]
  exact st i ρ M (by rw[zl] at h;exact h) hI
theorem Zlc (I:Nat->Ro->Sto->Prop) {L:Nat} (l1:L<=xs.length) (l2:L<=ys.length) (l3:zs.length=L) (h0:I 0 ρ M) (hm: ∀ i ρ M,I i ρ M->M[a]?=some (.lst xs)/\M[b]?=some (.lst ys)/\M[c]?=some (.lst zs))
  (st: ∀ (i:Nat) ρ M (h:i < L),I i ρ M->wG (tg (.tup [xs.getD i .non,ys.getD i .non,zs.getD i .non]) ρ) fun r=>wS (bd r M) (I (i + 1)) R N (I (i + 1)) E) (hn: ∀ ρ M,I L ρ M->N ρ M):wS (ZeS tg bd (.zips [a,b,c]) (cnt (.zips [a,b,c]) M) 0 ρ M) N R B C E:=by
 have zl:(z3 xs ys zs L).length=L:=by simp[z3]
 have ce:cnt (.zips [a,b,c]) M=xs.length:=by show (match M[a]? with | some (.lst xs)=>xs.length | none=>0)=_;rw[(hm _ _ _ h0).1]
 rw[ce]
 refine ZhQ I (xs:=z3 xs ys zs L) _ 0 ρ M (by simp) (by rw[zl];omega) h0 (fun i ρ M hi hI=> ?_) (fun i ρ M h hI=> ?_) (fun ρ M hI=>hn ρ M (by rw[zl] at hI;exact hI))
 ·obtain ⟨e1,e2,e3⟩:=hm _ _ _ hI
  exact ZqK e1 e2 e3 l1 l2 l3 (by rw[zl] at hi;exact hi)
 ·have e:(z3 xs ys zs L)[i]=D.tup [xs.getD i .non,ys.getD i .non,zs.getD i .non]:=by simp[z3]
  rw[e]
  exact st i ρ M (by rw[zl] at h;exact h) hI
end
end DL
section
namespace DL
noncomputable abbrev Pt:=Int × Int
noncomputable def X (p q:Pt):Int:=p.1 * q.2 - p.2 * q.1
section
variable {rs:List Pt} {i j:Int} {k n:Nat} {p:Pt}
theorem Zbi {α:Type} {l:List α} {n:Nat} {d:α} (h:n < l.length):l.getD n d=l[n]:=by simp[List.getElem?_eq_getElem h]
theorem Zbb (h:0<=i/\i < rs.length):cy rs i=rs.getD i.toNat (0,0):=by
 unfold cy
 rw[Int.emod_eq_of_lt h.1 h.2]
theorem Za6 {m:Nat} (h:m≠0):(i % m).toNat < m/\0<=i % m:=by
 have:=Int.emod_lt_of_pos i (show (0:Int) < m by omega)
 have:=Int.emod_nonneg i (show (m:Int)≠0 by omega)
 omega
theorem ZjI (h:rs≠[]):cy rs i∈rs:=by
 have hl:rs.length≠0:=by simpa using h
 unfold cy
 rw[Zbi (Za6 hl).1]
 exact List.getElem_mem _
theorem ZeB {f:Pt->Pt} (h:rs≠[]):cy (rs.map f) i=f (cy rs i):=by
 have hl:rs.length≠0:=by simpa using h
 unfold cy
 rw[List.length_map,Zbi (by rw[List.length_map];exact (Za6 hl).1),Zbi (Za6 hl).1,List.getElem_map]
theorem ZcZ (hk:k<=rs.length):cy (rs.drop k ++ rs.take k) i=cy rs (i + k):=by
 by_cases h:rs.length=0
 ·have:rs=[]:=by simpa using h
  subst this
  simp[cy]
 have hL:(rs.drop k ++ rs.take k).length=rs.length:=by simp;omega
 have e1:cy (rs.drop k ++ rs.take k) i=cy (rs.drop k ++ rs.take k) (i % rs.length):=by
  conv=>rhs;rw[<- hL,Zdy]
 have e2:cy rs (i + k)=cy rs (i % rs.length + k):=by
  unfold cy
  rw[Int.emod_add_emod]
 rw[e1,e2]
 obtain ⟨a,b⟩:=Za6 (i:=i) h
 generalize hm:i % (rs.length:Int)=m at *
 have hm2:m < rs.length:=by omega
 rw[Zbb (by rw[hL];omega)]
 by_cases c:m + k < rs.length
 ·rw[Zbb (by omega)]
  rw[List.getD_eq_getElem?_getD,List.getD_eq_getElem?_getD,List.getElem?_append_left (by simp;omega),List.getElem?_drop]
  congr 2
  omega
 ·rw[<- Zcy,Zbb (by omega)]
  rw[List.getD_eq_getElem?_getD,List.getD_eq_getElem?_getD,List.getElem?_append_right (by simp;omega),List.getElem?_take_of_lt (by simp;omega)]
  congr 2
  simp
  omega
noncomputable def ins (rs:List Pt) (k:Nat) (p:Pt):List Pt:=rs.take (k + 1) ++ p :: rs.drop (k + 1)
theorem Zff (hk:k < rs.length):(ins rs k p).length=rs.length + 1:=by simp[ins];omega
theorem ZjJ (hk:k < rs.length) (h0:0<=j) (h1:j<=rs.length + 1):cy (ins rs k p) j=if j<=k then cy rs j else if j=k + 1 then p else cy rs (j - 1):=by
 have hL:=Zff (p:=p) hk
 by_cases e:j=rs.length + 1
 ·subst e
  rw[if_neg (by omega),if_neg (by omega)]
  have e1:cy (ins rs k p) (rs.length + 1)=cy (ins rs k p) 0:=by
   have:=Zcy (rs:=ins rs k p) (i:=(rs.length:Int) + 1)
   rw[hL] at this
   rw[<- this]
   congr 1
   omega
  have e2:cy rs ((rs.length:Int) + 1 - 1)=cy rs 0:=by
   rw[<- Zcy]
   congr 1
   omega
  rw[e1,e2,Zbb (by rw[hL];omega),Zbb (by omega)]
  unfold ins
  rw[List.getD_eq_getElem?_getD,List.getD_eq_getElem?_getD,List.getElem?_append_left (by simp;omega),List.getElem?_take_of_lt (by simp)]
 ·have hj:j < rs.length + 1:=by omega
  rw[Zbb (by rw[hL];omega)]
  unfold ins
  rw[List.getD_eq_getElem?_getD]
  by_cases c1:j<=k
  ·rw[if_pos c1,Zbb (by omega),List.getD_eq_getElem?_getD,List.getElem?_append_left (by simp;omega),List.getElem?_take_of_lt (by omega)]
  ·rw[if_neg c1,List.getElem?_append_right (by simp;omega)]
   have hl:(rs.take (k + 1)).length=k + 1:=by simp;omega
   rw[hl]
   by_cases c2:j=k + 1
   ·rw[if_pos c2]
    have:j.toNat - (k + 1)=0:=by omega
    rw[this]
    rfl
   ·rw[if_neg c2,Zbb (by omega),List.getD_eq_getElem?_getD]
    obtain ⟨z,hz⟩: ∃ z,j.toNat - (k + 1)=z + 1:=⟨j.toNat - (k + 1) - 1,by omega⟩
    rw[hz,List.getElem?_cons_succ,List.getElem?_drop]
    congr 2
    omega
theorem Zc0 {P:Pt->Pt->Prop} (hn:rs.length≠0) (h: ∀ i:Int,0<=i->i < rs.length->P (cy rs i) (cy rs (i + 1))) (i:Int):P (cy rs i) (cy rs (i + 1)):=by
 have e1:cy rs i=cy rs (i % rs.length):=Zdy.symm
 have e2:cy rs (i + 1)=cy rs (i % rs.length + 1):=by
  unfold cy
  rw[Int.emod_add_emod]
 rw[e1,e2]
 obtain ⟨a,b⟩:=Za6 (i:=i) hn
 exact h _ b (by omega)
noncomputable def cc (f:Pt->Pt->Nat):List Pt->Nat
 |a :: b :: r=>f a b + cc f (b :: r)
 |_=>0
noncomputable def cyc (f:Pt->Pt->Nat) (rs:List Pt):Nat:=cc f (rs ++ rs.take 1)
theorem ZbV {f:Pt->Pt->Nat}: ∀ (L:List Pt) (a:Pt) (R:List Pt),cc f (L ++ a :: R)=cc f (L ++ [a]) + cc f (a :: R)
 | [],a,R=>by simp[cc]
 | [b],a,R=>by simp[cc]
 |b :: c :: L,a,R=>by
  have:=ZbV (f:=f) (c :: L) a R
  simp only[List.cons_append,cc] at this ⊢
  omega
theorem ZjK {f:Pt->Pt->Nat} {g:Pt->Pt}: ∀ (L:List Pt),cc f (L.map g)=cc (fun a b=>f (g a) (g b)) L
 | []=>rfl
 | [_]=>rfl
 |a :: b :: L=>by
  have:=ZjK (f:=f) (g:=g) (b :: L)
  simp only[List.map_cons,cc] at this ⊢
  omega
theorem ZjL {f:Pt->Pt->Nat}: ∀ (L:List Pt),cc f L.reverse=cc (fun a b=>f b a) L
 | []=>rfl
 | [_]=>rfl
 |a :: b :: L=>by
  have:=ZjL (f:=f) (b :: L)
  rw[List.reverse_cons,List.reverse_cons,List.append_assoc,List.singleton_append,ZbV]
  rw[List.reverse_cons] at this
  simp only[cc] at this ⊢
  omega
theorem ZaJ {f:Pt->Pt->Nat} {a:Pt} {r:List Pt}:cyc f (a :: r)=cc f (a :: (r ++ [a])):=by simp[cyc]
theorem Zb5 {f:Pt->Pt->Nat} (A B:List Pt):cyc f (A ++ B)=cyc f (B ++ A):=by
 cases A with
 |nil=>simp
 |cons a A=>
  cases B with
  |nil=>simp
  |cons b B=>
   rw[List.cons_append,ZaJ,List.cons_append,ZaJ]
   have e1:a :: (A ++ b :: B ++ [a])=(a :: A) ++ b :: (B ++ [a]):=by simp
   have e2:b :: (B ++ a :: A ++ [b])=(b :: B) ++ a :: (A ++ [b]):=by simp
   rw[e1,e2,ZbV (a :: A) b,ZbV (b :: B) a]
   simp only[List.cons_append]
   omega
theorem Zb6 {f:Pt->Pt->Nat} {g:Pt->Pt} (L:List Pt):cyc f (L.map g)=cyc (fun a b=>f (g a) (g b)) L:=by
 unfold cyc
 rw[<- List.map_take,<- List.map_append,ZjK]
theorem ZhT {f:Pt->Pt->Nat} (L:List Pt):cyc f L.reverse=cyc (fun a b=>f b a) L:=by
 cases L with
 |nil=>rfl
 |cons a L=>
  rw[List.reverse_cons,Zb5,List.singleton_append,ZaJ,ZaJ,<- ZjL]
  congr 1
  simp
noncomputable def in1 (w a b:Pt):Nat:=if 0<=X a w/\0 < X w b then 1 else 0
noncomputable def in2 (w a b:Pt):Nat:=if 0 < X a w/\0<=X w b then 1 else 0
noncomputable def Fan (rs:List Pt):Prop:= ∀ w:Pt,w≠(0,0)->cyc (in1 w) rs=1/\cyc (in2 w) rs=1
theorem Zod {a b w:Pt}:X w (a.1 + b.1,a.2 + b.2)=X w a + X w b/\X (a.1 + b.1,a.2 + b.2) w=X a w + X b w:=by unfold X;constructor<;>grind
theorem Zfg {p q:Pt}:X p q=0 - X q p:=by unfold X;grind
theorem Zld {a b w:Pt}:in1 w a b=in1 w a (a.1 + b.1,a.2 + b.2) + in1 w (a.1 + b.1,a.2 + b.2) b:=by
 have s:=Zod (a:=a) (b:=b) (w:=w)
 have e1:=Zfg (p:=w) (q:=a)
 have e2:=Zfg (p:=b) (q:=w)
 unfold in1
 rw[s.1,s.2,e1,e2]
 generalize X a w=p
 generalize X w b=q
 repeat' split
 all_goals omega
theorem Zle {a b w:Pt}:in2 w a b=in2 w a (a.1 + b.1,a.2 + b.2) + in2 w (a.1 + b.1,a.2 + b.2) b:=by
 have s:=Zod (a:=a) (b:=b) (w:=w)
 have e1:=Zfg (p:=w) (q:=a)
 have e2:=Zfg (p:=b) (q:=w)
 unfold in2
 rw[s.1,s.2,e1,e2]
 generalize X a w=p
 generalize X w b=q
 repeat' split
 all_goals omega
theorem ZhU {L R:List Pt} {a:Pt}:cy (L ++ a :: R) L.length=a:=by
 rw[Zbb (by simp;omega)]
 simp
theorem Zlf {L R:List Pt} {a b:Pt}:cy (L ++ a :: b :: R) (L.length + 1)=b:=by
 rw[Zbb (by simp;omega)]
 rw[show ((L.length:Int) + 1).toNat=L.length + 1 by omega]
 simp
theorem Zfh {r:List Pt} {a:Pt}:cy (a :: r) (r.length + 1)=a:=by
 have:=Zcy (rs:=a :: r) (i:=(r.length:Int) + 1)
 rw[<- this,List.length_cons,show (r.length:Int) + 1 - ((r.length + 1:Nat):Int)=0 by omega,Zbb (by simp)]
 rfl
theorem ZhV {f:Pt->Pt->Nat} (hk:k < rs.length) (hf:f (cy rs k) (cy rs (k + 1))=f (cy rs k) p + f p (cy rs (k + 1))):cyc f (ins rs k p)=cyc f rs:=by
 obtain ⟨L,a,R,e,hl⟩: ∃ L a R,rs=L ++ a :: R/\L.length=k:=⟨rs.take k,rs[k],rs.drop (k + 1),by rw[List.getElem_cons_drop,List.take_append_drop],by simp;omega⟩
 have ei:ins rs k p=L ++ a :: p :: R:=by
  unfold ins
  rw[e,<- hl,List.take_append,List.drop_append,List.take_of_length_le (by omega),List.drop_eq_nil_of_le (by omega)]
  simp
 have ca:cy rs k=a:=by rw[e,<- hl];exact ZhU
 cases R with
 |cons b R=>
  have cb:cy rs (k + 1)=b:=by rw[e,<- hl];exact Zlf
  rw[ca,cb] at hf
  rw[ei,e,Zb5,Zb5 L]
  simp only[List.cons_append,ZaJ,cc]
  omega
 |nil=>
  cases L with
  |nil=>
   have cb:cy rs (k + 1)=a:=by
    rw[e,<- hl]
    exact Zfh (r:=[]) (a:=a)
   rw[ca,cb] at hf
   rw[ei,e]
   simp[cyc,cc]
   omega
  |cons b L=>
   have cb:cy rs (k + 1)=b:=by
    rw[e,<- hl]
    have:=Zfh (r:=L ++ [a]) (a:=b)
    simp only[List.length_append,List.length_cons,List.length_nil] at this ⊢
    exact this
   rw[ca,cb] at hf
   rw[ei,e]
   simp only[List.cons_append,ZaJ]
   have e1:b :: (L ++ [a,p] ++ [b])=(b :: L) ++ a :: [p,b]:=by simp
   have e2:b :: (L ++ [a] ++ [b])=(b :: L) ++ a :: [b]:=by simp
   rw[e1,e2,ZbV,ZbV (b :: L) a [b]]
   simp only[cc]
   omega
theorem Fan.rot (h:Fan rs):Fan (rs.drop k ++ rs.take k):=fun w hw=>by
 rw[Zb5,Zb5 (rs.drop k),List.take_append_drop]
 exact h w hw
theorem Fan.ins (h:Fan rs) (hk:k < rs.length):Fan (ins rs k ((cy rs k).1 + (cy rs (k + 1)).1,(cy rs k).2 + (cy rs (k + 1)).2)):=fun w hw=>by
 rw[ZhV hk Zld,ZhV hk Zle]
 exact h w hw
theorem ZjM {f:Pt->Pt} {s:Int} (hs:s=1\/s= -1) (hf: ∀ p q,X (f p) (f q)=s * X p q) (w:Pt) (hw:w≠(0,0)): ∃ w':Pt,w'≠(0,0)/\ ∀ a,X (f a) w=s * X a w':=by
 have d:=hf (1,0) (0,1)
 have d1:X (f (1,0)) (f (0,1))=s:=by rw[d];simp[X]
 have lin: ∀ a,(f a).1=a.1 * (f (1,0)).1 + a.2 * (f (0,1)).1/\(f a).2=a.1 * (f (1,0)).2 + a.2 * (f (0,1)).2:=by
  intro a
  have h1:=hf a (1,0)
  have h2:=hf a (0,1)
  generalize f a=u at *
  generalize f (1,0)=e1 at *
  generalize f (0,1)=e2 at *
  unfold X at *
  rcases hs with rfl | rfl<;>constructor<;>grind
 refine ⟨(X w (f (0,1)) * s,X (f (1,0)) w * s),?_,?_⟩
 ·intro z
  apply hw
  have z1:=congrArg Prod.fst z
  have z2:=congrArg Prod.snd z
  simp only at z1 z2
  generalize f (1,0)=e1 at *
  generalize f (0,1)=e2 at *
  unfold X at *
  apply Prod.ext
  ·rcases hs with rfl | rfl<;>simp only[]<;>grind
  ·rcases hs with rfl | rfl<;>simp only[]<;>grind
 ·intro a
  obtain ⟨l1,l2⟩:=lin a
  unfold X
  rw[l1,l2]
  rcases hs with rfl | rfl<;>simp only[]<;>grind
theorem Fan.map (h:Fan rs) {f:Pt->Pt} (hf: ∀ p q,X (f p) (f q)=X p q):Fan (rs.map f):=fun w hw=>by
 obtain ⟨w',hw',e⟩:=ZjM (s:=1) (.inl rfl) (fun p q=>by rw[hf,Int.one_mul]) w hw
 have e2: ∀ a,X w (f a)=X w' a:=fun a=>by rw[Zfg,e,Zfg (p:=w')];omega
 have c1: ∀ a b,in1 w (f a) (f b)=in1 w' a b:=fun a b=>by unfold in1;rw[e,e2,Int.one_mul]
 have c2: ∀ a b,in2 w (f a) (f b)=in2 w' a b:=fun a b=>by unfold in2;rw[e,e2,Int.one_mul]
 rw[Zb6,Zb6,show (fun a b=>in1 w (f a) (f b))=in1 w' from funext fun a=>funext fun b=>c1 a b,show (fun a b=>in2 w (f a) (f b))=in2 w' from funext fun a=>funext fun b=>c2 a b]
 exact h w' hw'
theorem Fan.flip (h:Fan rs) {f:Pt->Pt} (hf: ∀ p q,X (f p) (f q)= -1 * X p q):Fan (rs.map f).reverse:=fun w hw=>by
 obtain ⟨w',hw',e⟩:=ZjM (s:= -1) (.inr rfl) hf w hw
 have e2: ∀ a,X w (f a)= -1 * X w' a:=fun a=>by rw[Zfg,e,Zfg (p:=w')];omega
 have c1: ∀ a b,in1 w (f b) (f a)=in2 w' a b:=fun a b=>by
  unfold in1 in2
  rw[e,e2,Zfg (p:=b)]
  have:=Zfg (p:=a) (q:=w')
  simp only[show (0<= -1 * (0 - X w' b)/\0 < -1 * X w' a)=(0 < X a w'/\0<=X w' b) from propext ⟨fun _=>by omega,fun _=>by omega⟩]
 have c2: ∀ a b,in2 w (f b) (f a)=in1 w' a b:=fun a b=>by
  unfold in1 in2
  rw[e,e2,Zfg (p:=b)]
  have:=Zfg (p:=a) (q:=w')
  simp only[show (0 < -1 * (0 - X w' b)/\0<= -1 * X w' a)=(0<=X a w'/\0 < X w' b) from propext ⟨fun _=>by omega,fun _=>by omega⟩]
 rw[ZhT,ZhT,Zb6,Zb6,show (fun a b=>in1 w (f b) (f a))=in2 w' from funext fun a=>funext fun b=>c1 a b,show (fun a b=>in2 w (f b) (f a))=in1 w' from funext fun a=>funext fun b=>c2 a b]
 exact ⟨(h w' hw').2,(h w' hw').1⟩
structure Smo (rs:List Pt):Prop where
 len:3<=rs.length
 one: ∀ i:Int,X (cy rs i) (cy rs (i + 1))=1
 fan:Fan rs
noncomputable def Nr (b:Int) (rs:List Pt):Prop:= ∀ p∈rs,(-b<=p.1/\p.1<=b)/\ -b<=p.2/\p.2<=b
theorem Smo.ne (h:Smo rs):rs≠[]:=by
 intro z
 have:=h.len
 rw[z] at this
 simp at this
theorem Nr.cy {b:Int} (h:Nr b rs) (hn:rs≠[]) (i:Int):(-b<=(cy rs i).1/\(cy rs i).1<=b)/\ -b<=(cy rs i).2/\(cy rs i).2<=b:=h _ (ZjI hn)
theorem Smo.ins (h:Smo rs) (hk:k < rs.length):Smo (ins rs k ((cy rs k).1 + (cy rs (k + 1)).1,(cy rs k).2 + (cy rs (k + 1)).2)):=by
 have hL:=Zff (p:=((cy rs k).1 + (cy rs (k + 1)).1,(cy rs k).2 + (cy rs (k + 1)).2)) hk
 refine ⟨by rw[hL];have:=h.len;omega,?_,h.fan.ins hk⟩
 refine Zc0 (P:=fun a b=>X a b=1) (by omega) ?_
 intro i h0 h1
 rw[hL] at h1
 rw[ZjJ hk h0 (by omega),ZjJ hk (by omega) (by omega)]
 have ok:=h.one k
 by_cases c1:i + 1<=k
 ·rw[if_pos (by omega),if_pos c1];exact h.one i
 ·rw[if_neg c1]
  by_cases c2:i=k
  ·subst c2
   rw[if_pos (by omega),if_pos rfl]
   unfold X at *
   grind
  ·rw[if_neg (by omega: ¬ i<=(k:Int)),if_neg (by omega: ¬ i + 1=(k:Int) + 1)]
   by_cases c3:i=k + 1
   ·subst c3
    rw[if_pos rfl]
    have:(k:Int) + 1 + 1 - 1=k + 1:=by omega
    rw[this]
    unfold X at *
    grind
   ·rw[if_neg c3]
    have:=h.one (i - 1)
    have e:i - 1 + 1=i + 1 - 1:=by omega
    rw[e] at this
    exact this
theorem Smo.rot (h:Smo rs) (hk:k<=rs.length):Smo (rs.drop k ++ rs.take k):=by
 refine ⟨by have:=h.len;simp;omega,fun i=> ?_,h.fan.rot⟩
 rw[ZcZ hk,ZcZ hk]
 have:=h.one (i + k)
 have e:i + (k:Int) + 1=i + 1 + k:=by omega
 rw[e] at this
 exact this
theorem Smo.map (h:Smo rs) {f:Pt->Pt} (hf: ∀ p q,X (f p) (f q)=X p q):Smo (rs.map f):=by
 refine ⟨by have:=h.len;simp;omega,fun i=> ?_,h.fan.map hf⟩
 rw[ZeB h.ne,ZeB h.ne,hf]
 exact h.one i
theorem Nr.ins {b:Int} (h:Nr b rs) (hp:(-b<=p.1/\p.1<=b)/\ -b<=p.2/\p.2<=b):Nr b (ins rs k p):=by
 intro q hq
 rcases List.mem_append.mp hq with hq | hq
 ·exact h q (List.mem_of_mem_take hq)
 ·rcases List.mem_cons.mp hq with hq | hq
  ·subst hq;exact hp
  ·exact h q (List.mem_of_mem_drop hq)
theorem Nr.rot {b:Int} (h:Nr b rs):Nr b (rs.drop k ++ rs.take k):=by
 intro q hq
 rcases List.mem_append.mp hq with hq | hq
 ·exact h q (List.mem_of_mem_drop hq)
 ·exact h q (List.mem_of_mem_take hq)
end
end DL
end
section
namespace CC
open PySem PySem.Spec L2 DL
noncomputable def Z3:Sv:=(Z1 (e2 dSub (e2 dMul (e2 dIx (Zd 0) (eC (.int 0))) (e2 dIx (Zd 1) (eC (.int 1)))) (e2 dMul (e2 dIx (Zd 0) (eC (.int 1))) (e2 dIx (Zd 1) (eC (.int 0))))))
noncomputable def F_crossed:List D->Sto->Out D:=fnF Z3 2 0
noncomputable def Zal:Sv:=(Z1 (e2 dIx (Zd 0) (e2 dMod (e2 dAdd (Zd 1) (eC (.int 1))) (Zh bLen (Zb (Zd 0) aNil)))))
noncomputable def F_following:List D->Sto->Out D:=fnF Zal 2 0
noncomputable def ZP:Sv:=(sIf (tv (e2 dNe (Zh F_crossed (Zb (Zd 2) (Zb (Zh F_following (Zb (Zd 0) (Zb (Zd 1) aNil))) aNil))) (eC (.int 1)))) (Z1 (Zd 1)) sNil)
noncomputable def Zam:Sv:=(Zn (ZcU (gTp (gCs (gNm 1) (gCs (gNm 2) gNl))) (iEn (Zb (Zd 0) aNil)) ZP)
 (Z1 (eC .non)))
noncomputable def F_unspanned:List D->Sto->Out D:=fnF Zam 1 2
noncomputable def Zaa:Sv:=(Zn (ZB (gNm 1) (Zh F_unspanned (Zb (Zd 0) aNil)))
 (sIf (tv (e2 dIsNot (Zd 1) (eC .non))) (Zcc (PySem.Str.ofString "NotSmooth") (Zb (eFs (Zdg (eC (.str (PySem.Str.ofString "ray "))) (Zdg (eFm (Zd 1)) (Zdg (eC (.str (PySem.Str.ofString " does not cross the next one in 1"))) jNil)))) aNil)) sNil))
noncomputable def F_ask_smooth:List D->Sto->Out D:=fnF Zaa 1 1
end CC
end
open PySem PySem.Spec L2 DL
set_option hygiene false
set_option compiler.extract_closed false
local macro_rules | `(tactic| simp! [$ls,*]) => `(tactic| simp (implicitDefEqProofs := false) (disch := omega) only [ZsT, y_c, y_v, ZnM, ZpY, ZnN, ZpZ, Zp0, Zp1, ZnO, Zp3, ZnP, ZsU, ZsV, ZsX, Zp4, ZsY, Zp5, ZnQ, Zp6, ZnR, ZsZ, Zp7, Zs0, ZnS, Zp8, ZnT, Zp9, ZnU, Zqa, Zqb, Zqc, ZnV, ZnW, Zs1, Zs2, Zqf, Zqg, ZnX, Zqh, Zqi, Zk7, ZnY, ZnZ, Zqj, Zn0, Zn1, Zn2, Zqk, Zn3, Zs4, Zs5, Zs6, Zql, Zqm, Zqn, Zs7, Zs8, Zs9, Zqo, Zqp, Zta, Ztb, Ztc, Zqq, Zqr, Zi8, Zqs, Zqt, Zqu, Zn5, Zk8, Zn6, Zn7, Ztd, Zqv, Zqw, Zqx, Zqy, Zn9, Zte, Zqz, ZqA, ZqB, Ztf, ZqC, ZqD, ZqE, Zoa, kU, kQ, kB2, kB1, kA2, kA1, kTu, kLs, kTy, kIf, kTA, kTO, kTN, kSq, kDr, kSi, kAs, kAt, Zrp, kPa, Zrq, Zrr, Zrs, Zrt, Zru, Zrv, kPu, kRa, Zrw, Zrx, kR1, Zry, Zrz, ZrA, kR2, kFo, kFs, kTr, ZrB, ZrC, kS1, ZrD, ZrE, ZrF, kS2, ZrG, kEn, ZrH, ZrI, kZp, ZrJ, ZrK, ZrL, kRv, Zn4, ZrM, ZoO, kEq, kNe, kIx, ZrN, kLi, ZrO, kAl, ZrP, ZrQ, kMt, ZrR, ZrS, Zn8, ZrT, Zk9, ZrU, kCn, ZrV, ZrW, ZrX, ZrY, ZrZ, Zr0, Zr1, ZfS, ZfT, ZkY, Zi4, Zi5, Zi2, Zi3, ZkZ, Zi7, Zi6, Zk1, Zk0, Znw, decide_eq_true, decide_eq_false, wF1, wF2, wF3, wF4, Zl, Zm4, Zsy, Zsz, ZsA, ZsB, ZsC, ZsD, Zsw, Zsx, Zpu, Zpv, Zpw, Zne, Zpx, Zpy, Zpz, ZsF, ZsG, ZsH, ZsI, Znf, Znh, Zni, ZpF, ZpG, ZpH, Znj, Znk, ZkX, Znm, Znn, Zi1, ZpU, ZpV, ZpW, ZpX, id, roB, at0, at1, at2, at3, gTp, gCs, gNl, gNm, List.set_cons_zero, List.set_cons_succ, List.getElem?_cons_zero, List.getElem?_cons_succ, List.length_cons, List.length_nil, List.length_append, List.length_map, List.map_cons, List.map_nil, List.cons_append, List.nil_append, List.append_assoc, List.append_nil, List.replicate_succ, List.replicate_zero, Option.join_some, Option.isSome_some, Zdj, Zgw, Zbx, ZjH, ZpP, Zno, Znp, Zq, Zb4, ZpQ, ZsN, ZpR, Zns, ZpT, Znt, Znu, Znx, Zny, Znz, ZnA, ZnB, ZnC, ZnD, ZnE, ZnF, ZnG, ZnH, ZnI, true_and, and_true, Bool.not_true, Bool.not_false, decide_true, decide_false, Nat.reduceAdd, Nat.reduceLeDiff, Nat.reduceLT, Nat.add_zero, Nat.zero_add, Int.reducePow, Int.reduceToNat, Int.reduceNeg, Int.reduceMod, Int.reduceDiv, Int.reduceAdd, Int.reduceSub, Int.reduceMul, Int.cast_ofNat_Int, Int.reduceEq, Int.reduceLT, Int.reduceLE, $ls,*])
set_option hygiene true
section
namespace CC
open PySem PySem.Spec L2 DL
section
variable {Q:D->Sto->Prop} {E:Str->Sto->Prop} {M:Sto} {a b c d i:Int} {n:Nat} {rs:List Pt}
theorem ZaC (ha: -(18446744073709551616) < a/\a < 18446744073709551616) (hb: -(18446744073709551616) < b/\b < 18446744073709551616):wO (F_crossed [pr a b,pr c d] M) Q E=Q (.int (a * d - b * c)) M:=by
 simp![F_crossed,Z3]
theorem Zbj (h:M[n]?=some (.lst (prs rs))) (hi:0<=i/\i < rs.length):wO (F_following [.ref n,.int i] M) Q E=Q (pr (cy rs (i + 1)).1 (cy rs (i + 1)).2) M:=by
 have e:=Za6 (i:=i + 1) (m:=rs.length) (by omega)
 simp![F_following,Zal,h,Zdx,Zdy]
theorem ZaT {rs:List Pt} {i:Nat} (h:i < (prs rs).length):(prs rs)[i]=pr (cy rs i).1 (cy rs i).2:=by
 have h':i < rs.length:=by rw[Zq] at h;exact h
 rw[Zez h']
 simp[prs]
theorem Nr.big {b:Int} {rs:List Pt} (h:Nr b rs) (hb:b<=18446744073709551615) (hn:rs≠[]) (i:Int):(-(18446744073709551616) < (cy rs i).1/\(cy rs i).1 < 18446744073709551616)/\(-(18446744073709551616) < (cy rs i).2/\(cy rs i).2 < 18446744073709551616):=by
 have:=Nr.cy h hn i
 omega
theorem Zfi (h:M[n]?=some (.lst (prs rs))) (hs:Smo rs) (hb:Nr 18446744073709551615 rs) (k:Q .non M):wO (F_unspanned [.ref n] M) Q E:=by
 simp![F_unspanned,Zam]
 refine ZhR (fun i ρ M'=>M'=M/\ ∃ x y,ρ=[some (.ref n),x,y]) h ⟨rfl,_,_,rfl⟩ (fun i ρ M' hI=>by rw[hI.1];exact h) ?_ ?_
 ·rintro i ρ M' hi ⟨rfl,x,y,rfl⟩
  have b1:=Nr.big hb (by decide) hs.ne i
  have o1:=hs.one i
  have hi':i < rs.length:=by rw[Zq] at hi;exact hi
  rw[ZaT]
  simp![ZP,Zbj h,ZaC]
  unfold X at o1
  rw[o1]
  simp![Zl]
  exact ⟨_,_,rfl⟩
 ·rintro ρ M' ⟨rfl,x,y,rfl⟩
  simp![Zl]
  exact k
theorem ZeC (h:M[n]?=some (.lst (prs rs))) (hs:Smo rs) (hb:Nr 18446744073709551615 rs) (k:Q .non M):wO (F_ask_smooth [.ref n] M) Q E:=by
 simp![F_ask_smooth,Zaa]
 refine Zfi h hs hb ?_
 simp![Zl]
 exact k
theorem Zc1 {w a b:Pt} {p q:Int} (h1:X a w=p) (h2:X w b=q):in1 w a b=if 0<=p/\0 < q then 1 else 0:=by unfold in1;rw[h1,h2]
theorem Zc2 {w a b:Pt} {p q:Int} (h1:X a w=p) (h2:X w b=q):in2 w a b=if 0 < p/\0<=q then 1 else 0:=by unfold in2;rw[h1,h2]
theorem Zth:Fan [(1,0),(0,1),(-1,-1)]:=by
 rintro ⟨x,y⟩ hw
 have hw': ¬ (x=0/\y=0):=fun z=>hw (by rw[z.1,z.2])
 have a1:X (1,0) (x,y)=y:=by simp[X]
 have a2:X (0,1) (x,y)= -x:=by simp[X]
 have a3:X (-1,-1) (x,y)=x - y:=by simp[X];omega
 have b1:X (x,y) (0,1)=x:=by simp[X]
 have b2:X (x,y) (-1,-1)=y - x:=by simp[X];omega
 have b3:X (x,y) (1,0)= -y:=by simp[X]
 simp only[cyc,List.take_succ_cons,List.take_zero,List.cons_append,List.nil_append,cc]
 rw[Zc1 a1 b1,Zc1 a2 b2,Zc1 a3 b3,Zc2 a1 b1,Zc2 a2 b2,Zc2 a3 b3]
 clear a1 a2 a3 b1 b2 b3 hw
 constructor
 all_goals
  repeat' split
  all_goals omega
theorem Zti (f:Int):Fan [(1,0),(0,1),(-1,f),(0,-1)]:=by
 rintro ⟨x,y⟩ hw
 have hw': ¬ (x=0/\y=0):=fun z=>hw (by rw[z.1,z.2])
 have h0:x=0->x * f=0:=fun z=>by rw[z,Int.zero_mul]
 have a1:X (1,0) (x,y)=y:=by simp[X]
 have a2:X (0,1) (x,y)= -x:=by simp[X]
 have a3:X (-1,f) (x,y)= -y - x * f:=by unfold X;simp only;grind
 have a4:X (0,-1) (x,y)=x:=by simp[X]
 have b1:X (x,y) (0,1)=x:=by simp[X]
 have b2:X (x,y) (-1,f)=x * f + y:=by unfold X;simp only;grind
 have b3:X (x,y) (0,-1)= -x:=by simp[X]
 have b4:X (x,y) (1,0)= -y:=by simp[X]
 simp only[cyc,List.take_succ_cons,List.take_zero,List.cons_append,List.nil_append,cc]
 rw[Zc1 a1 b1,Zc1 a2 b2,Zc1 a3 b3,Zc1 a4 b4,Zc2 a1 b1,Zc2 a2 b2,Zc2 a3 b3,Zc2 a4 b4]
 clear a1 a2 a3 a4 b1 b2 b3 b4 hw
 generalize x * f=z at *
 constructor
 all_goals
  repeat' split
  all_goals omega
theorem ZqM:Smo [(1,0),(0,1),(-1,-1)]:=by
 refine ⟨by decide,Zc0 (P:=fun a b=>X a b=1) (by decide) ?_,Zth⟩
 intro i h0 h1
 have:i=0\/i=1\/i=2:=by simp at h1;omega
 rcases this with rfl | rfl | rfl<;>rfl
theorem Ztj (f:Int):Smo [(1,0),(0,1),(-1,f),(0,-1)]:=by
 refine ⟨by simp,Zc0 (P:=fun a b=>X a b=1) (by simp) ?_,Zti f⟩
 intro i h0 h1
 have:i=0\/i=1\/i=2\/i=3:=by simp at h1;omega
 rcases this with rfl | rfl | rfl | rfl<;>simp[X,cy]
end
end CC
end
section
namespace DL
noncomputable def T (rs:List Pt) (i:Int):Int:=0 - X (cy rs (i - 1)) (cy rs (i + 1))
noncomputable def Zcg (rs:List Pt):List Int:=(List.range rs.length).map fun (i:Nat)=>T rs i
section
variable {rs:List Pt} {k:Nat} {p:Pt} {j:Int}
end
end DL
namespace CC
open PySem PySem.Spec L2 DL
section
variable {Q:D->Sto->Prop} {E:Str->Sto->Prop} {M:Sto} {a b c d i:Int} {n:Nat} {rs:List Pt}
end
end CC
end
section
namespace DL
noncomputable def del (rs:List Pt) (k:Nat):List Pt:=rs.take k ++ rs.drop (k + 1)
section
variable {rs:List Pt} {k:Nat} {p:Pt} {j:Int}
theorem ZjN (p q:Pt):X p q=0 - X q p:=by unfold X;grind
theorem Zc3 (hk:k < rs.length):(del rs k).length=rs.length - 1:=by simp[del];omega
theorem ZfU (hk:k < rs.length) (h0:0<=j) (h1:j < rs.length - 1):cy (del rs k) j=if j < k then cy rs j else cy rs (j + 1):=by
 have hL:=Zc3 hk
 rw[Zbb (by rw[hL];omega)]
 unfold del
 rw[List.getD_eq_getElem?_getD]
 by_cases c1:j < k
 ·rw[if_pos c1,Zbb (by omega),List.getD_eq_getElem?_getD,List.getElem?_append_left (by simp;omega),List.getElem?_take_of_lt (by omega)]
 ·have hl:(rs.take k).length=k:=by simp;omega
  rw[if_neg c1,Zbb (by omega),List.getD_eq_getElem?_getD,List.getElem?_append_right (by rw[hl];omega),hl,List.getElem?_drop]
  congr 2
  omega
theorem Zlg (hk:k < rs.length) (hn:3<=rs.length):cy (del rs k) (-1)=if (k:Int)=rs.length - 1 then cy rs (-2) else cy rs (-1):=by
 have hL:=Zc3 hk
 have e:=ZcY (rs:=del rs k) (i:= -1)
 rw[hL] at e
 rw[<- e,ZfU hk (by omega) (by omega)]
 by_cases c:(k:Int)=rs.length - 1
 ·rw[if_pos (by omega),if_pos c,<- ZcY (rs:=rs) (i:= -2)]
  exact congrArg _ (by omega)
 ·rw[if_neg (by omega),if_neg c,<- ZcY (rs:=rs) (i:= -1)]
  exact congrArg _ (by omega)
theorem Zlh (hk:k < rs.length) (hn:3<=rs.length) (hj:j=rs.length - 1):cy (del rs k) j=if k=0 then cy rs (rs.length + 1) else cy rs rs.length:=by
 have hL:=Zc3 hk
 have e:=Zcy (rs:=del rs k) (i:=j)
 rw[hL] at e
 rw[<- e,show j - ((rs.length - 1:Nat):Int)=0 by omega,ZfU hk (by omega) (by omega)]
 by_cases c:k=0
 ·rw[if_neg (by omega),if_pos c,<- ZcY (rs:=rs) (i:=0 + 1)]
  exact congrArg _ (by omega)
 ·rw[if_pos (by omega),if_neg c,<- ZcY (rs:=rs) (i:=0)]
  exact congrArg _ (by omega)
end
end DL
end
section
namespace DL
noncomputable def nm (p:Pt):Int:=p.1 * p.1 + p.2 * p.2
theorem ZhW {w a b:Pt} (h1:0<=X a w) (h2:0 < X w b):in1 w a b=1:=by unfold in1;rw[if_pos ⟨h1,h2⟩]
theorem Zoe {f:Pt->Pt->Nat} {L R:List Pt} {a b:Pt}:f a b<=cc f (L ++ a :: b :: R):=by
 rw[ZbV]
 simp only[cc]
 omega
theorem XX (p:Pt):X p p=0:=by unfold X;grind
end DL
namespace DL
section
variable {rs:List Pt} {k:Nat}
theorem Zli {f:Pt->Pt->Nat} {a b p:Pt} {L R Y:List Pt} (e:R ++ L=b :: (Y ++ [a])) (hf:f a b=f a p + f p b):cyc f (L ++ R)=cyc f (L ++ p :: R):=by
 rw[Zb5 L R,e,Zb5 L,List.cons_append,e]
 simp only[ZaJ,List.cons_append,cc]
 have e1:b :: (Y ++ [a] ++ [p])=(b :: Y) ++ a :: [p]:=by simp
 have e2:b :: (Y ++ [a] ++ [b])=(b :: Y) ++ a :: [b]:=by simp
 rw[e1,e2,ZbV (b :: Y) a [p],ZbV (b :: Y) a [b]]
 simp only[cc]
 omega
end
end DL
end
section
namespace CE
open PySem PySem.Spec L2 DL
noncomputable def Z3:Sv:=(Z1 (e2 dSub (e2 dMul (e2 dIx (Zd 0) (eC (.int 0))) (e2 dIx (Zd 1) (eC (.int 1)))) (e2 dMul (e2 dIx (Zd 0) (eC (.int 1))) (e2 dIx (Zd 1) (eC (.int 0))))))
noncomputable def F_crossed:List D->Sto->Out D:=fnF Z3 2 0
noncomputable def Zal:Sv:=(Z1 (e2 dIx (Zd 0) (e2 dMod (e2 dAdd (Zd 1) (eC (.int 1))) (Zh bLen (Zb (Zd 0) aNil)))))
noncomputable def F_following:List D->Sto->Out D:=fnF Zal 2 0
noncomputable def ZP:Sv:=(sIf (tv (e2 dNe (Zh F_crossed (Zb (Zd 2) (Zb (Zh F_following (Zb (Zd 0) (Zb (Zd 1) aNil))) aNil))) (eC (.int 1)))) (Z1 (Zd 1)) sNil)
noncomputable def Zam:Sv:=(Zn (ZcU (gTp (gCs (gNm 1) (gCs (gNm 2) gNl))) (iEn (Zb (Zd 0) aNil)) ZP)
 (Z1 (eC .non)))
noncomputable def F_unspanned:List D->Sto->Out D:=fnF Zam 1 2
noncomputable def Zaa:Sv:=(Zn (ZB (gNm 1) (Zh F_unspanned (Zb (Zd 0) aNil)))
 (sIf (tv (e2 dIsNot (Zd 1) (eC .non))) (Zcc (PySem.Str.ofString "NotSmooth") (Zb (eFs (Zdg (eC (.str (PySem.Str.ofString "ray "))) (Zdg (eFm (Zd 1)) (Zdg (eC (.str (PySem.Str.ofString " does not cross the next one in 1"))) jNil)))) aNil)) sNil))
noncomputable def F_ask_smooth:List D->Sto->Out D:=fnF Zaa 1 1
noncomputable def Zch:Sv:=(Zn (ZbY (Zh F_ask_smooth (Zb (Zd 0) aNil)))
 (Z1 (ZaW (iR1 (Zb (Zh bLen (Zb (Zd 0) aNil)) aNil)) 1 [0] (gNm 0) (fun _ M=> .ok true M) (Zh F_crossed (Zb (Zh F_following (Zb (Zd 1) (Zb (Zd 0) aNil))) (Zb (e2 dIx (Zd 1) (e2 dSub (Zd 0) (eC (.int 1)))) aNil))))))
noncomputable def F_numbers:List D->Sto->Out D:=fnF Zch 1 0
end CE
end
section
namespace CE
open PySem PySem.Spec L2 DL
theorem Zc4:F_crossed=CC.F_crossed:=rfl
theorem Zfj:F_following=CC.F_following:=rfl
theorem ZeD:F_ask_smooth=CC.F_ask_smooth:=rfl
section
variable {Q:D->Sto->Prop} {E:Str->Sto->Prop} {M:Sto} {a b c d i:Int} {n:Nat} {rs:List Pt}
theorem ZhX (h:M[n]?=some (.lst (prs rs))) (hs:Smo rs) (hl:rs.length<=1000000) (hb:Nr 18446744073709551615 rs) (q:Q (.ref M.length) (M ++ [.lst (nts (Zcg rs))])):wO (F_numbers [.ref n] M) Q E:=by
 have hm:=Zs h
 have hn:=hs.len
 simp![F_numbers,Zch,ZeD]
 refine CC.ZeC h hs hb ?_
 simp![h]
 refine ⟨by omega,?_⟩
 rw[show ((rs.length:Int)).toNat=rs.length by omega]
 refine Ztg (fun ρ=> ∃ x,ρ=[x,some (.ref n)]) (fun (i:Nat)=> .int (T rs i)) (by omega) ⟨_,rfl⟩ ?_ (by rw[ZhS];exact q)
 rintro i hi ρ L ⟨x,rfl⟩
 have b1:=CC.Nr.big hb (by decide) hs.ne (i + 1)
 have hL:(M ++ L)[n]?=some (.lst (prs rs)):=by rw[Zbx hm];exact h
 simp![Zfj,Zc4,CC.Zbj hL,h,Zdx,CC.ZaC]
 refine ⟨⟨_,rfl⟩,?_⟩
 unfold T
 rw[<- ZjN]
 rfl
end
end CE
end
section
namespace CF
open PySem PySem.Spec L2 DL CC
end CF
end
section
namespace CF
open PySem PySem.Spec L2 DL
section
variable {Q:D->Sto->Prop} {E:Str->Sto->Prop} {M:Sto} {a b c d i:Int} {n:Nat} {rs:List Pt}
theorem Zfk {k:Nat}:ZaB ((List.range k).map fun _=>D.bl true)=some (List.replicate k true):=by
 have: ∀ k,ZaB (List.replicate k (D.bl true))=some (List.replicate k true):=by
  intro k
  induction k with
  |zero=>rfl
  |succ k ih=>
   show (match ZaB (List.replicate k (D.bl true)) with | some bs=>some (true :: bs) | none=>none)=_
   rw[ih]
   rfl
 have e:(List.range k).map (fun _=>D.bl true)=List.replicate k (D.bl true):=by
  apply List.ext_getElem
  ·simp
  ·intro i h1 h2
   simp
 rw[e,this k]
theorem Zi9 {k:Nat}:(List.replicate k true).all id=true:=by simp
theorem Nr.del {b:Int} {k:Nat} (h:Nr b rs):Nr b (del rs k):=fun p hp=>h p (by
 rcases List.mem_append.mp hp with z | z
 ·exact List.mem_of_mem_take z
 ·exact List.mem_of_mem_drop z)
end
end CF
end
section
namespace DL
open PySem PySem.Spec L2 DL
section
variable {M:Sto}
end
end DL
end
section
namespace CB
open PySem PySem.Spec L2 DL
noncomputable def Z3:Sv:=(Z1 (e2 dSub (e2 dMul (e2 dIx (Zd 0) (eC (.int 0))) (e2 dIx (Zd 1) (eC (.int 1)))) (e2 dMul (e2 dIx (Zd 0) (eC (.int 1))) (e2 dIx (Zd 1) (eC (.int 0))))))
noncomputable def F_crossed:List D->Sto->Out D:=fnF Z3 2 0
noncomputable def ZaZ:Sv:=(Zn (ZB (gNm 5) (e2 dDiv (Zd 1) (Zd 2)))
 (Zn (Zd6 1 2 (Zb (Zd 2) (Zb (e2 dSub (Zd 1) (e2 dMul (Zd 5) (Zd 2))) aNil)))
 (Zd6 3 4 (Zb (Zd 4) (Zb (Z5 (Zb (e2 dSub (e2 dIx (Zd 3) (eC (.int 0))) (e2 dMul (Zd 5) (e2 dIx (Zd 4) (eC (.int 0))))) (Zb (e2 dSub (e2 dIx (Zd 3) (eC (.int 1))) (e2 dMul (Zd 5) (e2 dIx (Zd 4) (eC (.int 1))))) aNil))) aNil)))))
noncomputable def Zci:Sv:=(Zn (ZB (gTp (gCs (gNm 1) (gCs (gNm 2) gNl))) (Zd 0))
 (Zn (ZB (gTp (gCs (gNm 3) (gCs (gNm 4) gNl))) (Z5 (Zb (Z5 (Zb (eC (.int 0)) (Zb (eC (.int 1)) aNil))) (Zb (Z5 (Zb (Zdf (eC (.int 1))) (Zb (eC (.int 0)) aNil))) aNil))))
 (Zn (sWh (tv (e2 dNe (Zd 2) (eC (.int 0)))) ZaZ)
 (Z1 (Z5 (Zb (e2 dMul (Zd 1) (e2 dIx (Zd 3) (eC (.int 0)))) (Zb (e2 dMul (Zd 1) (e2 dIx (Zd 3) (eC (.int 1)))) aNil)))))))
noncomputable def F_partner:List D->Sto->Out D:=fnF Zci 1 5
noncomputable def Zau:Sv:=(Zn (ZB (gNm 2) (Zh F_partner (Zb (Zd 0) aNil)))
 (Zn (ZB (gNm 3) (e2 dDiv (Zh F_crossed (Zb (Zd 2) (Zb (Zd 1) aNil))) (Zh F_crossed (Zb (Zd 0) (Zb (Zd 1) aNil)))))
 (Z1 (Z5 (Zb (e2 dSub (e2 dIx (Zd 2) (eC (.int 0))) (e2 dMul (Zd 3) (e2 dIx (Zd 0) (eC (.int 0))))) (Zb (e2 dSub (e2 dIx (Zd 2) (eC (.int 1))) (e2 dMul (Zd 3) (e2 dIx (Zd 0) (eC (.int 1))))) aNil))))))
noncomputable def F_first_behind:List D->Sto->Out D:=fnF Zau 2 2
noncomputable def ZaK:Sv:=(Zn (ZB (gNm 3) (Zdf (e2 dDiv (Zdf (Zd 0)) (Zd 1))))
 (Zn (ZbY (Zer mApp (Zd 2) (Zb (Zd 3) aNil)))
 (Zd6 0 1 (Zb (Zd 1) (Zb (e2 dSub (e2 dMul (Zd 3) (Zd 1)) (Zd 0)) aNil)))))
noncomputable def ZbO:Sv:=(Zn (ZB (gNm 2) (ZbR aNil))
 (Zn (sWh (tv (e2 dNe (Zd 1) (eC (.int 0)))) ZaK)
 (Z1 (Zd 2))))
noncomputable def F_expanded:List D->Sto->Out D:=fnF ZbO 2 2
noncomputable def Zja:Sv:=(Zn (sIf (tv (e2 dLe (Zh F_crossed (Zb (Zd 0) (Zb (Zd 1) aNil))) (eC (.int 0)))) (Zcc (PySem.Str.ofString "NoWedge") (Zb (eC (.str (PySem.Str.ofString "the two rays of a wedge, crossed, come to more than 0"))) aNil)) sNil)
 (Z1 (Zh F_expanded (Zb (Zh F_crossed (Zb (Zd 0) (Zb (Zd 1) aNil))) (Zb (Zh F_crossed (Zb (Zh F_first_behind (Zb (Zd 0) (Zb (Zd 1) aNil))) (Zb (Zd 1) aNil))) aNil)))))
noncomputable def F_row:List D->Sto->Out D:=fnF Zja 2 0
noncomputable def Za0:Sv:=(Zn (ZbY (Zer mApp (Zd 3) (Zb (Zd 5) aNil)))
 (Zd6 4 5 (Zb (Zd 5) (Zb (Z5 (Zb (e2 dSub (e2 dMul (Zd 6) (e2 dIx (Zd 5) (eC (.int 0)))) (e2 dIx (Zd 4) (eC (.int 0)))) (Zb (e2 dSub (e2 dMul (Zd 6) (e2 dIx (Zd 5) (eC (.int 1)))) (e2 dIx (Zd 4) (eC (.int 1)))) aNil))) aNil))))
noncomputable def Zcj:Sv:=(Zn (ZB (gNm 2) (Zh F_row (Zb (Zd 0) (Zb (Zd 1) aNil))))
 (Zn (ZB (gNm 3) (ZbR aNil))
 (Zn (Zd6 4 5 (Zb (Zd 0) (Zb (Zh F_first_behind (Zb (Zd 0) (Zb (Zd 1) aNil))) aNil)))
 (Zn (Zif (gNm 6) (Zd 2) Za0)
 (Z1 (Zd 3))))))
noncomputable def F_between:List D->Sto->Out D:=fnF Zcj 2 5
noncomputable def Zbk:Sv:=(Zn (ZB (gNm 2) (eC (.int 0)))
 (Zn (sIf (tv (e2 dLt (Zd 1) (Zh bLen (Zb (Zd 0) aNil)))) (ZB (gNm 2) (e2 dIx (Zd 0) (Zd 1))) sNil)
 (Zn (ZB (gNm 3) (e2 dMod (Zd 2) (e2 dMul (e2 dPow (eC (.int 10)) (eC (.int 60))) (e2 dPow (eC (.int 10)) (eC (.int 30))))))
 (Z1 (ZbR (Zb (e2 dMul (Zd 3) (Zh bInt (Zb (e2 dGe (Zd 3) (e2 dPow (eC (.int 10)) (eC (.int 18)))) aNil))) (Zb (e2 dAdd (e2 dAdd (e2 dMod (Zd 2) (eC (.int 2147483647))) (e2 dMul (eC (.int 7919)) (Zd 1))) (eC (.int 1))) aNil)))))))
noncomputable def F_law_purse:List D->Sto->Out D:=fnF Zbk 2 2
noncomputable def ZbP:Sv:=(Zn (sIf (tv (e2 dGt (e2 dIx (Zd 0) (eC (.int 0))) (eC (.int 0)))) (Zn (ZB (gNm 2) (e2 dMod (e2 dIx (Zd 0) (eC (.int 0))) (Zd 1)))
 (Zn (Zjv (Zd 0) (eC (.int 0)) (e2 dDiv (e2 dIx (Zd 0) (eC (.int 0))) (Zd 1)))
 (Z1 (Zd 2)))) sNil)
 (Zn (Zjv (Zd 0) (eC (.int 1)) (e2 dMod (e2 dAdd (e2 dMul (e2 dIx (Zd 0) (eC (.int 1))) (eC (.int 48271))) (eC (.int 12345))) (eC (.int 2147483647))))
 (Z1 (e2 dMod (e2 dDiv (e2 dMod (e2 dMul (e2 dIx (Zd 0) (eC (.int 1))) (eC (.int 69621))) (eC (.int 2147483629))) (eC (.int 5))) (Zd 1)))))
noncomputable def F_law_take:List D->Sto->Out D:=fnF ZbP 2 1
noncomputable def Zbl:Sv:=(Z1 (e2 dSub (e2 dMul (e2 dIx (Zd 0) (eC (.int 0))) (e2 dIx (Zd 1) (eC (.int 1)))) (e2 dMul (e2 dIx (Zd 0) (eC (.int 1))) (e2 dIx (Zd 1) (eC (.int 0))))))
noncomputable def F_law_crossed:List D->Sto->Out D:=fnF Zbl 2 0
noncomputable def Zav:Sv:=(Zd6 1 2 (Zb (Zd 2) (Zb (e2 dMod (Zd 1) (Zd 2)) aNil)))
noncomputable def Zbm:Sv:=(Zn (Zd6 1 2 (Zb (Zh bAbs (Zb (e2 dIx (Zd 0) (eC (.int 0))) aNil)) (Zb (Zh bAbs (Zb (e2 dIx (Zd 0) (eC (.int 1))) aNil)) aNil)))
 (Zn (sWh (tv (e2 dGt (Zd 2) (eC (.int 0)))) Zav)
 (Zn (sIf (tv (e2 dEq (Zd 1) (eC (.int 0)))) (Z1 (Z5 (Zb (eC (.int 1)) (Zb (eC (.int 0)) aNil)))) sNil)
 (Z1 (Z5 (Zb (e2 dDiv (e2 dIx (Zd 0) (eC (.int 0))) (Zd 1)) (Zb (e2 dDiv (e2 dIx (Zd 0) (eC (.int 1))) (Zd 1)) aNil)))))))
noncomputable def F_law_short:List D->Sto->Out D:=fnF Zbm 1 2
end CB
end
section
namespace DL
theorem ZhY {a b:Int} (h:b≠0):(a - a.fdiv b * b).natAbs < b.natAbs:=by
 have e:a - a.fdiv b * b=a.fmod b:=by rw[Int.fmod_def,Int.mul_comm]
 rw[e]
 by_cases c:0 < b
 ·have h1:=Int.fmod_lt_of_pos a c
  have h2:0<=a.fmod b:=by rw[Int.fmod_eq_emod_of_nonneg _ (by omega)];exact Int.emod_nonneg _ h
  omega
 ·have e2:a.fmod b= -((-a).fmod (-b)):=by rw[Int.neg_fmod_neg];omega
  have h1:=Int.fmod_lt_of_pos (-a) (show 0 < -b by omega)
  have h2:0<=(-a).fmod (-b):=by rw[Int.fmod_eq_emod_of_nonneg _ (by omega)];exact Int.emod_nonneg _ (by omega)
  omega
theorem Zlj {a b:Int} (h:b≠0):(a.fdiv b).natAbs<=a.natAbs + 1:=by
 have h1:=ZhY (a:=a) h
 generalize hr:a - a.fdiv b * b=r at h1
 have h2:(a.fdiv b * b).natAbs<=a.natAbs + r.natAbs:=by omega
 rw[Int.natAbs_mul] at h2
 apply Classical.byContradiction
 intro c
 have h3:(a.natAbs + 2) * b.natAbs<=(a.fdiv b).natAbs * b.natAbs:=Nat.mul_le_mul_right _ (by omega)
 have h4:a.natAbs * 1<=a.natAbs * b.natAbs:=Nat.mul_le_mul_left _ (by omega)
 rw[Nat.add_mul] at h3
 omega
noncomputable def hj (t b:Int):List Int:=if h:0 < b then -((-t) / b) :: hj b (-((-t) / b) * b - t) else []
termination_by b.toNat
decreasing_by
 have h1:=Int.emod_nonneg (-t) (show b≠0 by omega)
 have h2:=Int.emod_lt_of_pos (-t) h
 have h3:=Int.emod_add_mul_ediv (-t) b
 rw[Int.neg_mul,Int.mul_comm]
 omega
theorem Zbn {t b:Int} (h:0 < b):0<= -((-t) / b) * b - t/\ -((-t) / b) * b - t < b:=by
 have h1:=Int.emod_nonneg (-t) (show b≠0 by omega)
 have h2:=Int.emod_lt_of_pos (-t) h
 have h3:=Int.emod_add_mul_ediv (-t) b
 rw[Int.neg_mul,Int.mul_comm]
 omega
theorem ZhZ {t b:Int} (h:0 < b) (ht:b < t):2<= -((-t) / b):=by
 have:=(Zbn (t:=t) h).1
 apply Classical.byContradiction
 intro c
 have: -((-t) / b) * b<=1 * b:=Int.mul_le_mul_of_nonneg_right (by omega) (by omega)
 omega
theorem ZjO: ∀ (n:Nat) (t b:Int),b.toNat=n->(hj t b).length<=n:=by
 intro n
 induction n using Nat.strongRecOn with
 |ind n ih=>
  intro t b hb
  unfold hj
  by_cases h:0 < b
  ·rw[dif_pos h]
   have:=Zbn (t:=t) h
   have:=ih (-((-t) / b) * b - t).toNat (by omega) b _ rfl
   simp only[List.length_cons]
   omega
  ·rw[dif_neg h]
   simp
end DL
namespace CB
open PySem PySem.Spec L2 DL
section
variable {Q:D->Sto->Prop} {E:Str->Sto->Prop} {M:Sto} {a b c d i:Int} {n m:Nat} {u v w:Pt}
noncomputable abbrev Bd (b:Int) (p:Pt):Prop:=(-b<=p.1/\p.1<=b)/\ -b<=p.2/\p.2<=b
theorem Zof {j:Int} (h:j≠0/\ -(18446744073709551616) < j/\j < 18446744073709551616):wO (dDiv (.int i) (.int j) M) Q E=Q (.int (i.fdiv j)) M:=by
 have:Za5 j:=by
  refine ⟨h.1,?_⟩
  have:j.natAbs.log2 < 65:=(Nat.log2_lt (by omega)).mpr (by omega)
  omega
 show wO (if Za5 j then _ else _) Q E=_
 rw[if_pos this];rfl
theorem Zh0 (hg:Int.gcd u.1 u.2=1) (hb:Bd 1000000 u) (q: ∀ w:Pt,X u w=1->Q (pr w.1 w.2) M):wO (F_partner [pr u.1 u.2] M) Q E:=by
 simp![F_partner,Zci]
 refine Zla (fun k ρ M'=>M'=M/\ ∃ (h l:Int) (f s:Pt) (x:Option D),ρ=[some (pr u.1 u.2),some (.int h),some (.int l),some (pr f.1 f.2),some (pr s.1 s.2),x]/\k=l.natAbs/\Int.gcd h l=1/\(-1000000<=h/\h<=1000000)/\(-1000000<=l/\l<=1000000)/\X u f=h/\X u s=l) ?_ u.2.natAbs _ _ ⟨rfl,u.1,u.2,(0,1),(-1,0),_,rfl,rfl,hg,hb.1,hb.2,by simp[X],by simp[X]⟩
 rintro k ρ M ⟨rfl,h,l,f,s,x,rfl,rfl,g,hh,hl,e1,e2⟩
 simp![Zl]
 refine Zob (fun hl0=> ?_) (fun hl0=> ?_)
 ·have f1:=ZhY (a:=h) hl0
  have f2:=Zlj (a:=h) hl0
  simp![ZaZ,Zof]
  refine ⟨(h - h.fdiv l * l).natAbs,f1,l,h - h.fdiv l * l,s,(f.1 - h.fdiv l * s.1,f.2 - h.fdiv l * s.2),_,rfl,rfl,?_,hl,by omega,e2,?_⟩
  ·rw[Int.gcd_sub_mul_right_right,Int.gcd_comm]
   exact g
  ·unfold X at *
   simp only
   grind
 ·subst hl0
  rw[Int.gcd_zero_right] at g
  simp![Zl]
  have:=q (h * f.1,h * f.2) (by
   have hh2:h * h=1:=by
    have:h=1\/h= -1:=by omega
    rcases this with z | z<;>rw[z]<;>rfl
   unfold X at *
   simp only
   grind)
  exact this
theorem ZaC (h:Bd 1000000 u\/Bd 1000000 v):wO (F_crossed [pr u.1 u.2,pr v.1 v.2] M) Q E=Q (.int (X u v)) M:=by
 rcases h with h | h
 ·simp![F_crossed,Z3]
  rfl
 ·simp![F_crossed,Z3]
  rfl
structure Wg (u v:Pt):Prop where
 gu:Int.gcd u.1 u.2=1
 gv:Int.gcd v.1 v.2=1
 bu:Bd 1000 u
 bv:Bd 1000 v
 pos:0 < X u v
theorem Wg.le (h:Wg u v):X u v<=2000000:=by
 obtain ⟨_,_,⟨⟨a1,a2⟩,a3,a4⟩,⟨⟨b1,b2⟩,b3,b4⟩,_⟩:=h
 have m: ∀ x y:Int,-1000<=x->x<=1000-> -1000<=y->y<=1000->(x * y).natAbs<=1000 * 1000:=by
  intro x y _ _ _ _
  rw[Int.natAbs_mul]
  exact Nat.mul_le_mul (by omega) (by omega)
 have p1:=m u.1 v.2 a1 a2 b3 b4
 have p2:=m u.2 v.1 a3 a4 b1 b2
 unfold X
 omega
theorem ZbW (h:Wg u v) (q: ∀ w:Pt,X u w=1->0<=X w v->X w v < X u v->Q (pr w.1 w.2) M):wO (F_first_behind [pr u.1 u.2,pr v.1 v.2] M) Q E:=by
 have bu:Bd 1000000 u:=by have:=h.bu;unfold Bd at *;omega
 have bv:Bd 1000000 v:=by have:=h.bv;unfold Bd at *;omega
 have hp:=h.pos
 have hl:=h.le
 simp![F_first_behind,Zau]
 refine Zh0 h.gu bu fun w e=> ?_
 simp![ZaC (u:=w) (v:=v) (.inr bv),ZaC (u:=u) (v:=v) (.inr bv)]
 have m1:=Int.emod_nonneg (X w v) (show X u v≠0 by omega)
 have m2:=Int.emod_lt_of_pos (X w v) hp
 have m3:=Int.emod_add_mul_ediv (X w v) (X u v)
 generalize X w v / X u v=k at *
 have e3:X (w.1 - k * u.1,w.2 - k * u.2) v=X w v % X u v:=by
  have:X (w.1 - k * u.1,w.2 - k * u.2) v=X w v - X u v * k:=by unfold X;simp only;grind
  omega
 exact q (w.1 - k * u.1,w.2 - k * u.2) (by unfold X at *;simp only;grind) (by omega) (by omega)
structure Fb (u v w:Pt):Prop where
 one:X u w=1
 lo:0<=X w v
 hi:X w v < X u v
theorem Fb.uniq {w w':Pt} (h:Fb u v w) (k:Fb u v w'):w=w':=by
 obtain ⟨h1,a1,a2⟩:=h
 obtain ⟨h2,b1,b2⟩:=k
 have e1:w'.1=X w' w * u.1 + w.1/\w'.2=X w' w * u.2 + w.2:=by unfold X at *;constructor<;>grind
 have e2:X w' v=X w' w * X u v + X w v:=by
  have:X w' v=X (X w' w * u.1 + w.1,X w' w * u.2 + w.2) v:=by rw[<- e1.1,<- e1.2]
  rw[this]
  unfold X
  simp only
  grind
 generalize X w' w=k at *
 have k0:k=0:=by
  apply Classical.byContradiction
  intro c
  by_cases p:1<=k
  ·have:1 * X u v<=k * X u v:=Int.mul_le_mul_of_nonneg_right p (by omega)
   omega
  ·have:k * X u v<=(-1) * X u v:=Int.mul_le_mul_of_nonneg_right (by omega) (by omega)
   omega
 rw[k0] at e1
 apply Prod.ext<;>omega
theorem ZqN (h:Wg u v): ∃ w,Fb u v w:=by
 obtain ⟨d,M',_,w,hw⟩:=ZhN (ZbW (M:=[]) (Q:=fun _ _=> ∃ w,Fb u v w) h fun w a b c=>⟨w,a,b,c⟩)
 exact ⟨w,hw⟩
theorem Zog (h:Wg u v) (hw:Fb u v w):wO (F_first_behind [pr u.1 u.2,pr v.1 v.2] M) Q E=Q (pr w.1 w.2) M:=by
 obtain ⟨d,M',e,e1,e2⟩:=ZhN (ZbW (M:=M) (Q:=fun d M'=>d=pr w.1 w.2/\M'=M) h fun w' a b c=>⟨by rw[hw.uniq ⟨a,b,c⟩],rfl⟩)
 rw[e,e1,e2]
 rfl
theorem Zgm {t b:Int} (hb:0<=b) (hl:b<=90000) (q:Q (.ref M.length) (M ++ [.lst (nts (hj t b))])):wO (F_expanded [.int t,.int b] M) Q E:=by
 simp![F_expanded,ZbO]
 refine Zla (fun k ρ M'=> ∃ (t' b':Int) (xs:List Int) (x:Option D),ρ=[some (.int t'),some (.int b'),some (.ref M.length),x]/\M'=M ++ [.lst (nts xs)]/\0<=b'/\b'<=90000/\k=b'.toNat/\xs ++ hj t' b'=hj t b/\xs.length + b'.toNat<=90000) ?_ b.toNat _ _ ⟨t,b,[],_,rfl,rfl,hb,hl,rfl,rfl,by simp;omega⟩
 rintro k ρ M' ⟨t',b',xs,x,rfl,rfl,h0,h1,rfl,e,hx⟩
 simp![Zl]
 refine Zob (fun hl0=> ?_) (fun hl0=> ?_)
 ·have n1:=Zbn (t:=t') (show 0 < b' by omega)
  simp![ZaK]
  refine ⟨by omega,(-(-t' / b') * b' - t').toNat,by omega,_,_,xs ++ [-(-t' / b')],_,rfl,rfl,n1.1,by omega,rfl,?_,by simp;omega⟩
  rw[<- e]
  conv=>rhs;rw[hj,dif_pos (show 0 < b' by omega)]
  simp
 ·subst hl0
  simp![Zl]
  have:hj t' 0=[]:=by rw[hj,dif_neg (by omega)]
  rw[this,List.append_nil] at e
  rw[e]
  exact q
theorem ZqO (h:Wg u v) (hw:Fb u v w) (hl:X u v<=90000) (q:Q (.ref M.length) (M ++ [.lst (nts (hj (X u v) (X w v)))])):wO (F_row [pr u.1 u.2,pr v.1 v.2] M) Q E:=by
 have bv:Bd 1000000 v:=by have:=h.bv;unfold Bd at *;omega
 have hp:=h.pos
 simp![F_row,Zja,ZaC (u:=u) (v:=v) (.inr bv),ZaC (u:=w) (v:=v) (.inr bv),Zog h hw]
 exact Zgm hw.lo (by have:=hw.hi;omega) q
noncomputable def btw:Pt->Pt->List Int->List Pt
 |_,_,[]=>[]
 |a,r,k :: ks=>r :: btw r (k * r.1 - a.1,k * r.2 - a.2) ks
theorem Zh1: ∀ (a r:Pt) (ks:List Int),(btw a r ks).length=ks.length
 |_,_,[]=>rfl
 |a,r,k :: ks=>by rw[btw,List.length_cons,Zh1,List.length_cons]
theorem Zjb: ∀ (n:Nat) (t b:Int),b.toNat=n->0<=b->b < t-> ∀ k∈hj t b,2<=k/\k<=t:=by
 intro n
 induction n using Nat.strongRecOn with
 |ind n ih=>
  intro t b hb h0 ht k hk
  unfold hj at hk
  by_cases h:0 < b
  ·rw[dif_pos h] at hk
   have nx:=Zbn (t:=t) h
   rcases List.mem_cons.mp hk with z | z
   ·rw[z]
    refine ⟨ZhZ h ht,?_⟩
    apply Classical.byContradiction
    intro c
    have:(t + 1) * b<= -((-t) / b) * b:=Int.mul_le_mul_of_nonneg_right (by omega) (by omega)
    have:t * 1<=t * b:=Int.mul_le_mul_of_nonneg_left (by omega) (by omega)
    rw[Int.add_mul] at *
    omega
   ·have:=ih (-((-t) / b) * b - t).toNat (by omega) b _ rfl nx.1 nx.2 k z
    omega
  ·rw[dif_neg h] at hk
   simp at hk
theorem Zh2 (h:Wg u v) (hw:Fb u v w) (hl:X u v<=90000) (q:Q (.ref (M.length + 1)) (M ++ [.lst (nts (hj (X u v) (X w v))),.lst (prs (btw u w (hj (X u v) (X w v))))])):wO (F_between [pr u.1 u.2,pr v.1 v.2] M) Q E:=by
 simp![F_between,Zcj]
 refine ZqO h hw hl ?_
 have sm:=Zjb _ (X u v) (X w v) rfl hw.lo hw.hi
 have ln:=ZjO _ (X u v) (X w v) rfl
 have hi:=hw.hi
 generalize hj (X u v) (X w v)=ks at *
 simp![Zog h hw]
 refine ZdR (fun i ρ M'=> ∃ (a r:Pt) (pre suf:List Int) (dn:List Pt) (x:Option D),ρ=[some (pr u.1 u.2),some (pr v.1 v.2),some (.ref M.length),some (.ref (M.length + 1)),some (pr a.1 a.2),some (pr r.1 r.2),x]/\M'=M ++ [.lst (nts ks),.lst (prs dn)]/\ks=pre ++ suf/\pre.length=i/\btw u w ks=dn ++ btw a r suf/\dn.length=i) (n:=M.length) (xs:=nts ks) (by rw[Zdj];rfl) ⟨u,w,[],ks,[],_,rfl,rfl,rfl,rfl,rfl,rfl⟩ (fun i ρ M' ⟨_,_,_,_,_,_,_,e,_⟩=>by rw[e,Zdj];rfl) ?_ ?_
 ·rintro i ρ M' hi' ⟨a,r,pre,suf,dn,x,rfl,rfl,e1,e2,e3,e4⟩
  rw[Zb4] at hi'
  obtain ⟨k,suf,rfl⟩: ∃ k s,suf=k :: s:=by
   cases suf with
   |nil=>rw[e1] at hi';simp at hi';omega
   |cons k s=>exact ⟨k,s,rfl⟩
  have ek:(nts ks)[i]'(by rw[Zb4];exact hi')= .int k:=by
   subst e1 e2
   simp[nts]
  rw[ek]
  have hk:=sm k (by rw[e1];simp)
  simp![Za0]
  refine ⟨by omega,r,(k * r.1 - a.1,k * r.2 - a.2),pre ++ [k],suf,dn ++ [(r.1,r.2)],_,rfl,rfl,by rw[e1];simp,by simp;omega,?_,by simp;omega⟩
  rw[e3,btw]
  simp
 ·rintro ρ M' ⟨a,r,pre,suf,dn,x,rfl,rfl,e1,e2,e3,e4⟩
  have:suf=[]:=by
   have:=congrArg List.length e1
   rw[Zb4] at e2
   simp at this
   cases suf with
   |nil=>rfl
   |cons _ _=>simp at this;omega
  subst this
  rw[btw,List.append_nil] at e3
  simp![Zl]
  rw[<- e3]
  exact q
end
end CB
end
section
namespace CB
open PySem PySem.Spec L2 DL
section
variable {Q:D->Sto->Prop} {E:Str->Sto->Prop} {M:Sto} {a b c d i:Int} {n m:Nat} {u v w:Pt}
theorem Zlk {ns:List Int} {k:Nat} (hk:k < 1000) (q: ∀ a b:Int,0<=a->Q (.ref M.length) (M ++ [.lst [.int a,.int b]])):wO (F_law_purse [.rol (ns.map D.int),.int k] M) Q E:=by
 have big:Z2 1000000000000000000000000000000000000000000000000000000000000 1000000000000000000000000000000:=Zga 300 300 (by decide +kernel) (by decide +kernel) (by decide) (by decide)
 simp![F_law_purse,Zbk]
 refine brS (fun h1=> ?_) (fun h1=> ?_)
 ·have h2:k < ns.length:=by simpa using h1
  simp![ZiX h2,ZfR big]
  obtain ⟨l,hl,l0⟩: ∃ l:Int,ns[k] % 1000000000000000000000000000000000000000000000000000000000000000000000000000000000000000000=l/\0<=l:=⟨_,rfl,by omega⟩
  rw[hl]
  refine q _ _ ?_
  split<;>omega
 ·simp![ZfR big]
  exact q _ _ (by omega)
theorem ZaI {t:Int} (hb:Bag n M) (ht:0 < t/\t < 18446744073709551616) (q: ∀ r M',0<=r->r < t->Gr n M M'->Q (.int r) M'):wO (F_law_take [.ref n,.int t] M) Q E:=by
 obtain ⟨a,b,ha,e⟩:=hb
 have hl:n < M.length:=Zs e
 have hs: ∀ x,(M.set n x)[n]?=some x:=fun x=>List.getElem?_set_self hl
 have gr: ∀ a' b',0<=a'->Gr n M (M.set n (.lst [.int a',.int b'])):=fun a' b' h=>⟨by simp,⟨a',b',h,hs _⟩,fun k hk _=>by rw[List.getElem?_set_ne (Ne.symm hk)]⟩
 have m1:=Int.emod_nonneg a (show t≠0 by omega)
 have m2:=Int.emod_lt_of_pos a ht.1
 simp![F_law_take,ZbP,e]
 refine brS (fun h1=> ?_) (fun h1=> ?_)
 ·simp![e,ix0]
  exact q _ _ m1 m2 (gr _ _ (Int.ediv_nonneg ha (by omega)))
 ·simp![e,ix1]
  exact q _ _ (Int.emod_nonneg _ (by omega)) (Int.emod_lt_of_pos _ ht.1) (gr _ _ ha)
theorem Ztk (hu:Bd 200 u) (hv:Bd 200 v): -80000<=X u v/\X u v<=80000:=by
 obtain ⟨⟨a1,a2⟩,a3,a4⟩:=hu
 obtain ⟨⟨b1,b2⟩,b3,b4⟩:=hv
 have m: ∀ x y:Int,-200<=x->x<=200-> -200<=y->y<=200->(x * y).natAbs<=200 * 200:=by
  intro x y _ _ _ _
  rw[Int.natAbs_mul]
  exact Nat.mul_le_mul (by omega) (by omega)
 have p1:=m u.1 v.2 a1 a2 b3 b4
 have p2:=m u.2 v.1 a3 a4 b1 b2
 unfold X
 omega
theorem Zdz (h:Bd 1000000 u\/Bd 1000000 v):wO (F_law_crossed [pr u.1 u.2,pr v.1 v.2] M) Q E=Q (.int (X u v)) M:=ZaC h
noncomputable def Ch:List Pt->Prop
 |a :: b :: r=>X a b=1/\Ch (b :: r)
 |_=>True
theorem ZqP: ∀ (n:Nat) (t b:Int) (a r v:Pt),b.toNat=n->0<=b->b < t->X a r=1->X a v=t->X r v=b->Int.gcd v.1 v.2=1->Ch (a :: (btw a r (hj t b) ++ [v])):=by
 intro n
 induction n using Nat.strongRecOn with
 |ind n ih=>
  intro t b a r v hb h0 ht h1 h2 h3 gv
  unfold hj
  by_cases h:0 < b
  ·rw[dif_pos h]
   have nx:=Zbn (t:=t) h
   generalize hk: -((-t) / b)=k at *
   have q:=ih (k * b - t).toNat (by omega) b (k * b - t) r (k * r.1 - a.1,k * r.2 - a.2) v rfl nx.1 nx.2 (by unfold X at *;simp only;grind) h3 (by unfold X at *;simp only;grind) gv
   rw[btw]
   exact ⟨h1,q⟩
  ·rw[dif_neg h,btw]
   have b0:b=0:=by omega
   have e1:v.1=t * r.1/\v.2=t * r.2:=by unfold X at *;constructor<;>grind
   rw[e1.1,e1.2,Int.gcd_mul_left] at gv
   have t1:t.natAbs=1:=Nat.eq_one_of_mul_eq_one_right gv
   refine ⟨by rw[h2];omega,trivial⟩
theorem Zll (h:Wg u v) (hw:Fb u v w):Ch (u :: (btw u w (hj (X u v) (X w v)) ++ [v])):=ZqP _ _ _ u w v rfl hw.lo hw.hi hw.one rfl rfl h.gv
noncomputable def Tr (a b d:Pt):Prop:= ∃ k:Int,2<=k/\a.1 + d.1=k * b.1/\a.2 + d.2=k * b.2
noncomputable def Cv:List Pt->Prop
 |a :: b :: d :: r=>Tr a b d/\Cv (b :: d :: r)
 |_=>True
theorem Zoh: ∀ (n:Nat) (t b:Int) (a r v:Pt),b.toNat=n->0<=b->b < t->X a r=1->X a v=t->X r v=b->Int.gcd v.1 v.2=1->Cv (a :: (btw a r (hj t b) ++ [v]))/\ ∃ rest,btw a r (hj t b) ++ [v]=r :: rest:=by
 intro n
 induction n using Nat.strongRecOn with
 |ind n ih=>
  intro t b a r v hb h0 ht h1 h2 h3 gv
  unfold hj
  by_cases h:0 < b
  ·rw[dif_pos h]
   have nx:=Zbn (t:=t) h
   have k2:=ZhZ h ht
   generalize hk: -((-t) / b)=k at *
   obtain ⟨q,rest,e⟩:=ih (k * b - t).toNat (by omega) b (k * b - t) r (k * r.1 - a.1,k * r.2 - a.2) v rfl nx.1 nx.2 (by unfold X at *;simp only;grind) h3 (by unfold X at *;simp only;grind) gv
   rw[btw]
   refine ⟨?_,_,rfl⟩
   show Cv (a :: r :: (btw r (k * r.1 - a.1,k * r.2 - a.2) (hj b (k * b - t)) ++ [v]))
   rw[e] at q ⊢
   exact ⟨⟨k,k2,by simp only;omega,by simp only;omega⟩,q⟩
  ·rw[dif_neg h,btw]
   have b0:b=0:=by omega
   have e1:v.1=t * r.1/\v.2=t * r.2:=by unfold X at *;constructor<;>grind
   have gv':=gv
   rw[e1.1,e1.2,Int.gcd_mul_left] at gv'
   have t1:t.natAbs=1:=Nat.eq_one_of_mul_eq_one_right gv'
   have tt:t=1:=by omega
   rw[tt] at e1
   have:v=r:=by apply Prod.ext<;>omega
   rw[this]
   exact ⟨trivial,[],rfl⟩
noncomputable def dt (f p:Pt):Int:=f.1 * p.1 + f.2 * p.2
end
section
variable {u v w:Pt}
theorem ZqQ: ∀ (n:Nat) (t b:Int) (a r v:Pt),b.toNat=n->0<=b->b < t->X r v=b->X a v=t-> ∀ x∈btw a r (hj t b),0<=X x v/\X x v<=t:=by
 intro n
 induction n using Nat.strongRecOn with
 |ind n ih=>
  intro t b a r v hb h0 ht h3 h2 x hx
  unfold hj at hx
  by_cases h:0 < b
  ·rw[dif_pos h] at hx
   have nx:=Zbn (t:=t) h
   generalize -((-t) / b)=k at *
   rw[btw] at hx
   rcases List.mem_cons.mp hx with z | z
   ·rw[z,h3];omega
   ·have:=ih (k * b - t).toNat (by omega) b (k * b - t) r (k * r.1 - a.1,k * r.2 - a.2) v rfl nx.1 nx.2 (by unfold X at *;simp only;grind) h3 x z
    omega
  ·rw[dif_neg h,btw] at hx
   simp at hx
theorem ZqR {u:Pt}: ∀ (n:Nat) (t b:Int) (a r v:Pt),b.toNat=n->0<=b->b < t->X a r=1->X a v=t->X r v=b->Int.gcd v.1 v.2=1->0<=X u a->X u a<=X u r->X u r<=X u v/\ ∀ x∈btw a r (hj t b),0<=X u x/\X u x<=X u v:=by
 intro n
 induction n using Nat.strongRecOn with
 |ind n ih=>
  intro t b a r v hb h0 ht h1 h2 h3 gv p1 p2
  unfold hj
  by_cases h:0 < b
  ·rw[dif_pos h]
   have nx:=Zbn (t:=t) h
   have k2:=ZhZ h ht
   generalize -((-t) / b)=k at *
   have e:X u (k * r.1 - a.1,k * r.2 - a.2)=k * X u r - X u a:=by unfold X;simp only;grind
   have m:2 * X u r<=k * X u r:=Int.mul_le_mul_of_nonneg_right k2 (by omega)
   obtain ⟨q1,q2⟩:=ih (k * b - t).toNat (by omega) b (k * b - t) r (k * r.1 - a.1,k * r.2 - a.2) v rfl nx.1 nx.2 (by unfold X at *;simp only;grind) h3 (by unfold X at *;simp only;grind) gv (by omega) (by omega)
   refine ⟨by omega,fun x hx=> ?_⟩
   rw[btw] at hx
   rcases List.mem_cons.mp hx with z | z
   ·rw[z];omega
   ·exact q2 x z
  ·rw[dif_neg h,btw]
   have b0:b=0:=by omega
   have e1:v.1=t * r.1/\v.2=t * r.2:=by unfold X at *;constructor<;>grind
   have gv':=gv
   rw[e1.1,e1.2,Int.gcd_mul_left] at gv'
   have t1:t.natAbs=1:=Nat.eq_one_of_mul_eq_one_right gv'
   have tt:t=1:=by omega
   rw[tt] at e1
   have:v=r:=by apply Prod.ext<;>omega
   rw[this]
   exact ⟨Int.le_refl _,fun x hx=>by simp at hx⟩
end
end CB
end
section
namespace CA
open PySem PySem.Spec L2 DL
end CA
end
section
namespace CA
open PySem PySem.Spec L2 DL
theorem ZoQ {B C x y:Int} (hx: -B<=x/\x<=B) (hy: -C<=y/\y<=C): -(B * C)<=x * y/\x * y<=B * C:=by
 have h:(x * y).natAbs<=(B * C).natAbs:=by
  rw[Int.natAbs_mul,Int.natAbs_mul]
  exact Nat.mul_le_mul (by omega) (by omega)
 have:0<=B * C:=Int.mul_nonneg (by omega) (by omega)
 omega
section
variable {Q:D->Sto->Prop} {E:Str->Sto->Prop} {M:Sto} {a b c d i:Int} {n m:Nat} {rs:List Pt}
theorem ZjP (h:rs≠[]) (i:Int):cy rs.reverse i=cy rs (-1 - i):=by
 have hl:rs.length≠0:=by simpa using h
 have e1:cy rs.reverse i=cy rs.reverse (i % rs.length):=by
  conv=>rhs;rw[<- List.length_reverse (as:=rs),Zdy]
 have e2:cy rs (-1 - i)=cy rs (-1 - i % rs.length):=by
  unfold cy
  congr 2
  rw[Int.sub_emod,Int.sub_emod (-1) (i % rs.length),Int.emod_emod_of_dvd _ (Int.dvd_refl _)]
 rw[e1,e2]
 obtain ⟨a,b⟩:=Za6 (i:=i) hl
 generalize i % (rs.length:Int)=m at *
 rw[Zbb (by rw[List.length_reverse];omega),<- ZcY (rs:=rs),Zbb (by omega)]
 rw[List.getD_eq_getElem?_getD,List.getD_eq_getElem?_getD,List.getElem?_reverse (by omega)]
 congr 2
 omega
theorem Zlm (hl:3<=rs.length) (h: ∀ i:Int,X (cy rs i) (cy rs (i + 1))= -1) (hf:Fan rs.reverse):Smo rs.reverse:=by
 have ne:rs≠[]:=by intro z;rw[z] at hl;simp at hl
 refine ⟨by rw[List.length_reverse];exact hl,fun i=> ?_,hf⟩
 rw[ZjP ne,ZjP ne,ZjN]
 have:=h (-1 - (i + 1))
 rw[show -1 - (i + 1) + 1= -1 - i by omega] at this
 omega
theorem Gr.up {k:Nat} {M M1:Sto} {o:SO} (h:M[k]?=some o) (g:Gr n M M1) (hk:k≠n):M1[k]?=some o:=by
 rw[g.keep k hk (Zs h)]
 exact h
end
end CA
end
section
namespace CY
open PySem PySem.Spec L2 DL CA
end CY
end
section
namespace CY
open PySem PySem.Spec L2 DL
section
variable {Q:D->Sto->Prop} {E:Str->Sto->Prop} {M:Sto} {n m:Nat} {rs:List Pt}
theorem Gr.of {M M':Sto} (hb:Bag n M) (l:M.length<=M'.length) (g: ∀ k,k < M.length->M'[k]?=M[k]?):Gr n M M':=by
 refine ⟨l,?_,fun k _ hk=>g k hk⟩
 obtain ⟨a,b,h,e⟩:=id hb
 exact ⟨a,b,h,(g n hb.lt).trans e⟩
end
end CY
end
section
namespace CR
open PySem PySem.Spec L2 DL
end CR
end
section
namespace CR
open PySem PySem.Spec L2 DL
noncomputable abbrev rt (q:Rat):D:=pr q.num (q.den:Int)
section
variable {Q:D->Sto->Prop} {E:Str->Sto->Prop} {M:Sto} {k l:Nat} {p q:Rat}
end
end CR
end
section
namespace CH
open PySem PySem.Spec L2 DL CA CR
end CH
end
section
namespace CH
open PySem PySem.Spec L2 DL
open CR (rt)
section
variable {Q:D->Sto->Prop} {E:Str->Sto->Prop} {M:Sto} {n:Nat}
end
end CH
end
section
namespace CS
open PySem PySem.Spec L2 DL CC CR
end CS
end
section
namespace CS
open PySem PySem.Spec L2 DL
open CR (rt)
section
variable {Q:D->Sto->Prop} {E:Str->Sto->Prop} {M:Sto} {k l:Nat} {p q:Rat}
end
end CS
end
section
namespace CN
open PySem PySem.Spec L2 DL
open CE (F_numbers)
open CC (F_following)
end CN
end
section
namespace CN
open PySem PySem.Spec L2 DL
open CR (rt)
noncomputable def cq (hs:List Rat) (i:Int):Rat:=hs.getD (i % hs.length).toNat 0
section
variable {Q:D->Sto->Prop} {E:Str->Sto->Prop} {M:Sto} {k l:Nat} {p q:Rat} {n m:Nat} {rs:List Pt} {hs:List Rat} {i:Int}
end
end CN
end
section
namespace CN
open PySem PySem.Spec L2 DL
open CR (rt)
section
variable {Q:D->Sto->Prop} {E:Str->Sto->Prop} {M:Sto} {k l:Nat} {p q:Rat} {n m:Nat} {rs:List Pt} {hs:List Rat} {i:Int}
end
end CN
end
section
namespace CN
open PySem PySem.Spec L2 DL
open CR (rt)
noncomputable def sm (f:Int->Rat):Nat->Rat
 |0=>0
 |n + 1=>sm f n + f n
end CN
end
section
namespace CU
open PySem PySem.Spec L2 DL
open CC (F_ask_smooth)
end CU
end
section
namespace CU
open PySem PySem.Spec L2 DL
open CR (rt)
open CN CS
noncomputable def thr (rs:List Pt) (hs:List Rat):Rat × Rat:=(cq hs 0 * (cy rs 1).2 - cq hs 1 * (cy rs 0).2,cq hs 1 * (cy rs 0).1 - cq hs 0 * (cy rs 1).1)
noncomputable abbrev rp (m:Rat × Rat):D:= .tup [rt m.1,rt m.2]
section
variable {Q:D->Sto->Prop} {E:Str->Sto->Prop} {M:Sto} {k l:Nat} {p q:Rat} {n m o:Nat} {rs:List Pt} {hs xs ys:List Rat} {i:Int}
theorem Zln (h1:M[n]?=some (.lst (prs rs))) {ss:List Pt} (h2:M[m]?=some (.lst (prs ss))):eqF (k + 3) M (.ref n) (.ref m)=some (decide (rs=ss)):=by
 rw[ZpS h1 h2,Znr]
 by_cases e:rs=ss
 ·subst e;simp
 ·rw[decide_eq_false e]
  split<;>rfl
end
end CU
end
section
namespace CV
open PySem PySem.Spec L2 DL
open CR (rt)
open CN CU CS
noncomputable def Kp (M M':Sto):Prop:=M.length<=M'.length/\ ∀ j < M.length,M'[j]?=M[j]?
section
variable {M M' M1 M2:Sto} {o:SO} {j:Nat}
theorem Kp.get (k:Kp M M') (h:M[j]?=some o):M'[j]?=some o:=(k.2 _ (Zs h)).trans h
theorem Kp.refl:Kp M M:=⟨Nat.le_refl _,fun _ _=>rfl⟩
theorem Kp.trans (a:Kp M M1) (b:Kp M1 M2):Kp M M2:=⟨Nat.le_trans a.1 b.1,fun j h=>(b.2 j (Nat.lt_of_lt_of_le h a.1)).trans (a.2 j h)⟩
theorem Kp.app {L:Sto}:Kp M (M ++ L):=⟨by simp,fun j h=>Zbx h⟩
theorem Kp.set (a:Kp M M1) (h:M.length<=j):Kp M (M1.set j o):=⟨by rw[List.length_set];exact a.1,fun i hi=>by rw[List.getElem?_set_ne (by omega)];exact a.2 i hi⟩
theorem Kp.gr {n:Nat} (k:Kp M M') (b:Bag n M):Gr n M M':=CY.Gr.of b k.1 k.2
end
section
variable {Q:D->Sto->Prop} {E:Str->Sto->Prop} {M:Sto} {k l:Nat} {p q:Rat} {n m o:Nat} {rs:List Pt} {hs xs ys zs u v:List Rat} {i:Int} {f:Ev} {ρ:Ro} {mu mv N:Nat}
end
end CV
end
section
namespace CW
open PySem PySem.Spec L2 DL
open CE (F_numbers)
end CW
end
section
namespace CW
open PySem PySem.Spec L2 DL
open CV
section
variable {Q:D->Sto->Prop} {E:Str->Sto->Prop} {M:Sto} {n m:Nat} {rs:List Pt}
end
end CW
end
section
namespace CB
open PySem PySem.Spec L2 DL
theorem mid {a b p w:Pt} (h1:0 < X a p) (h2:0 < X p b) (h:0 < X a b):in1 w a b=in1 w a p + in1 w p b/\in2 w a b=in2 w a p + in2 w p b:=by
 have e:X a b * X p w=X p b * X a w - X a p * X w b:=by unfold X;grind
 have s:=Zfg (p:=w) (q:=p)
 have k1:0<=X a w->0<=X p b * X a w:=fun z=>Int.mul_nonneg (by omega) z
 have k2:0 < X a w->0 < X p b * X a w:=fun z=>Int.mul_pos h2 z
 have k3:X a w<=0->X p b * X a w<=0:=fun z=>Int.mul_nonpos_of_nonneg_of_nonpos (by omega) z
 have k3':X a w < 0->X p b * X a w < 0:=fun z=>Int.mul_neg_of_pos_of_neg h2 z
 have l1:0<=X w b->0<=X a p * X w b:=fun z=>Int.mul_nonneg (by omega) z
 have l2:0 < X w b->0 < X a p * X w b:=fun z=>Int.mul_pos h1 z
 have l3:X w b<=0->X a p * X w b<=0:=fun z=>Int.mul_nonpos_of_nonneg_of_nonpos (by omega) z
 have l3':X w b < 0->X a p * X w b < 0:=fun z=>Int.mul_neg_of_pos_of_neg h1 z
 have m1:0<=X p w->0<=X a b * X p w:=fun z=>Int.mul_nonneg (by omega) z
 have m2:0 < X p w->0 < X a b * X p w:=fun z=>Int.mul_pos h z
 have m3:X p w<=0->X a b * X p w<=0:=fun z=>Int.mul_nonpos_of_nonneg_of_nonpos (by omega) z
 have m3':X p w < 0->X a b * X p w < 0:=fun z=>Int.mul_neg_of_pos_of_neg h z
 unfold in1 in2
 rw[s]
 generalize X a b * X p w=z at *
 generalize X p b * X a w=y at *
 generalize X a p * X w b=x at *
 generalize X a w=aw at *
 generalize X w b=wb at *
 generalize X p w=pw at *
 constructor
 all_goals
  repeat' split
  all_goals omega
noncomputable def Add (f:Pt->Pt->Nat):Prop:= ∀ a b p,0 < X a p->0 < X p b->0 < X a b->f a b=f a p + f p b
theorem Ztl {w:Pt}:Add (in1 w):=fun _ _ _ h1 h2 h=>(mid h1 h2 h).1
theorem Ztm {w:Pt}:Add (in2 w):=fun _ _ _ h1 h2 h=>(mid h1 h2 h).2
theorem Zoi {f:Pt->Pt->Nat} (hf:Add f): ∀ (n:Nat) (t b:Int) (a r v:Pt),b.toNat=n->0<=b->b < t->X a r=1->X a v=t->X r v=b->cc f (a :: (btw a r (hj t b) ++ [v]))=f a v:=by
 intro n
 induction n using Nat.strongRecOn with
 |ind n ih=>
  intro t b a r v hb h0 ht h1 h2 h3
  unfold hj
  by_cases h:0 < b
  ·rw[dif_pos h]
   have nx:=Zbn (t:=t) h
   generalize hk: -((-t) / b)=k at *
   have q:=ih (k * b - t).toNat (by omega) b (k * b - t) r (k * r.1 - a.1,k * r.2 - a.2) v rfl nx.1 nx.2 (by unfold X at *;simp only;grind) h3 (by unfold X at *;simp only;grind)
   rw[btw,List.cons_append,cc,q]
   exact (hf a v r (by omega) (by omega) (by omega)).symm
  ·rw[dif_neg h,btw]
   simp[cc]
noncomputable def nx1 (a b:Pt):Nat:=if X a b=1 then 0 else 1
theorem Zoj: ∀ (l:List Pt),Ch l->cc nx1 l=0
 | [],_=>rfl
 | [_],_=>rfl
 |a :: b :: r,h=>by
  rw[cc,Zoj (b :: r) h.2]
  unfold nx1
  rw[if_pos h.1]
noncomputable def fbv (u v:Pt):Pt:= @dite _ (∃ w,Fb u v w) (Classical.propDecidable _) (fun h=>h.choose) (fun _=>(0,0))
theorem ZdA {u v:Pt} (h:Wg u v):Fb u v (fbv u v):=by
 have e:=ZqN h
 unfold fbv
 rw[dif_pos e]
 exact e.choose_spec
noncomputable def seg (u v:Pt):List Pt:=u :: btw u (fbv u v) (hj (X u v) (X (fbv u v) v))
noncomputable def ZbH:List Pt->List Pt
 |a :: b :: r=>seg a b ++ ZbH (b :: r)
 |_=>[]
noncomputable def Wgs:List Pt->Prop
 |a :: b :: r=>Wg a b/\Wgs (b :: r)
 |_=>True
theorem ZjQ {f:Pt->Pt->Nat} (hf:Add f) {u v:Pt} (h:Wg u v):cc f (seg u v ++ [v])=f u v:=by
 have k:=ZdA h
 exact Zoi hf _ _ _ u _ v rfl k.lo k.hi k.one rfl rfl
theorem Zlo {u v:Pt} (h:Wg u v):cc nx1 (seg u v ++ [v])=0:=Zoj _ (Zll h (ZdA h))
theorem Zh3 {f g:Pt->Pt->Nat} (hs: ∀ u v,Wg u v->cc f (seg u v ++ [v])=g u v): ∀ (L:List Pt) (z:Pt),Wgs (L ++ [z])->cc f (ZbH (L ++ [z]) ++ [z])=cc g (L ++ [z])/\ ∃ r,ZbH (L ++ [z]) ++ [z]=(L ++ [z]).head (by simp) :: r
 | [],z,_=>by simp[ZbH,cc]
 | [a],z,h=>by
  have:=hs a z h.1
  refine ⟨?_,?_⟩
  ·simp only[List.cons_append,List.nil_append,ZbH,List.append_nil,cc]
   rw[this]
   omega
  ·simp[ZbH,seg]
 |a :: b :: L,z,h=>by
  obtain ⟨i1,r,i2⟩:=Zh3 hs (b :: L) z h.2
  have:=hs a b h.1
  simp only[List.cons_append,List.head_cons] at i1 i2
  refine ⟨?_,?_⟩
  ·simp only[List.cons_append,ZbH,List.append_assoc,cc]
   rw[i2,ZbV,this,<- i2,i1]
  ·simp only[List.cons_append,ZbH,seg]
   exact ⟨_,rfl⟩
noncomputable def lrd (rs:List Pt):List Pt:=ZbH (rs ++ rs.take 1)
theorem ZfV: ∀ (L:List Pt),L.length<=(ZbH L).length + 1
 | []=>by simp
 | [_]=>by simp
 |a :: b :: r=>by
  have:=ZfV (b :: r)
  simp only[ZbH,seg,List.length_append,List.length_cons] at *
  omega
theorem Zh4 {a b:Pt} {r:List Pt}: ∃ s,ZbH (a :: b :: r)=a :: s:=⟨_,rfl⟩
theorem Zfl {f g:Pt->Pt->Nat} (hs: ∀ u v,Wg u v->cc f (seg u v ++ [v])=g u v) {a:Pt} {r:List Pt} (hr:r≠[]) (h:Wgs (a :: r ++ [a])):cyc f (lrd (a :: r))=cyc g (a :: r):=by
 have k:=(Zh3 hs (a :: r) a h).1
 have e:lrd (a :: r)=ZbH (a :: r ++ [a]):=by simp[lrd]
 obtain ⟨b,r',rfl⟩:=List.exists_cons_of_ne_nil hr
 obtain ⟨s,hs'⟩:=Zh4 (a:=a) (b:=b) (r:=r' ++ [a])
 have e2:lrd (a :: b :: r')=a :: s:=by rw[e];simpa using hs'
 rw[e2,ZaJ,ZaJ]
 have:a :: (s ++ [a])=ZbH (a :: b :: r' ++ [a]) ++ [a]:=by rw[<- e,e2];simp
 rw[this,k]
 simp
theorem ZqS {rs:List Pt} (hl:rs≠[]) (h:cyc nx1 rs=0) (i:Int):X (cy rs i) (cy rs (i + 1))=1:=by
 have l0:rs.length≠0:=fun z=>hl (List.length_eq_zero_iff.mp z)
 refine Zc0 (P:=fun a b=>X a b=1) l0 ?_ i
 intro i h0 h1
 obtain ⟨k,rfl⟩:=Int.eq_ofNat_of_zero_le h0
 have hk:k < rs.length:=by omega
 obtain ⟨L,a,R,e,hL⟩: ∃ L a R,rs=L ++ a :: R/\L.length=k:=⟨rs.take k,rs[k],rs.drop (k + 1),by rw[List.getElem_cons_drop,List.take_append_drop],by simp;omega⟩
 have ca:cy rs k=a:=by rw[e,<- hL];exact ZhU
 have z: ∀ b R',rs ++ rs.take 1=L ++ a :: b :: R'->X a b=1:=by
  intro b R' e2
  unfold cyc at h
  rw[e2] at h
  have:=Zoe (f:=nx1) (L:=L) (a:=a) (b:=b) (R:=R')
  have n0:nx1 a b=0:=by omega
  unfold nx1 at n0
  split at n0
  ·assumption
  ·omega
 rw[ca]
 cases R with
 |cons b R=>
  have cb:cy rs (k + 1)=b:=by rw[e,<- hL];exact Zlf
  rw[show ((k:Nat):Int) + 1=(k:Int) + 1 from rfl,cb]
  exact z b (R ++ rs.take 1) (by rw[e];simp)
 |nil=>
  obtain ⟨c,t,ht⟩:=List.exists_cons_of_ne_nil hl
  have cb:cy rs (k + 1)=c:=by
   have lt:=congrArg List.length ht
   have le:=congrArg List.length e
   simp at lt le
   have:=Zfh (r:=t) (a:=c)
   rw[ht]
   rw[show ((k:Nat):Int) + 1=(t.length:Int) + 1 by omega]
   exact this
  rw[cb]
  refine z c [] ?_
  have:rs.take 1=[c]:=by rw[ht];rfl
  rw[this,e]
  simp
theorem Zlp {a:Pt} {r:List Pt} (h2:2<=r.length) (h:Wgs (a :: r ++ [a])) (hF:Fan (a :: r)):Smo (lrd (a :: r)):=by
 have hr:r≠[]:=by intro z;rw[z] at h2;simp at h2
 have ll:=ZfV (a :: r ++ [a])
 have e:lrd (a :: r)=ZbH (a :: r ++ [a]):=by simp[lrd]
 have l3:3<=(lrd (a :: r)).length:=by rw[e];simp at ll ⊢;omega
 have ne:lrd (a :: r)≠[]:=by intro z;rw[z] at l3;simp at l3
 refine ⟨l3,?_,?_⟩
 ·refine ZqS ne ?_
  rw[Zfl (f:=nx1) (g:=fun _ _=>0) (fun u v w=>Zlo w) hr h]
  have: ∀ L:List Pt,cc (fun _ _=>0) L=0:=by
   intro L
   induction L with
   |nil=>rfl
   |cons x L ih=>
    cases L with
    |nil=>rfl
    |cons y L=>simp only[cc,ih]
  unfold cyc
  exact this _
 ·intro w hw
  rw[Zfl (fun u v z=>ZjQ Ztl z) hr h,Zfl (fun u v z=>ZjQ Ztm z) hr h]
  exact hF w hw
theorem Zok {f:Pt}: ∀ (r:List Pt) (a b:Pt),Cv (a :: b :: r)->(∀ x∈a :: b :: r,0<=dt f x)->dt f a < dt f b-> ∀ x∈r,dt f b < dt f x
 | [],_,_,_,_,_=>by simp
 |d :: r,a,b,h,hp,hl=>by
  obtain ⟨k,k2,e1,e2⟩:=h.1
  have eq:dt f a + dt f d=k * dt f b:=by
   unfold dt
   have:f.1 * a.1 + f.2 * a.2 + (f.1 * d.1 + f.2 * d.2)=f.1 * (a.1 + d.1) + f.2 * (a.2 + d.2):=by grind
   rw[this,e1,e2]
   grind
  have h0:=hp b (by simp)
  have:2 * dt f b<=k * dt f b:=Int.mul_le_mul_of_nonneg_right k2 h0
  have lt:dt f b < dt f d:=by omega
  intro x hx
  rcases List.mem_cons.mp hx with rfl | hx
  ·exact lt
  ·have:=Zok r b d h.2 (fun y hy=>hp y (by simp[hy])) lt x hx
   omega
theorem Zol {f:Pt} {c:Int}: ∀ (l:List Pt) (a z:Pt),Cv (a :: (l ++ [z]))->(∀ x∈a :: (l ++ [z]),0<=dt f x)->dt f a<=c->dt f z<=c-> ∀ x∈l,dt f x<=c
 | [],_,_,_,_,_,_=>by simp
 |b :: l,a,z,h,hp,ha,hz=>by
  by_cases k:dt f b<=c
  ·intro x hx
   rcases List.mem_cons.mp hx with rfl | hx
   ·exact k
   ·refine Zol l b z ?_ (fun y hy=>hp y (by simp at hy ⊢;simp[hy])) k hz x hx
    cases l with
    |nil=>exact h.2
    |cons d l=>exact h.2
  ·have:=Zok (l ++ [z]) a b h (fun y hy=>hp y (by simpa using hy)) (by omega) z (by simp)
   omega
theorem Zlq {u v w:Pt} (h:Wg u v) (hw:Fb u v w) {B:Int} (hB:0<=B) (hu:Bd B u) (hv:Bd B v): ∀ x∈btw u w (hj (X u v) (X w v)),Bd B x:=by
 intro x hx
 have a1:=fun x hx=>ZqQ _ _ _ u w v rfl hw.lo hw.hi rfl rfl x hx
 have uu:X u u=0:=by unfold X;grind
 have vv:X v v=0:=by unfold X;grind
 have a2:=(ZqR (u:=u) _ _ _ u w v rfl hw.lo hw.hi hw.one rfl rfl h.gv (by omega) (by have:=hw.one;omega)).2
 have cv:=(Zoh _ _ _ u w v rfl hw.lo hw.hi hw.one rfl rfl h.gv).1
 have hp:=h.pos
 have df: ∀ y:Pt,dt (v.2 - u.2,u.1 - v.1) y=X y v + X u y:=by intro y;unfold dt X;simp only;grind
 have le:=Zol (f:=(v.2 - u.2,u.1 - v.1)) (c:=X u v) _ u v cv (by
  intro y hy
  rw[df]
  rcases List.mem_cons.mp hy with rfl | hy
  ·omega
  ·rcases List.mem_append.mp hy with hy | hy
   ·have:=a1 y hy;have:=a2 y hy;omega
   ·simp at hy;subst hy;omega) (by rw[df];omega) (by rw[df];omega) x hx
 rw[df] at le
 have b1:=a1 x hx
 have b2:=a2 x hx
 have e1:X u v * x.1=X x v * u.1 + X u x * v.1:=by unfold X;grind
 have e2:X u v * x.2=X x v * u.2 + X u x * v.2:=by unfold X;grind
 have mb: ∀ y z:Int,-B<=y->y<=B-> -B<=z->z<=B-> -(X u v * B)<=X x v * y + X u x * z/\X x v * y + X u x * z<=X u v * B:=by
  intro y z y0 y1 z0 z1
  have q1:X x v * y<=X x v * B:=Int.mul_le_mul_of_nonneg_left y1 b1.1
  have q2:X u x * z<=X u x * B:=Int.mul_le_mul_of_nonneg_left z1 b2.1
  have q3:X x v * -B<=X x v * y:=Int.mul_le_mul_of_nonneg_left y0 b1.1
  have q4:X u x * -B<=X u x * z:=Int.mul_le_mul_of_nonneg_left z0 b2.1
  have q5:(X x v + X u x) * B<=X u v * B:=Int.mul_le_mul_of_nonneg_right le hB
  rw[Int.add_mul] at q5
  rw[Int.mul_neg] at q3 q4
  omega
 have fin: ∀ y:Int,-(X u v * B)<=X u v * y->X u v * y<=X u v * B-> -B<=y/\y<=B:=by
  intro y h1 h2
  refine ⟨?_,Int.le_of_mul_le_mul_left h2 hp⟩
  rw[<- Int.mul_neg] at h1
  exact Int.le_of_mul_le_mul_left h1 hp
 obtain ⟨⟨u1,u2⟩,u3,u4⟩:=hu
 obtain ⟨⟨v1,v2⟩,v3,v4⟩:=hv
 have m1:=mb u.1 v.1 u1 u2 v1 v2
 have m2:=mb u.2 v.2 u3 u4 v3 v4
 rw[<- e1] at m1
 rw[<- e2] at m2
 exact ⟨fin _ m1.1 m1.2,fin _ m2.1 m2.2⟩
theorem Zfm {B:Int} (hB:0<=B): ∀ (L:List Pt),Wgs L->(∀ x∈L,Bd B x)-> ∀ x∈ZbH L,Bd B x
 | [],_,_=>by simp[ZbH]
 | [_],_,_=>by simp[ZbH]
 |a :: b :: r,h,hb=>by
  intro x hx
  simp only[ZbH,seg] at hx
  rcases List.mem_append.mp hx with hx | hx
  ·rcases List.mem_cons.mp hx with rfl | hx
   ·exact hb x (by simp)
   ·exact Zlq h.1 (ZdA h.1) hB (hb a (by simp)) (hb b (by simp)) x hx
  ·exact Zfm hB (b :: r) h.2 (fun y hy=>hb y (by simp at hy ⊢;simp[hy])) x hx
end CB
end
section
namespace CL
open PySem PySem.Spec L2 DL
open CC (F_following)
open CB (F_between)
noncomputable def Z4:Sv:=(Zn (ZbY (Zer mApp (Zd 1) (Zb (Zd 3) aNil)))
 (ZbY (Zer mExt (Zd 1) (Zb (Zh F_between (Zb (Zd 3) (Zb (Zh F_following (Zb (Zd 0) (Zb (Zd 2) aNil))) aNil))) aNil))))
noncomputable def ZaL:Sv:=(Zn (ZB (gNm 1) (ZbR aNil))
 (Zn (ZcU (gTp (gCs (gNm 2) (gCs (gNm 3) gNl))) (iEn (Zb (Zd 0) aNil)) Z4)
 (Z1 (Zd 1))))
noncomputable def F_least_round:List D->Sto->Out D:=fnF ZaL 1 3
end CL
end
section
namespace CL
open PySem PySem.Spec L2 DL
open CV CB
theorem ZeE: ∀ (L:List Pt) (a b:Pt),ZbH (L ++ [a,b])=ZbH (L ++ [a]) ++ seg a b
 | [],a,b=>by simp[ZbH]
 | [x],a,b=>by simp[ZbH]
 |x :: y :: L,a,b=>by
  have:=ZeE (y :: L) a b
  simp only[List.cons_append,ZbH,List.append_assoc] at this ⊢
  rw[this]
theorem Zh5: ∀ (L:List Pt) {a b:Pt} {R:List Pt},Wgs (L ++ a :: b :: R)->Wg a b
 | [],_,_,_,h=>h.1
 | [x],_,_,_,h=>h.2.1
 |x :: y :: L,_,_,_,h=>Zh5 (y :: L) h.2
theorem Zh6 {u v:Pt} (h:Wg u v) (hl:X u v<=90000):(seg u v).length<=90001:=by
 have k:=ZdA h
 unfold seg
 rw[List.length_cons,Zh1]
 have:=ZjO _ (X u v) (X (fbv u v) v) rfl
 have:=k.hi
 have:=k.lo
 omega
theorem Zh7: ∀ (L:List Pt),Wgs L->(∀ A a b R,L=A ++ a :: b :: R->X a b<=90000)->(ZbH L).length<=90001 * L.length
 | [],_,_=>by simp[ZbH]
 | [_],_,_=>by simp[ZbH]
 |a :: b :: r,h,hx=>by
  have i:=Zh7 (b :: r) h.2 fun A x y R e=>hx (a :: A) x y R (by rw[e];rfl)
  have s:=Zh6 h.1 (hx [] a b r rfl)
  simp only[ZbH,List.length_append,List.length_cons] at *
  omega
section
variable {Q:D->Sto->Prop} {E:Str->Sto->Prop} {M:Sto} {n:Nat}
theorem ZdT {rs:List Pt} (h:M[n]?=some (.lst (prs rs))) (hne:rs≠[]) (hw:Wgs (rs ++ rs.take 1)) (hl:rs.length<=61) (hx: ∀ x∈rs,Bd 200 x) (q: ∀ M',Kp M M'->M'[M.length]?=some (.lst (prs (lrd rs)))->Q (.ref M.length) M'):wO (F_least_round [.ref n] M) Q E:=by
 have hn:=Zs h
 have l0:0 < rs.length:=List.length_pos_iff.mpr hne
 have xl: ∀ A x y R,rs ++ rs.take 1=A ++ x :: y :: R->X x y<=90000:=by
  intro A x y R e
  have m: ∀ z∈rs ++ rs.take 1,Bd 200 z:=fun z hz=>by
   rcases List.mem_append.mp hz with hz | hz
   ·exact hx z hz
   ·exact hx z (List.mem_of_mem_take hz)
  have:=Ztk (m x (by rw[e];simp)) (m y (by rw[e];simp))
  omega
 have ga: ∀ i:Nat,i<=rs.length->(rs ++ rs.take 1)[i]?=some (cy rs i):=by
  intro i hi
  by_cases c:i < rs.length
  ·rw[List.getElem?_append_left c,Zbb (by omega),Zbi (by omega),List.getElem?_eq_getElem c]
   simp
  ·have:i=rs.length:=by omega
   subst this
   rw[List.getElem?_append_right (Nat.le_refl _),Nat.sub_self,<- Zcy,Int.sub_self,Zbb (by omega),Zbi (by omega)]
   rw[List.getElem?_take_of_lt (by decide),List.getElem?_eq_getElem (by omega)]
   simp
 have lch:(rs ++ rs.take 1).length=rs.length + 1:=by simp;omega
 have e:lrd rs=ZbH (rs ++ rs.take 1):=rfl
 rw[e] at q
 generalize rs ++ rs.take 1=ch at *
 have cut: ∀ i:Nat,i < rs.length->ch.take (i + 2)=ch.take i ++ [cy rs i,cy rs (i + 1)]/\ch.take (i + 1)=ch.take i ++ [cy rs i]:=by
  intro i hi
  have g1:=ga i (by omega)
  have g2:=ga (i + 1) (by omega)
  constructor
  ·rw[List.take_add_one,List.take_add_one,g1,g2]
   simp
  ·rw[List.take_add_one,g1]
   simp
 simp![F_least_round,ZaL]
 have K1:Kp M (M ++ [SO.lst []]):=Kp.app
 have r1:(M ++ [SO.lst []])[M.length]?=some (.lst (prs (ZbH (ch.take (0 + 1))))):=by
  rw[Zdj]
  obtain ⟨c,cs,rfl⟩:=List.exists_cons_of_ne_nil (show ch≠[] by intro z;rw[z] at lch;simp at lch)
  simp[ZbH,prs]
 generalize M ++ [SO.lst []]=M1 at *
 have h1:=K1.get h
 refine ZhR (fun i ρ M'=>(∃ x2 x3,ρ=[some (.ref n),some (.ref M.length),x2,x3])/\Kp M M'/\M'[M.length]?=some (.lst (prs (ZbH (ch.take (i + 1)))))) h1 ⟨⟨_,_,rfl⟩,K1,r1⟩ (fun i ρ M' hI=>hI.2.1.get h) ?_ ?_
 ·rintro i ρ M2 hi ⟨⟨x2,x3,rfl⟩,K2,r2⟩
  rw[CC.ZaT hi]
  rw[Zq] at hi
  obtain ⟨c1,c2⟩:=cut i hi
  have hch:ch=ch.take i ++ cy rs i :: cy rs (i + 1) :: ch.drop (i + 2):=by
   have:=List.take_append_drop (i + 2) ch
   rw[c1] at this
   simpa using this.symm
  have hW:Wg (cy rs i) (cy rs (i + 1)):=Zh5 (ch.take i) (R:=ch.drop (i + 2)) (by rw[<- hch];exact hw)
  have hX:X (cy rs i) (cy rs (i + 1))<=90000:=xl (ch.take i) _ _ (ch.drop (i + 2)) hch
  have sl:(ZbH (ch.take (i + 1))).length<=90001 * 62:=by
   have w1:Wgs (ch.take (i + 1)):=by
    have: ∀ (L R:List Pt),Wgs (L ++ R)->Wgs L:=by
     intro L
     induction L with
     |nil=>intro R _;exact trivial
     |cons x L ih=>
      intro R h
      cases L with
      |nil=>exact trivial
      |cons y L=>exact ⟨h.1,ih R h.2⟩
    exact this _ (ch.drop (i + 1)) (by rw[List.take_append_drop];exact hw)
   have:=Zh7 _ w1 (fun A x y R e=>xl A x y (R ++ ch.drop (i + 1)) (by
    have t:=List.take_append_drop (i + 1) ch
    rw[e] at t
    exact t.symm.trans (by simp)))
   have l2:(ch.take (i + 1)).length<=62:=by rw[List.length_take];omega
   have:=Nat.mul_le_mul_left 90001 l2
   omega
  have lr2:=Zs r2
  have fol: ∀ {Q:D->Sto->Prop} {M':Sto},M'[n]?=some (.lst (prs rs))->wO (CC.F_following [.ref n,.int i] M') Q E=Q (pr (cy rs (i + 1)).1 (cy rs (i + 1)).2) M':=fun h'=>CC.Zbj h' (by omega)
  generalize hsg:ZbH (ch.take (i + 1))=sg at *
  simp![Z4,r2,Zq]
  refine ⟨by omega,?_⟩
  have K3:Kp M (M2.set M.length (SO.lst (prs (sg ++ [((cy rs i).1,(cy rs i).2)])))):=K2.set (Nat.le_refl _)
  have r3:(M2.set M.length (SO.lst (prs (sg ++ [((cy rs i).1,(cy rs i).2)]))))[M.length]?=some (.lst (prs (sg ++ [((cy rs i).1,(cy rs i).2)]))):=List.getElem?_set_self lr2
  generalize M2.set M.length (SO.lst (prs (sg ++ [((cy rs i).1,(cy rs i).2)])))=M3 at *
  have lr3:=Zs r3
  rw[fol (K3.get h)]
  simp![Zl]
  refine Zh2 hW (ZdA hW) hX ?_
  have bl:(btw (cy rs i) (fbv (cy rs i) (cy rs (i + 1))) (hj (X (cy rs i) (cy rs (i + 1))) (X (fbv (cy rs i) (cy rs (i + 1))) (cy rs (i + 1))))).length<=90001:=by
   have:=Zh6 hW hX
   unfold seg at this
   rw[List.length_cons] at this
   omega
  simp![r3,Zq]
  refine ⟨by omega,⟨_,_,rfl⟩,(K3.trans Kp.app).set (Nat.le_refl _),?_⟩
  rw[List.getElem?_set_self (by simp;omega),show i + 1 + 1=i + 2 from rfl,c1,ZeE,<- c2,hsg]
  simp[seg]
 ·rintro ρ M2 ⟨⟨x2,x3,rfl⟩,K2,r2⟩
  simp![Zl]
  rw[Zq,List.take_of_length_le (by omega)] at r2
  exact q _ K2 r2
end
end CL
end
section
namespace TW
open DL
noncomputable def nx (b:Int) (p q:Pt):Pt:=(0 - b * q.1 - p.1,0 - b * q.2 - p.2)
noncomputable def ng (p:Pt):Pt:=(0 - p.1,0 - p.2)
noncomputable def run (p q:Pt):List Int->Pt × Pt
 | []=>(p,q)
 |b :: bs=>run q (nx b p q) bs
noncomputable def ew (p q:Pt):Nat:=in1 (1,0) p q + in1 (-1,0) p q
noncomputable def st (a:Pt):Int:=if 0 < a.2\/(a.2=0/\a.1 < 0) then 1 else 0
end TW
end
section
namespace TW
open DL
section
variable {rs:List Pt}
noncomputable def Ztn (rs:List Pt):Int->Nat->List Int
 |_,0=>[]
 |i,k + 1=>T rs (i + 1) :: Ztn rs (i + 1) k
noncomputable def sf (f:Pt->Pt->Nat) (rs:List Pt):Int->Nat->Nat
 |_,0=>0
 |i,k + 1=>f (cy rs i) (cy rs (i + 1)) + sf f rs (i + 1) k
theorem ZqT {f:Pt->Pt->Nat} (hn:rs≠[]): ∀ (k i:Nat),i + k=rs.length->cc f ((rs ++ rs.take 1).drop i)=sf f rs i k:=by
 have l0:0 < rs.length:=List.length_pos_iff.mpr hn
 have ga: ∀ i:Nat,i<=rs.length->(rs ++ rs.take 1)[i]?=some (cy rs i):=by
  intro i hi
  by_cases c:i < rs.length
  ·rw[List.getElem?_append_left c,Zbb (by omega),Zbi (by omega),List.getElem?_eq_getElem c]
   simp
  ·have:i=rs.length:=by omega
   subst this
   rw[List.getElem?_append_right (Nat.le_refl _),Nat.sub_self,<- Zcy,Int.sub_self,Zbb (by omega),Zbi (by omega)]
   rw[List.getElem?_take_of_lt (by decide),List.getElem?_eq_getElem (by omega)]
   simp
 have lch:(rs ++ rs.take 1).length=rs.length + 1:=by simp;omega
 have dr: ∀ i:Nat,i<=rs.length->(rs ++ rs.take 1).drop i=cy rs i :: (rs ++ rs.take 1).drop (i + 1):=by
  intro i hi
  rw[List.drop_eq_getElem_cons (by omega)]
  have:=ga i hi
  rw[List.getElem?_eq_getElem (by omega)] at this
  rw[Option.some.inj this]
 intro k
 induction k with
 |zero=>
  intro i hi
  rw[dr i (by omega),List.drop_eq_nil_of_le (by omega)]
  rfl
 |succ k ih=>
  intro i hi
  have:=ih (i + 1) (by omega)
  rw[dr i (by omega)]
  rw[dr (i + 1) (by omega)] at this ⊢
  rw[cc,this,sf]
  rfl
theorem Zh8 {f:Pt->Pt->Nat} (hn:rs≠[]):cyc f rs=sf f rs 0 rs.length:=by
 have:=ZqT (f:=f) hn rs.length 0 (by omega)
 exact this
end
end TW
end
section
end
section
namespace CT
open PySem PySem.Spec L2 DL
end CT
end
section
namespace CT
open PySem PySem.Spec L2 DL
open CV TW
noncomputable def rl0 (p q:Pt):List Int->List Pt
 | []=>[]
 |b :: bs=>p :: rl0 q (nx b p q) bs
noncomputable def rl (p q:Pt) (bs:List Int):List Pt:=rl0 p q bs ++ [(run p q bs).1,(run p q bs).2]
noncomputable def Sm (L:List Int):Prop:= ∀ b∈L,-(1152921504606846976)<=b/\b<=1152921504606846976
section
variable {Q:D->Sto->Prop} {E:Str->Sto->Prop} {M:Sto} {n m:Nat} {L:List Int}
noncomputable def Zom (L:List Int):Prop:= ∀ b∈L,-1000000<=b/\b<=1000000
theorem Zom.sm (h:Zom L):Sm L:=fun b hb=>by have:=h b hb;omega
noncomputable def Cl (L:List Int):Prop:=run (1,0) (0,1) L=((1,0),(0,1))
noncomputable instance (L:List Int):Decidable (Cl L):=by unfold Cl;infer_instance
end
end CT
end
section
namespace CT
open PySem PySem.Spec L2 DL
open CV
open TW (nx)
section
variable {Q:D->Sto->Prop} {E:Str->Sto->Prop} {M:Sto} {n m:Nat} {L:List Int}
end
end CT
end
section
namespace DL
open CB (mid Wg Wgs Bd)
section
variable {rs:List Pt} {k:Nat}
theorem Zjc {f:Pt->Pt->Nat} (hl:rs≠[]) (h:cyc f rs=0) (i:Int):f (cy rs i) (cy rs (i + 1))=0:=by
 have l0:rs.length≠0:=fun z=>hl (List.length_eq_zero_iff.mp z)
 refine Zc0 (P:=fun a b=>f a b=0) l0 ?_ i
 intro i h0 h1
 rw[TW.Zh8 hl] at h
 have: ∀ (k:Nat) (j:Int),TW.sf f rs j k=0-> ∀ m:Nat,m < k->f (cy rs (j + m)) (cy rs (j + m + 1))=0:=by
  intro k
  induction k with
  |zero=>intro j _ m hm;omega
  |succ k ih=>
   intro j h m hm
   rw[TW.sf] at h
   cases m with
   |zero=>
    rw[show j + ((0:Nat):Int)=j by omega]
    omega
   |succ m=>
    have:=ih (j + 1) (by omega) m (by omega)
    rw[show j + ((m + 1:Nat):Int)=j + 1 + m by omega]
    exact this
 have:=this rs.length 0 h i.toNat (by omega)
 rw[show (0:Int) + (i.toNat:Nat)=i by omega] at this
 exact this
theorem Zfn {f:Pt->Pt->Nat} (hl:rs≠[]) (h: ∀ i:Int,f (cy rs i) (cy rs (i + 1))=0):cyc f rs=0:=by
 rw[TW.Zh8 hl]
 have: ∀ (k:Nat) (j:Int),TW.sf f rs j k=0:=by
  intro k
  induction k with
  |zero=>intro j;rfl
  |succ k ih=>intro j;rw[TW.sf,h,ih]
 exact this _ _
theorem Zfo {f:Pt->Pt->Nat} (hk:k < rs.length) (h3:3<=rs.length) (hf:f (cy rs (k - 1)) (cy rs (k + 1))=f (cy rs (k - 1)) (cy rs k) + f (cy rs k) (cy rs (k + 1))):cyc f (del rs k)=cyc f rs:=by
 obtain ⟨L,p,R,e,hl⟩: ∃ L a R,rs=L ++ a :: R/\L.length=k:=⟨rs.take k,rs[k],rs.drop (k + 1),by rw[List.getElem_cons_drop,List.take_append_drop],by simp;omega⟩
 have ed:DL.del rs k=L ++ R:=by
  unfold DL.del
  rw[e,<- hl,List.take_append,List.drop_append,List.take_of_length_le (by omega),List.drop_eq_nil_of_le (by omega)]
  simp
 have lr:(R ++ L).length=rs.length - 1:=by rw[e];simp;omega
 obtain ⟨b,Y,a,hY⟩: ∃ b Y a,R ++ L=b :: (Y ++ [a]):=by
  match hRL:R ++ L,lr with
  | [],lr=>simp at lr;omega
  |b :: r,lr=>
   have:r≠[]:=by intro z;rw[z] at lr;simp at lr;omega
   exact ⟨b,r.dropLast,r.getLast this,by rw[List.dropLast_concat_getLast]⟩
 have er:rs.drop k ++ rs.take k=p :: (R ++ L):=by
  rw[e,<- hl,List.take_append,List.drop_append,List.take_of_length_le (by omega),List.drop_eq_nil_of_le (by omega)]
  simp
 have c0:cy rs k=p:=by rw[e,<- hl];exact ZhU
 have cb:cy rs (k + 1)=b:=by
  have:=ZcZ (rs:=rs) (k:=k) (i:=1) (by omega)
  rw[er,hY] at this
  rw[show (k:Int) + 1=1 + k by omega,<- this]
  exact Zlf (L:=[]) (a:=p) (b:=b)
 have ca:cy rs (k - 1)=a:=by
  have:=ZcZ (rs:=rs) (k:=k) (i:= -1) (by omega)
  rw[er,hY] at this
  rw[show (k:Int) - 1= -1 + k by omega,<- this,<- ZcY]
  have:=ZhU (L:=p :: b :: Y) (a:=a) (R:=[])
  rw[show (-1:Int) + ((p :: b :: (Y ++ [a])).length:Nat)=((p :: b :: Y).length:Nat) by simp;omega]
  simpa using this
 rw[c0,ca,cb] at hf
 rw[ed,Zli (p:=p) hY hf,<- e]
noncomputable def nxp (a b:Pt):Nat:=if 0 < X a b then 0 else 1
theorem Zon {a b:Pt} (h:nxp a b=0):0 < X a b:=by
 unfold nxp at h
 split at h
 ·assumption
 ·omega
theorem ZfW {a b:Pt} (h:0 < X a b):nxp a b=0:=by unfold nxp;rw[if_pos h]
structure Rn (rs:List Pt):Prop where
 len:3<=rs.length
 ps:cyc nxp rs=0
 gc: ∀ p∈rs,Int.gcd p.1 p.2=1
 fan:Fan rs
theorem Rn.ne (h:Rn rs):rs≠[]:=by
 intro z
 have:=h.len
 rw[z] at this
 simp at this
theorem Rn.pos (h:Rn rs) (i:Int):0 < X (cy rs i) (cy rs (i + 1)):=Zon (Zjc h.ne h.ps i)
theorem ZqU {a b:Pt} (h:X a b=1):Int.gcd a.1 a.2=1/\Int.gcd b.1 b.2=1:=by
 unfold X at h
 constructor
 ·have d1:((Int.gcd a.1 a.2:Nat):Int) ∣ a.1 * b.2 - a.2 * b.1:=Int.dvd_sub (Int.dvd_mul_of_dvd_left (Int.gcd_dvd_left _ _)) (Int.dvd_mul_of_dvd_left (Int.gcd_dvd_right _ _))
  rw[h] at d1
  exact Nat.eq_one_of_dvd_one (Int.natCast_dvd_natCast.mp d1)
 ·have d1:((Int.gcd b.1 b.2:Nat):Int) ∣ a.1 * b.2 - a.2 * b.1:=Int.dvd_sub (Int.dvd_mul_of_dvd_right (Int.gcd_dvd_right _ _)) (Int.dvd_mul_of_dvd_right (Int.gcd_dvd_left _ _))
  rw[h] at d1
  exact Nat.eq_one_of_dvd_one (Int.natCast_dvd_natCast.mp d1)
theorem ZjR {p:Pt} (h:p∈rs): ∃ i:Int,p=cy rs i:=by
 obtain ⟨L,R,rfl⟩:=List.append_of_mem h
 exact ⟨L.length,ZhU.symm⟩
theorem Smo.rn (h:Smo rs):Rn rs:=by
 refine ⟨h.len,Zfn h.ne fun i=>ZfW (by rw[h.one i];decide),fun p hp=> ?_,h.fan⟩
 obtain ⟨i,rfl⟩:=ZjR hp
 exact (ZqU (h.one i)).1
theorem Rn.del (h:Rn rs) (hk:k < rs.length) (h4:4<=rs.length) (hx:0 < X (cy rs (k - 1)) (cy rs (k + 1))):Rn (DL.del rs k):=by
 have p1:=h.pos (k - 1)
 rw[show (k:Int) - 1 + 1=k by omega] at p1
 have p2:=h.pos k
 refine ⟨by rw[Zc3 hk];omega,?_,?_,?_⟩
 ·rw[Zfo hk (by omega) (by rw[ZfW hx,ZfW p1,ZfW p2])]
  exact h.ps
 ·intro p hp
  unfold DL.del at hp
  rcases List.mem_append.mp hp with hp | hp
  ·exact h.gc p (List.mem_of_mem_take hp)
  ·exact h.gc p (List.mem_of_mem_drop hp)
 ·intro v hv
  rw[Zfo hk (by omega) (mid p1 p2 hx).1,Zfo hk (by omega) (mid p1 p2 hx).2]
  exact h.fan v hv
theorem Rn.wgs (h:Rn rs) (hb:Nr 200 rs):Wgs (rs ++ rs.take 1):=by
 have key: ∀ (L:List Pt),(∀ A a b R,L=A ++ a :: b :: R->0 < X a b)->(∀ p∈L,Int.gcd p.1 p.2=1/\Bd 1000 p)->Wgs L:=by
  intro L
  induction L with
  |nil=>intro _ _;exact trivial
  |cons a L ih=>
   intro hp hg
   cases L with
   |nil=>exact trivial
   |cons b L=>
    refine ⟨⟨(hg a (by simp)).1,(hg b (by simp)).1,(hg a (by simp)).2,(hg b (by simp)).2,hp [] a b L rfl⟩,ih (fun A x y R e=>hp (a :: A) x y R (by rw[e];rfl)) fun p hp'=>hg p (by simp at hp' ⊢;simp[hp'])⟩
 refine key _ ?_ ?_
 ·intro A a b R e
  have hz:=h.ps
  unfold cyc at hz
  rw[e] at hz
  have:=Zoe (f:=nxp) (L:=A) (a:=a) (b:=b) (R:=R)
  exact Zon (by omega)
 ·intro p hp
  have hp':p∈rs:=by
   rcases List.mem_append.mp hp with hp | hp
   ·exact hp
   ·exact List.mem_of_mem_take hp
  have:=hb p hp'
  exact ⟨h.gc p hp',by unfold Bd;omega⟩
theorem Rn.least (h:Rn rs) (hb:Nr 200 rs):Smo (CB.lrd rs):=by
 obtain ⟨a,r,rfl⟩:=List.exists_cons_of_ne_nil h.ne
 exact CB.Zlp (by have:=h.len;simp at this;omega) (by have:=h.wgs hb;simpa using this) h.fan
end
end DL
end
section
end
section
namespace DL
open TW
open CT (rl0 Cl)
section
variable {rs us:List Pt}
theorem Zoo {f:Pt->Pt->Nat}: ∀ (k:Nat) (j:Int) (m:Nat),m < k->f (cy rs (j + m)) (cy rs (j + m + 1))<=sf f rs j k
 |0,_,_,h=>absurd h (Nat.not_lt_zero _)
 |k + 1,j,0,_=>by rw[sf];simp
 |k + 1,j,m + 1,h=>by
  have:=Zoo (f:=f) k (j + 1) m (by omega)
  rw[sf,show j + ((m + 1:Nat):Int)=j + 1 + m by omega]
  omega
theorem ZjS {f:Pt->Pt->Nat}: ∀ (k:Nat) (j:Int) (m l:Nat),m < l->l < k->f (cy rs (j + m)) (cy rs (j + m + 1)) + f (cy rs (j + l)) (cy rs (j + l + 1))<=sf f rs j k
 |0,_,_,_,_,h=>absurd h (Nat.not_lt_zero _)
 |k + 1,j,0,l + 1,_,h=>by
  have:=Zoo (f:=f) (rs:=rs) k (j + 1) l (by omega)
  rw[sf,show j + ((l + 1:Nat):Int)=j + 1 + l by omega]
  simp
  omega
 |k + 1,j,m + 1,l + 1,h1,h=>by
  have:=ZjS (f:=f) k (j + 1) m l (by omega) (by omega)
  rw[sf,show j + ((m + 1:Nat):Int)=j + 1 + m by omega,show j + ((l + 1:Nat):Int)=j + 1 + l by omega]
  omega
theorem Rn.lt_ne (h:Rn rs) {i j:Nat} (hij:i < j) (hj:j < rs.length):cy rs i≠cy rs j:=by
 intro e
 have p1:=h.pos i
 have p2:=h.pos j
 have w0:cy rs i≠(0,0):=by
  intro z
  rw[z] at p1
  unfold X at p1
  simp at p1
 have:=(h.fan (cy rs i) w0).1
 rw[Zh8 h.ne] at this
 have g:=ZjS (f:=in1 (cy rs i)) (rs:=rs) rs.length 0 i j hij hj
 rw[show (0:Int) + i=i by omega,show (0:Int) + j=j by omega] at g
 rw[ZhW (by rw[XX];omega) p1,ZhW (by rw[e,XX];omega) (by rw[e];exact p2)] at g
 omega
theorem Rn.inj (h:Rn rs) {i j:Nat} (hi:i < rs.length) (hj:j < rs.length) (e:cy rs i=cy rs j):i=j:=by
 rcases Nat.lt_trichotomy i j with c | c | c
 ·exact absurd e (h.lt_ne c hj)
 ·exact c
 ·exact absurd e.symm (h.lt_ne c hi)
theorem Zfp:(List.range us.length).map (fun (j:Nat)=>cy us j)=us:=by
 apply List.ext_getElem
 ·simp
 ·intro i h1 h2
  simp[Zez h2]
noncomputable abbrev sw (p:Pt):Pt:=(p.2,p.1)
theorem Zr3 {p q:Pt}:X (sw p) (sw q)= -1 * X p q:=by unfold X sw;simp only;grind
end
end DL
end
section
namespace CB
open DL
section
variable {u v w:Pt}
noncomputable def kl:List Pt->List Int
 |a :: b :: d :: r=>X a d :: kl (b :: d :: r)
 |_=>[]
theorem Xvv (p:Pt):X p p=0:=by unfold X;grind
theorem ZqV: ∀ (r:List Pt) (a b:Pt) (v:Pt),Ch (a :: b :: r)->Cv (a :: b :: r)->(b :: r).getLast (by simp)=v->0<=X b v/\X b v < X a v
 | [],a,b,v,h,_,e=>by
  have:b=v:=e
  subst this
  rw[Xvv,h.1]
  omega
 |c :: r,a,b,v,h,k,e=>by
  have ih:=ZqV r b c v h.2 k.2 (by rw[<- e];simp[List.getLast_cons])
  obtain ⟨m,m2,e1,e2⟩:=k.1
  have ex:X a v + X c v=m * X b v:=by unfold X;grind
  have:2 * X b v<=m * X b v:=Int.mul_le_mul_of_nonneg_right m2 (by omega)
  omega
theorem Zlr {t b k c:Int} (hb:0 < b) (h0:0<=c) (h1:c < b) (e:t + c=k * b): -((-t) / b)=k:=by
 have: -t=c + b * (-k):=by grind
 rw[this,Int.add_mul_ediv_left _ _ (by omega),Int.ediv_eq_zero_of_lt h0 h1]
 omega
theorem only: ∀ (ws:List Pt) (u v w:Pt),Ch (u :: (ws ++ [v]))->Cv (u :: (ws ++ [v]))->Fb u v w->ws=btw u w (hj (X u v) (X w v))/\kl (u :: (ws ++ [v]))=hj (X u v) (X w v)
 | [],u,v,w,h,k,f=>by
  have h1:X u v=1:=h.1
  have l:=f.lo
  have l2:=f.hi
  have w0:X w v=0:=by omega
  rw[w0]
  unfold hj
  rw[dif_neg (by decide)]
  exact ⟨rfl,rfl⟩
 |x :: ws,u,v,w,h,k,f=>by
  have hl:(x :: (ws ++ [v])).getLast (by simp)=v:=by simp[List.getLast_cons]
  have d:=ZqV (ws ++ [v]) u x v h k hl
  have fx:Fb u v x:=⟨h.1,d.1,d.2⟩
  have ew:=fx.uniq f
  subst ew
  obtain ⟨y,R,eR⟩: ∃ y R,ws ++ [v]=y :: R:=by
   cases ws with
   |nil=>exact ⟨v,[],rfl⟩
   |cons y R=>exact ⟨y,R ++ [v],rfl⟩
  have h':Ch (x :: y :: R):=by rw[<- eR];exact h.2
  have kk:Cv (u :: x :: y :: R):=by rw[<- eR];exact k
  have hl2:(y :: R).getLast (by simp)=v:=by
   have:(ws ++ [v]).getLast (by simp)=v:=by simp
   simpa [eR] using this
  have d2:=ZqV R x y v h' kk.2 hl2
  obtain ⟨m,m2,e1,e2⟩:=kk.1
  have ex:X u v + X y v=m * X x v:=by unfold X;grind
  have hc:=Zlr (by omega) d2.1 d2.2 ex
  have ey:(m * x.1 - u.1,m * x.2 - u.2)=y:=by apply Prod.ext<;>simp only<;>omega
  have m3:X u y=m:=by
   have:=h.1
   rw[<- ey]
   unfold X at *
   simp only
   grind
  have fy:Fb x v y:=⟨h'.1,d2.1,d2.2⟩
  have ih:=only ws x v y (by rw[eR];exact h') (by rw[eR];exact kk.2) fy
  have ej:hj (X u v) (X x v)=m :: hj (X x v) (X y v):=by
   rw[hj,dif_pos (by omega),hc]
   congr 2
   omega
  rw[ej]
  constructor
  ·rw[btw,ey,<- ih.1]
  ·show kl (u :: x :: (ws ++ [v]))=_
   rw[eR,kl,m3,<- eR,ih.2]
end
end CB
end
section
namespace CD
open PySem PySem.Spec L2 DL
open CB (F_law_take)
open CC (F_ask_smooth)
end CD
end
section
namespace CD
open PySem PySem.Spec L2 DL
open CV
open CB (Bd)
open CR (rt)
section
variable {Q:D->Sto->Prop} {E:Str->Sto->Prop} {M:Sto} {n m p:Nat} {rs:List Pt} {a b c d:Int} {ρ:Ro} {k:Nat} {xs:List D} {tg:Tg} {f:Ev}
theorem Zop {fr:List Nat} (I:Ro->Prop) (F:Nat->D) (hM:M[n]?=some (.lst xs)) (hl:xs.length < 10000000) (h0:I (roB k fr ρ))
  (st: ∀ (i:Nat) (h:i < xs.length) (ρ:Ro) (M':Sto),Kp M M'->I ρ->wG (tg xs[i] ρ) fun r=>I r/\wO (f r M') (fun y M2=>y=F i/\Kp M' M2) (fun _ _=>False))
  (hq: ∀ M',Kp M M'->M'[M.length]?=some (.lst ((List.range xs.length).map F))->Q (.ref M.length) M'):
  kCo tg (fun _ M=> .ok true M) f k fr ρ Q (.sto n) M:=by
 refine ZjG (xs:=xs) (Q:=fun M2=>Q (.ref M.length) M2) (fun i ρ M'=>I ρ/\Kp M M'/\M'[M.length]?=some (.lst ((List.range i).map F))) _ 0 _ _ (by simp) (by rw[Zfd hM];omega) ⟨h0,Kp.app,by simp⟩ (fun i ρ M' hi hI=>by rw[ZeA];exact hI.2.1.get hM) ?_ (fun ρ M' hI=>hq M' hI.2.1 hI.2.2)
 rintro i ρ M' hi ⟨hI,K,r⟩
 have s:=st i hi ρ M' K hI
 cases e:tg xs[i] ρ with
 |none=>rw[e] at s;exact s.elim
 |some r'=>
  rw[e] at s
  obtain ⟨hr,s⟩:=s
  show Br true _ _
  rw[ZoN]
  refine ZcX s (fun y M2 ⟨h1,h2⟩=> ?_) (fun _ _ z=>z)
  subst h1
  rw[h2.get r]
  have hl2:=Zs (h2.get r)
  refine ⟨by simp;omega,hr,(K.trans h2).set (Nat.le_refl _),?_⟩
  rw[List.getElem?_set_self hl2,List.range_succ,List.map_append]
  rfl
theorem ZeF {L:List Int} (h:L≠[]): ∃ mx,L.max?=some mx/\ ∀ x∈L,x<=mx:=by
 cases e:L.max? with
 |none=>exact absurd (List.max?_eq_none_iff.mp e) h
 |some mx=>exact ⟨mx,rfl,fun x hx=>(List.max?_eq_some_iff.mp e).2 x hx⟩
theorem Zbc: ∀ {L:List Int},ZbT (nts L)=some L
 | []=>rfl
 |x :: L=>by
  have:=Zbc (L:=L)
  show (match ZbT (nts L) with | some ns=>some (x :: ns) | none=>none)=_
  rw[this]
noncomputable abbrev tb (a b c d:Int):SO:= .lst [.int a,.int b,.int c,.int d]
end
end CD
end
section
namespace CD
open PySem PySem.Spec L2 DL
open CV
open CB (Bd)
open CR (rt)
noncomputable def gg (a b c d:Int) (p:Pt):Pt:=(a * p.1 + b * p.2,c * p.1 + d * p.2)
theorem ZjT {a b c d:Int} (u v:Pt):X (gg a b c d u) (gg a b c d v)=(a * d - b * c) * X u v:=by unfold X gg;simp only;grind
noncomputable def sg {α:Type} (neg:Bool) (k:Nat) (L:List α):List α:=(if neg then L.reverse else L).drop k ++ (if neg then L.reverse else L).take k
section
variable {Q:D->Sto->Prop} {E:Str->Sto->Prop} {M:Sto} {n m p:Nat} {rs:List Pt} {a b c d:Int} {ρ:Ro} {k:Nat} {xs:List D} {tg:Tg} {f:Ev}
end
end CD
end
section
end
section
end
section
end
section
end
section
end
section
end
section
end
section
end
section
end
section
namespace CQ
open PySem PySem.Spec L2 DL
open CB (F_law_take F_law_crossed F_law_short)
noncomputable def Zaw:Sv:=(Z1 (Zh (Ze9 List.max?) (Zb (ZaW (iSq (Zd 0)) 1 [] (gNm 0) (fun _ M=> .ok true M) (Zh bMax (Zb (Zh bAbs (Zb (e2 dIx (Zd 0) (eC (.int 0))) aNil)) (Zb (Zh bAbs (Zb (e2 dIx (Zd 0) (eC (.int 1))) aNil)) aNil)))) aNil)))
noncomputable def F_law_greatest:List D->Sto->Out D:=fnF Zaw 1 0
noncomputable def Za1:Sv:=(Zn (ZB (gNm 3) (e2 dMod (e2 dAdd (Zd 1) (Zd 2)) (Zh bLen (Zb (Zd 0) aNil))))
 (Zn (ZB (gNm 4) (e2 dIx (Zd 0) (e2 dMod (e2 dAdd (Zd 3) (eC (.int 1))) (Zh bLen (Zb (Zd 0) aNil)))))
 (Zn (ZB (gNm 5) (Z5 (Zb (e2 dAdd (e2 dIx (e2 dIx (Zd 0) (Zd 3)) (eC (.int 0))) (e2 dIx (Zd 4) (eC (.int 0)))) (Zb (e2 dAdd (e2 dIx (e2 dIx (Zd 0) (Zd 3)) (eC (.int 1))) (e2 dIx (Zd 4) (eC (.int 1)))) aNil))))
 (sIf (tv (e2 dLt (Zh bMax (Zb (Zh bAbs (Zb (e2 dIx (Zd 5) (eC (.int 0))) aNil)) (Zb (Zh bAbs (Zb (e2 dIx (Zd 5) (eC (.int 1))) aNil)) aNil))) (eC (.int 60)))) (Z1 (e2 dAdd (e2 dAdd (eSl (Zd 0) oNo (oSo (e2 dAdd (Zd 3) (eC (.int 1))))) (ZbR (Zb (Zd 5) aNil))) (eSl (Zd 0) (oSo (e2 dAdd (Zd 3) (eC (.int 1)))) oNo))) sNil))))
noncomputable def Zck:Sv:=(Zn (Zbt (gNm 2) (Zb (Zh bLen (Zb (Zd 0) aNil)) aNil) Za1)
 (Z1 (Zd 0)))
noncomputable def F_law_put:List D->Sto->Out D:=fnF Zck 2 4
noncomputable def ZaM:Sv:=(Zn (ZB (gNm 3) (ZaW (iSq (Zd 0)) 2 [1,2] (gTp (gCs (gNm 0) (gCs (gNm 1) gNl))) (fun _ M=> .ok true M) (e2 dIx (ZbR (Zb (Z5 (Zb (e2 dAdd (Zd 0) (e2 dMul (Zd 2) (Zd 1))) (Zb (Zd 1) aNil))) (Zb (Z5 (Zb (Zd 0) (Zb (e2 dAdd (Zd 1) (e2 dMul (Zd 2) (Zd 0))) aNil))) aNil))) (Zd 3))))
 (Zn (sIf (tv (e2 dGt (Zh F_law_greatest (Zb (Zd 3) aNil)) (eC (.int 200)))) (Z1 (Zd 0)) sNil)
 (Z1 (Zd 3))))
noncomputable def F_law_sheared:List D->Sto->Out D:=fnF ZaM 3 1
noncomputable def Zag:Sv:=(ZB (gNm 3) (Zh F_law_put (Zb (Zd 3) (Zb (Zh F_law_take (Zb (Zd 0) (Zb (Zh bLen (Zb (Zd 3) aNil)) aNil))) aNil))))
noncomputable def Zah:Sv:=(Zn (ZB (gNm 7) (e2 dSub (Zh F_law_take (Zb (Zd 0) (Zb (Zd 6) aNil))) (e2 dDiv (Zd 6) (eC (.int 2)))))
 (ZB (gNm 3) (Zh F_law_sheared (Zb (Zd 3) (Zb (Zd 7) (Zb (Zh F_law_take (Zb (Zd 0) (Zb (eC (.int 2)) aNil))) aNil))))))
noncomputable def Za2:Sv:=(Zn (ZB (gNm 2) (Zh F_law_take (Zb (Zd 0) (Zb (eC (.int 7)) aNil))))
 (Zn (ZB (gNm 3) (e2 dIx (ZbR (Zb (ZbR (Zb (Z5 (Zb (eC (.int 1)) (Zb (eC (.int 0)) aNil))) (Zb (Z5 (Zb (eC (.int 0)) (Zb (eC (.int 1)) aNil))) (Zb (Z5 (Zb (Zdf (eC (.int 1))) (Zb (Zdf (eC (.int 1))) aNil))) aNil)))) (Zb (ZbR (Zb (Z5 (Zb (eC (.int 1)) (Zb (eC (.int 0)) aNil))) (Zb (Z5 (Zb (eC (.int 0)) (Zb (eC (.int 1)) aNil))) (Zb (Z5 (Zb (Zdf (eC (.int 1))) (Zb (e2 dSub (Zd 2) (eC (.int 1))) aNil))) (Zb (Z5 (Zb (eC (.int 0)) (Zb (Zdf (eC (.int 1))) aNil))) aNil))))) aNil))) (Zh bInt (Zb (e2 dGt (Zd 2) (eC (.int 0))) aNil))))
 (Zn (ZB (gNm 4) (e2 dIx (ZbR (Zb (e2 dAdd (eC (.int 3)) (Zh F_law_take (Zb (Zd 0) (Zb (e2 dSub (Zd 1) (eC (.int 2))) aNil)))) (Zb (Zd 1) aNil))) (Zh bInt (Zb (e2 dEq (Zh F_law_take (Zb (Zd 0) (Zb (eC (.int 6)) aNil))) (eC (.int 3))) aNil))))
 (Zn (Zbt (gNm 5) (Zb (e2 dSub (Zd 4) (Zh bLen (Zb (Zd 3) aNil))) aNil) Zag)
 (Zn (ZB (gNm 6) (e2 dIx (ZbR (Zb (eC (.int 3)) (Zb (eC (.int 41)) aNil))) (Zh bInt (Zb (e2 dEq (Zh F_law_take (Zb (Zd 0) (Zb (eC (.int 8)) aNil))) (eC (.int 5))) aNil))))
 (Zn (Zbt (gNm 5) (Zb (Zh F_law_take (Zb (Zd 0) (Zb (eC (.int 4)) aNil))) aNil) Zah)
 (Zn (sIf (tv (e2 dEq (Zh F_law_take (Zb (Zd 0) (Zb (eC (.int 4)) aNil))) (eC (.int 0)))) (ZB (gNm 3) (ZaW (iRv (Zb (Zd 3) aNil)) 2 [] (gTp (gCs (gNm 0) (gCs (gNm 1) gNl))) (fun _ M=> .ok true M) (Z5 (Zb (Zd 1) (Zb (Zd 0) aNil))))) sNil)
 (Zn (ZB (gNm 8) (Zh F_law_take (Zb (Zd 0) (Zb (Zh bLen (Zb (Zd 3) aNil)) aNil))))
 (Z1 (e2 dAdd (eSl (Zd 3) (oSo (Zd 8)) oNo) (eSl (Zd 3) oNo (oSo (Zd 8)))))))))))))
noncomputable def F_law_smooth:List D->Sto->Out D:=fnF Za2 2 7
noncomputable def Zax:Sv:=(Zn (ZB (gNm 10) (Zer mIdx (Zd 2) (Zb (Zd 9) aNil)))
 (Zn (ZB (gNm 11) (e2 dAdd (eSl (Zd 2) oNo (oSo (Zd 10))) (eSl (Zd 2) (oSo (e2 dAdd (Zd 10) (eC (.int 1)))) oNo)))
 (sIf (Zg8 (tv (e2 dGt (Zh bLen (Zb (Zd 11) aNil)) (eC (.int 2)))) (tv (e2 dEq (Zh F_law_take (Zb (Zd 0) (Zb (eC (.int 3)) aNil))) (eC (.int 0))))) (sIf (tv (e2 dGt (Zh F_law_crossed (Zb (e2 dIx (Zd 11) (e2 dSub (Zd 10) (eC (.int 1)))) (Zb (e2 dIx (Zd 11) (e2 dMod (Zd 10) (Zh bLen (Zb (Zd 11) aNil)))) aNil))) (eC (.int 0)))) (ZB (gNm 2) (Zd 11)) sNil) sNil)))
noncomputable def Zbo:Sv:=(Zn (ZB (gNm 2) (Zh F_law_smooth (Zb (Zd 0) (Zb (Zd 1) aNil))))
 (Zn (ZB (gNm 3) (e2 dIx (ZbR (Zb (eC (.int 5)) (Zb (eC (.int 40)) aNil))) (Zh bInt (Zb (e2 dEq (Zh F_law_take (Zb (Zd 0) (Zb (eC (.int 8)) aNil))) (eC (.int 5))) aNil))))
 (Zn (ZB (gTp (gCs (gNm 4) (gCs (gNm 5) gNl))) (Z5 (Zb (e2 dAdd (eC (.int 1)) (Zh F_law_take (Zb (Zd 0) (Zb (Zd 3) aNil)))) (Zb (e2 dAdd (eC (.int 1)) (Zh F_law_take (Zb (Zd 0) (Zb (eC (.int 5)) aNil)))) aNil))))
 (Zn (ZB (gNm 6) (e2 dSub (Zh F_law_take (Zb (Zd 0) (Zb (eC (.int 3)) aNil))) (eC (.int 1))))
 (Zn (ZB (gNm 7) (e2 dMul (e2 dSub (Zh F_law_take (Zb (Zd 0) (Zb (eC (.int 3)) aNil))) (eC (.int 1))) (Zh bInt (Zb (e2 dGt (e2 dMul (Zd 4) (Zd 5)) (eC (.int 1))) aNil))))
 (Zn (ZB (gNm 8) (ZaW (iSq (Zd 2)) 2 [4,5,6,7] (gTp (gCs (gNm 0) (gCs (gNm 1) gNl))) (fun _ M=> .ok true M) (Zh F_law_short (Zb (Z5 (Zb (e2 dAdd (e2 dMul (Zd 2) (Zd 0)) (e2 dMul (Zd 4) (Zd 1))) (Zb (e2 dAdd (e2 dMul (Zd 5) (Zd 0)) (e2 dMul (Zd 3) (Zd 1))) aNil))) aNil))))
 (Zn (sIf (tv (e2 dLe (Zh F_law_greatest (Zb (Zd 8) aNil)) (eC (.int 200)))) (ZB (gNm 2) (Zd 8)) sNil)
 (Zn (Zif (gNm 9) (Zh bList (Zb (Zd 2) aNil)) Zax)
 (Z1 (Zd 2))))))))))
noncomputable def F_law_round:List D->Sto->Out D:=fnF Zbo 2 10
end CQ
end
section
namespace CQ
open PySem PySem.Spec L2 DL
open CV
open CB (Bd)
open CD (gg ZjT sg tb Zop ZeF Zbc)
section
variable {Q:D->Sto->Prop} {E:Str->Sto->Prop} {M:Sto} {n m p:Nat} {rs:List Pt} {a b c d:Int}
theorem ZdB (h:M[n]?=some (.lst (prs rs))) (ne:rs≠[]) (hl:rs.length<=1000) (q: ∀ mx M',Kp M M'->(∀ b:Int,mx<=b->Nr b rs)->Q (.int mx) M'):wO (F_law_greatest [.ref n] M) Q E:=by
 have hn:=Zs h
 simp![F_law_greatest,Zaw]
 refine ZqG (fun ρ=> ∃ x,ρ=[x]) (fun (i:Nat)=>D.int (max (cy rs i).1.natAbs (cy rs i).2.natAbs:Int)) h (by rw[Zq];omega) ⟨_,rfl⟩ ?_ ?_
 ·rintro i hi ρ L ⟨x,rfl⟩
  rw[CC.ZaT]
  simp![Zl]
  exact ⟨_,rfl⟩
 rw[Zq,ZhS]
 obtain ⟨mx,hmx,hle⟩:=ZeF (L:=(List.range rs.length).map fun (i:Nat)=>(max (cy rs i).1.natAbs (cy rs i).2.natAbs:Int)) (fun z=>by
  have:=congrArg List.length z
  rw[List.length_map,List.length_range] at this
  exact ne (List.eq_nil_of_length_eq_zero this))
 simp![Zbc,hmx]
 refine q _ _ Kp.app fun b hb x hx=> ?_
 obtain ⟨i,hi,rfl⟩:=List.getElem_of_mem hx
 have:=hle _ (List.mem_map.mpr ⟨i,List.mem_range.mpr hi,rfl⟩)
 simp only[Zez hi] at this
 omega
theorem ZqW {at':Nat} (h:M[n]?=some (.lst (prs rs))) (hs:Smo rs) (hb:Nr 60 rs) (hl:rs.length<=1000) (ha:at' < rs.length)
  (q: ∀ ss m M',Smo ss->Nr 60 ss->ss.length<=rs.length + 1->(m=n\/M.length<=m)->Kp M M'->M'[m]?=some (.lst (prs ss))->Q (.ref m) M'):wO (F_law_put [.ref n,.int at'] M) Q E:=by
 have hn:=Zs h
 have ne:=hs.ne
 have sl:=hs.len
 simp![F_law_put,Zck,h]
 refine ⟨by omega,?_⟩
 rw[show ((rs.length:Int)).toNat=rs.length by omega]
 refine Zdw (fun i ρ M'=>M'=M/\ ∃ x2 x3 x4 x5,ρ=[some (.ref n),some (.int at'),x2,x3,x4,x5]) ⟨rfl,_,_,_,_,rfl⟩ ?_ ?_
 ·rintro k ρ M hk ⟨rfl,x2,x3,x4,x5,rfl⟩
  rw[show (0:Int) + (k:Int)=k by omega]
  obtain ⟨j,hj,jl⟩: ∃ j:Nat,((at':Int) + k) % rs.length=j/\j < rs.length:=by
   have:=Za6 (i:=(at':Int) + k) (m:=rs.length) (by omega)
   exact ⟨_,(Int.toNat_of_nonneg this.2).symm,this.1⟩
  have e1:=Za6 (i:=(j:Int) + 1) (m:=rs.length) (by omega)
  have b1:=Nr.cy hb ne j
  have b2:=Nr.cy hb ne (j + 1)
  simp![Za1,h,hj,Zdx,Zdy]
  refine brS (fun z=> ?_) (fun z=> ?_)
  ·have le:((j:Int) + 1).toNat=j + 1:=by omega
   simp![h,le]
   refine ⟨by rw[List.length_take];omega,by rw[List.length_take,List.length_drop];omega,?_⟩
   refine q (ins rs j ((cy rs j).1 + (cy rs (j + 1)).1,(cy rs j).2 + (cy rs (j + 1)).2)) _ _ (hs.ins jl) (Nr.ins hb (by simp only;omega)) (by rw[Zff jl];omega) (.inr (by omega)) Kp.app (by rw[Zgw];simp[ins])
  ·simp![Zl]
   exact ⟨_,_,_,_,rfl⟩
 ·rintro ρ M ⟨rfl,x2,x3,x4,x5,rfl⟩
  simp![Zl]
  exact q rs n M hs hb (by omega) (.inl rfl) Kp.refl h
theorem Zh9 {k w:Int} (h:M[n]?=some (.lst (prs rs))) (hs:Smo rs) (hb:Nr 200 rs) (hl:rs.length<=1000) (hk: -20<=k/\k<=20) (hw:0<=w/\w < 2)
  (q: ∀ ss m M',Smo ss->Nr 200 ss->ss.length=rs.length->(m=n\/M.length<=m)->Kp M M'->M'[m]?=some (.lst (prs ss))->Q (.ref m) M'):wO (F_law_sheared [.ref n,.int k,.int w] M) Q E:=by
 have hn:=Zs h
 have ne:=hs.ne
 have sl:=hs.len
 obtain ⟨f,hf,fX⟩: ∃ f:Pt->Pt,f=(fun p=>if w=0 then (p.1 + k * p.2,p.2) else (p.1,p.2 + k * p.1))/\ ∀ p q,X (f p) (f q)=X p q:=by
  refine ⟨_,rfl,fun p q=> ?_⟩
  unfold X
  split<;>simp only<;>grind
 simp![F_law_sheared,ZaM]
 refine Zop (fun ρ=> ∃ x y,ρ=[x,y,some (.int k),some (.int w)]) (fun (i:Nat)=>pr (f (cy rs i)).1 (f (cy rs i)).2) h (by rw[Zq];omega) ⟨_,_,rfl⟩ ?_ ?_
 ·rintro i hi ρ M' K ⟨x,y,rfl⟩
  rw[Zq] at hi
  have b1:=Nr.cy hb ne i
  have hw':w=0\/w=1:=by omega
  rw[CC.ZaT]
  rcases hw' with rfl | rfl
  ·simp![Zl]
   rw[hf]
   exact ⟨⟨_,_,rfl⟩,rfl,Kp.app⟩
  ·simp![Zl]
   rw[hf]
   exact ⟨⟨_,_,rfl⟩,rfl,Kp.app⟩
 intro M1 K1 r1
 have en:((List.range (prs rs).length).map fun (i:Nat)=>pr (f (cy rs i)).1 (f (cy rs i)).2)=prs (rs.map f):=by
  rw[Zq]
  conv=>rhs;rw[<- Zfp (us:=rs)]
  unfold prs
  rw[List.map_map,List.map_map]
  rfl
 rw[en] at r1
 have l1:=Zs r1
 have s1:Smo (rs.map f):=hs.map fX
 simp![Zl]
 refine ZdB r1 s1.ne (by rw[List.length_map];exact hl) fun mx M2 K2 hmx=> ?_
 simp![Zl]
 refine brS (fun z=> ?_) (fun z=> ?_)
 ·simp![Zl]
  exact q rs n M2 hs hb rfl (.inl rfl) (K1.trans K2) ((K1.trans K2).get h)
 ·simp![Zl]
  exact q _ _ M2 s1 (hmx 200 (by omega)) (List.length_map _) (.inr (Nat.le_refl _)) (K1.trans K2) (K2.get r1)
end
end CQ
end
section
namespace CQ
open PySem PySem.Spec L2 DL
open CV
open CB (Bd)
open CD (gg ZjT sg tb Zop ZeF Zbc)
section
variable {Q:D->Sto->Prop} {E:Str->Sto->Prop} {M:Sto} {n m p:Nat} {rs:List Pt} {a b c d:Int}
theorem ZqX {M1:Sto} {f:Int} (f0:0<=f) (f1:f < 7): ∃ p ss,atI [D.ref M1.length,D.ref (M1.length + 1)] (if decide (0 < f)=true then 1 else 0)=some (.ref p)/\Smo ss/\Nr 60 ss/\ss.length<=4/\(M1 ++ [SO.lst [D.tup [D.int 1,D.int 0],D.tup [D.int 0,D.int 1],D.tup [D.int (-1),D.int (-1)]],SO.lst [D.tup [D.int 1,D.int 0],D.tup [D.int 0,D.int 1],D.tup [D.int (-1),D.int (f - 1)],D.tup [D.int 0,D.int (-1)]],SO.lst [D.ref M1.length,D.ref (M1.length + 1)]])[p]?=some (.lst (prs ss))/\M1.length<=p:=by
  by_cases z:0 < f
  ·refine ⟨M1.length + 1,[(1,0),(0,1),(-1,f - 1),(0,-1)],by rw[if_pos (decide_eq_true z)];rfl,CC.Ztj (f - 1),?_,by simp,by rw[Zgw];rfl,by omega⟩
   intro x hx
   simp at hx
   rcases hx with rfl | rfl | rfl | rfl<;>simp<;>omega
  ·refine ⟨M1.length,[(1,0),(0,1),(-1,-1)],by rw[if_neg (by simpa using z)];rfl,CC.ZqM,?_,by simp,by rw[Zdj];rfl,by omega⟩
   intro x hx
   simp at hx
   rcases hx with rfl | rfl | rfl<;>simp
theorem swp {rs:List Pt} (hs:Smo rs):Smo (rs.map sw).reverse:=by
 refine CA.Zlm (by rw[List.length_map];exact hs.len) (fun i=> ?_) (hs.fan.flip fun p q=>Zr3)
 rw[ZeB hs.ne,ZeB hs.ne,Zr3,hs.one];rfl
theorem Zoq {B:Int} {rs:List Pt} (hs:Nr B rs):Nr B (rs.map sw).reverse:=by
 intro x hx
 obtain ⟨p,hp,rfl⟩:=List.mem_map.mp (List.mem_reverse.mp hx)
 have:=hs p hp
 unfold sw
 simp only
 omega
theorem Zjd {most:Int} (hm:4<=most/\most<=40) (hb:Bag n M) (q: ∀ ss m M',Smo ss->Nr 200 ss->ss.length<=44->M.length<=m->M'[m]?=some (.lst (prs ss))->Gr n M M'->Q (.ref m) M'):wO (F_law_smooth [.ref n,.int most] M) Q E:=by
 have hn:=hb.lt
 simp![F_law_smooth,Za2]
 refine CB.ZaI hb (by decide) fun f M1 f0 f1 g1=> ?_
 have hn1:=g1.bag.lt
 have B1:=g1.bag
 simp![Zl]
 obtain ⟨p,ss,hp,s1,s2,s3,s4,s5⟩:=ZqX (M1:=M1) f0 f1
 have B2:=B1.app [SO.lst [D.tup [D.int 1,D.int 0],D.tup [D.int 0,D.int 1],D.tup [D.int (-1),D.int (-1)]],SO.lst [D.tup [D.int 1,D.int 0],D.tup [D.int 0,D.int 1],D.tup [D.int (-1),D.int (f - 1)],D.tup [D.int 0,D.int (-1)]],SO.lst [D.ref M1.length,D.ref (M1.length + 1)]]
 have G2:Gr n M1 (M1 ++ [SO.lst [D.tup [D.int 1,D.int 0],D.tup [D.int 0,D.int 1],D.tup [D.int (-1),D.int (-1)]],SO.lst [D.tup [D.int 1,D.int 0],D.tup [D.int 0,D.int 1],D.tup [D.int (-1),D.int (f - 1)],D.tup [D.int 0,D.int (-1)]],SO.lst [D.ref M1.length,D.ref (M1.length + 1)]]):=Gr.app B1 _
 generalize M1 ++ [SO.lst [D.tup [D.int 1,D.int 0],D.tup [D.int 0,D.int 1],D.tup [D.int (-1),D.int (-1)]],SO.lst [D.tup [D.int 1,D.int 0],D.tup [D.int 0,D.int 1],D.tup [D.int (-1),D.int (f - 1)],D.tup [D.int 0,D.int (-1)]],SO.lst [D.ref M1.length,D.ref (M1.length + 1)]]=M2 at *
 have gl1:=g1.len
 simp![hp]
 refine CB.ZaI B2 (by omega) fun t1 M3 t10 t11 g3=> ?_
 simp![Zl]
 refine CB.ZaI (g3.bag.app _) (by decide) fun t2 M4 t20 t21 g4=> ?_
 have k4:=Gr.new g3.bag g4
 have r4:=CA.Gr.up (CA.Gr.up s4 g3 (by omega)) ((Gr.app g3.bag _).trans g4) (by omega)
 have G4:=((g1.trans G2).trans g3).trans ((Gr.app g3.bag _).trans g4)
 obtain ⟨many,hmany,m0⟩: ∃ many:Int,atI [D.int (3 + t1),D.int most] (if decide (t2=3)=true then 1 else 0)=some (.int many)/\(3<=many/\many<=most):=by
  by_cases z:t2=3
  ·exact ⟨most,by rw[if_pos (decide_eq_true z)];rfl,by omega⟩
  ·exact ⟨3 + t1,by rw[if_neg (by simpa using z)];rfl,by omega⟩
 simp![k4,hmany,r4]
 clear k4 hmany hp
 have s1l:=s1.len
 refine ⟨by omega,?_⟩
 obtain ⟨l0,hl0⟩: ∃ l0:Nat,l0=ss.length:=⟨_,rfl⟩
 refine Zdw (fun i ρ M'=> ∃ ss p x5 x6 x7 x8,ρ=[some (.ref n),some (.int most),some (.int f),some (.ref p),some (.int many),x5,x6,x7,x8]/\Smo ss/\Nr 60 ss/\ss.length<=l0 + i/\M.length<=p/\M'[p]?=some (.lst (prs ss))/\Gr n M M') ⟨ss,p,_,_,_,_,rfl,s1,s2,by omega,by omega,r4,G4⟩ ?_ ?_
 ·rintro i ρ M5 hi ⟨ss,p,x5,x6,x7,x8,rfl,s1,s2,s3,s4,s5,G⟩
  have sl:=s1.len
  have bl:ss.length<=1000:=by omega
  clear hi hl0 m0 s1l t10 t11 t20 t21 f0 f1 r4 G4 hm
  simp![Zag,s5]
  refine CB.ZaI G.bag (by omega) fun t M6 t0 t1 g6=> ?_
  have s6:=CA.Gr.up s5 g6 (by omega)
  have G6:=G.trans g6
  obtain ⟨at',rfl⟩: ∃ k:Nat,t=k:=⟨t.toNat,by omega⟩
  simp![Zl]
  refine ZqW s6 s1 s2 bl (by omega) fun ss' m M7 u1 u2 u3 u4 K7 r7=> ?_
  simp![Zl]
  have:=G6.len
  exact ⟨ss',m,_,_,_,_,rfl,u1,u2,by omega,by omega,r7,G6.trans (K7.gr G6.bag)⟩
 ·rintro ρ M5 ⟨ss,p,x5,x6,x7,x8,rfl,s1,s2,s3,s4,s5,G⟩
  have s3':ss.length<=44:=by omega
  clear s3 hl0 s1l m0 r4 G4 G2 B2 g1 B1 t10 t11 t20 t21 f0 f1 hm gl1
  simp![Zl]
  refine CB.ZaI (G.bag.app _) (by decide) fun t1 M6 t10 t11 g6=> ?_
  have k6:=Gr.new G.bag g6
  have v6:=CA.Gr.up s5 ((Gr.app G.bag _).trans g6) (by omega)
  have G6:=G.trans ((Gr.app G.bag _).trans g6)
  obtain ⟨wd,hwd,w0⟩: ∃ wd:Int,atI [D.int 3,D.int 41] (if decide (t1=5)=true then 1 else 0)=some (.int wd)/\(wd=3\/wd=41):=by
   by_cases z:t1=5
   ·exact ⟨41,by rw[if_pos (decide_eq_true z)];rfl,.inr rfl⟩
   ·exact ⟨3,by rw[if_neg (by simpa using z)];rfl,.inl rfl⟩
  simp![k6,hwd]
  refine CB.ZaI G6.bag (by decide) fun t2 M7 t20 t21 g7=> ?_
  have v7:=CA.Gr.up v6 g7 (by omega)
  have G7:=G6.trans g7
  simp![Zl]
  refine ⟨by omega,?_⟩
  refine Zdw (fun i ρ M'=> ∃ ss p x5 x7 x8,ρ=[some (.ref n),some (.int most),some (.int f),some (.ref p),some (.int many),x5,some (.int wd),x7,x8]/\Smo ss/\Nr 200 ss/\ss.length<=44/\M.length<=p/\M'[p]?=some (.lst (prs ss))/\Gr n M M') ⟨ss,p,_,_,_,rfl,s1,fun x hx=>by have:=s2 x hx;omega,s3',s4,v7,G7⟩ ?_ ?_
  ·clear v7 v6 s5 s1 s2 s3' s4 k6 hwd t20 t21 t10 t11 G7 G6 g7 g6
   rintro i ρ M8 hi ⟨ss,p,x5,x7,x8,rfl,s1,s2,s3,s4,s5,G⟩
   simp![Zah]
   refine CB.ZaI G.bag (by omega) fun t M9 t0 t1 g9=> ?_
   have s9:=CA.Gr.up s5 g9 (by omega)
   have G9:=G.trans g9
   simp![Zl]
   refine CB.ZaI G9.bag (by omega) fun w M10 w0 w1 g10=> ?_
   have s10:=CA.Gr.up s9 g10 (by omega)
   have G10:=G9.trans g10
   have hk: -20<=t - wd / 2/\t - wd / 2<=20:=by omega
   generalize t - wd / 2=kk at *
   simp![Zl]
   refine Zh9 s10 s1 s2 (by omega) hk (by omega) fun ss' m M11 u1 u2 u3 u4 K11 r11=> ?_
   simp![Zl]
   have:=G10.len
   exact ⟨ss',m,_,_,_,rfl,u1,u2,by omega,by omega,r11,G10.trans (K11.gr G10.bag)⟩
  ·clear v7 v6 s5 s1 s2 s3' s4 k6 hwd t20 t21 t10 t11 G7 G6 g7 g6 w0
   rintro ρ M8 ⟨ss,p,x5,x7,x8,rfl,s1,s2,s3,s4,s5,G⟩
   simp![Zl]
   refine CB.ZaI G.bag (by omega) fun t M9 t0 t1 g9=> ?_
   have s9:=CA.Gr.up s5 g9 (by omega)
   have G9:=G.trans g9
   have h9:=Zs s9
   simp![Zl]
   refine Zqe (fun ρ M'=> ∃ ss p,ρ=[some (.ref n),some (.int most),some (.int f),some (.ref p),some (.int many),x5,some (.int wd),x7,x8]/\Smo ss/\Nr 200 ss/\ss.length<=44/\M.length<=p/\M'[p]?=some (.lst (prs ss))/\Gr n M M') ?_ ?_
   ·refine brS (fun z=> ?_) (fun z=> ?_)
    ·simp![s9]
     have rl:(prs ss).reverse.length=ss.length:=by rw[List.length_reverse,Zq]
     refine ZoP (xs:=(prs ss).reverse) (fun ρ=> ∃ x y,ρ=[x,y]) (fun (i:Nat)=>pr (cy (ss.map sw).reverse i).1 (cy (ss.map sw).reverse i).2) (by omega) (by simp[cnt,Zq]) ⟨_,_,rfl⟩ (fun L i hi=> ?_) ?_ ?_
     ·rw[<- Zq]
      exact ZnL (by rw[Zbx h9];exact s9) (by simpa using hi)
     ·rintro i hi ρ L ⟨x,y,rfl⟩
      rw[rl] at hi
      have e1:(prs ss).reverse=prs ss.reverse:=by unfold prs;rw[List.map_reverse]
      have e2:(ss.map sw).reverse=ss.reverse.map sw:=by rw[List.map_reverse]
      have e3:cy (ss.reverse.map sw) i=sw (cy ss.reverse i):=ZeB (by have:=s1.ne;simpa using this)
      simp only[e1,e2,e3,CC.ZaT]
      simp![Zl]
      exact ⟨_,_,rfl⟩
     have en:((List.range (prs ss).reverse.length).map fun (i:Nat)=>pr (cy (ss.map sw).reverse i).1 (cy (ss.map sw).reverse i).2)=prs (ss.map sw).reverse:=by
      rw[rl]
      conv=>rhs;rw[<- Zfp (us:=(ss.map sw).reverse)]
      unfold prs
      rw[List.map_map,List.length_reverse,List.length_map]
      rfl
     rw[en]
     simp![Zl]
     have:=G9.len
     exact ⟨_,_,rfl,swp s1,Zoq s2,by rw[List.length_reverse,List.length_map];exact s3,by omega,by simp,G9.app2 _⟩
    ·simp![Zl]
     exact ⟨_,_,rfl,s1,s2,s3,s4,s9,G9⟩
   ·clear s9 h9 G9 g9 s5 s4 s3 s2 s1
    rintro _ M10 ⟨ss,p,rfl,s1,s2,s3,s4,s5,G⟩
    have sl:=s1.len
    simp![s5]
    refine CB.ZaI G.bag (by omega) fun t M11 t0 t1 g11=> ?_
    have s11:=CA.Gr.up s5 g11 (by omega)
    have G11:=G.trans g11
    have h11:=Zs s11
    have:=G11.len
    obtain ⟨kk,rfl⟩: ∃ k:Nat,t=k:=⟨t.toNat,by omega⟩
    simp![s11]
    refine ⟨by rw[List.length_take,List.length_drop];omega,?_⟩
    exact q (ss.drop kk ++ ss.take kk) _ _ (s1.rot (by omega)) (Nr.rot s2) (by rw[List.length_append,List.length_drop,List.length_take];omega) (by omega) (by rw[Zgw];simp) (G11.app2 _)
end
end CQ
end
section
namespace CQ
open PySem PySem.Spec L2 DL
open CV
open CB (Bd)
open CD (gg ZjT sg tb Zop ZeF Zbc)
noncomputable def shp (p:Pt):Pt:=if Int.gcd p.1 p.2=0 then (1,0) else (p.1 / Int.gcd p.1 p.2,p.2 / Int.gcd p.1 p.2)
theorem Zls (p:Pt):Int.gcd (shp p).1 (shp p).2=1:=by
 unfold shp
 split
 ·rfl
 ·exact Int.gcd_ediv_gcd_ediv_gcd (by omega)
theorem Zc5 {p:Pt} (h:p≠(0,0)): ∃ g:Int,0 < g/\p=(g * (shp p).1,g * (shp p).2):=by
 have ng:Int.gcd p.1 p.2≠0:=fun z=>h (by
  obtain ⟨h1,h2⟩:=Int.gcd_eq_zero_iff.mp z
  exact Prod.ext h1 h2)
 refine ⟨Int.gcd p.1 p.2,by omega,?_⟩
 unfold shp
 rw[if_neg ng]
 exact Prod.ext (Int.mul_ediv_cancel' (Int.gcd_dvd_left ..)).symm (Int.mul_ediv_cancel' (Int.gcd_dvd_right ..)).symm
theorem ZoR {k y:Int} (hk:0 < k):0 < k * y ↔ 0 < y:=by
 refine ⟨fun h=> ?_,fun h=>Int.mul_pos hk h⟩
 by_cases c:0 < y
 ·exact c
 ·have:=Int.mul_nonneg (a:=k) (b:=0 - y) (by omega) (by omega)
  rw[Int.mul_sub,Int.mul_zero] at this
  omega
theorem Zia {f g:Pt->Pt->Nat}: ∀ {L:List Pt},(∀ a∈L,∀ b∈L,f a b=g a b)->cc f L=cc g L
 | [],_=>rfl
 | [_],_=>rfl
 |a :: b :: r,h=>by
  have ih:=Zia (L:=b :: r) fun x hx y hy=>h x (List.mem_cons_of_mem _ hx) y (List.mem_cons_of_mem _ hy)
  show f a b + cc f (b :: r)=g a b + cc g (b :: r)
  rw[ih,h a (by simp) b (by simp)]
theorem ZdU {f g:Pt->Pt->Nat} {L:List Pt} (h: ∀ a∈L,∀ b∈L,f a b=g a b):cyc f L=cyc g L:=by
 refine Zia fun a ha b hb=>h a ?_ b ?_
 ·rcases List.mem_append.mp ha with ha | ha
  ·exact ha
  ·exact List.mem_of_mem_take ha
 ·rcases List.mem_append.mp hb with hb | hb
  ·exact hb
  ·exact List.mem_of_mem_take hb
theorem Rn.led {rs:List Pt} {a b c d:Int} (h:Rn rs) (hd:0 < a * d - b * c):Rn (rs.map fun p=>shp (gg a b c d p)):=by
 have nz: ∀ p∈rs,gg a b c d p≠(0,0):=fun p hp z=>by
  obtain ⟨i,rfl⟩:=ZjR hp
  have:=h.pos i
  have e:=ZjT (a:=a) (b:=b) (c:=c) (d:=d) (cy rs i) (cy rs (i + 1))
  rw[z] at e
  have e0:X (0,0) (gg a b c d (cy rs (i + 1)))=0:=by unfold X;simp only;grind
  rw[e0] at e
  have:=Int.mul_pos hd this
  omega
 have xs: ∀ p∈rs,∀ q∈rs,∃ k:Int,0 < k/\k * X (shp (gg a b c d p)) (shp (gg a b c d q))=(a * d - b * c) * X p q:=fun p hp q hq=>by
  obtain ⟨k,hk,ek⟩:=Zc5 (nz p hp)
  obtain ⟨l,hl,el⟩:=Zc5 (nz q hq)
  refine ⟨k * l,Int.mul_pos hk hl,?_⟩
  rw[<- ZjT]
  generalize shp (gg a b c d p)=u at *
  generalize shp (gg a b c d q)=v at *
  rw[ek,el]
  unfold X
  simp only
  grind
 refine ⟨by rw[List.length_map];exact h.len,?_,?_,?_⟩
 ·rw[Zb6,ZdU (g:=nxp)]
  ·exact h.ps
  ·intro p hp q hq
   obtain ⟨k,hk,e⟩:=xs p hp q hq
   have:(0 < X (shp (gg a b c d p)) (shp (gg a b c d q)))=(0 < X p q):=by
    rw[<- propext (ZoR hk),e,propext (ZoR hd)]
   unfold nxp
   simp only[this]
 ·intro p hp
  obtain ⟨q,-,rfl⟩:=List.mem_map.mp hp
  exact Zls _
 ·intro w hw
  have key: ∀ q∈rs,∃ k:Int,0 < k/\k * X (shp (gg a b c d q)) w=X q (d * w.1 - b * w.2,a * w.2 - c * w.1):=fun q hq=>by
   obtain ⟨k,hk,ek⟩:=Zc5 (nz q hq)
   refine ⟨k,hk,?_⟩
   generalize shp (gg a b c d q)=u at *
   have e1:=congrArg Prod.fst ek
   have e2:=congrArg Prod.snd ek
   unfold gg at e1 e2
   simp only at e1 e2
   unfold X
   simp only
   grind
  have hw':(d * w.1 - b * w.2,a * w.2 - c * w.1)≠(0,0):=fun z=>hw (by
   have z1:=congrArg Prod.fst z
   have z2:=congrArg Prod.snd z
   simp only at z1 z2
   have f1:(a * d - b * c) * w.1=0:=by grind
   have f2:(a * d - b * c) * w.2=0:=by grind
   have g1:=(Int.mul_eq_zero.mp f1).resolve_left (by omega)
   have g2:=(Int.mul_eq_zero.mp f2).resolve_left (by omega)
   exact Prod.ext g1 g2)
  have hf:=h.fan _ hw'
  generalize (d * w.1 - b * w.2,a * w.2 - c * w.1)=w' at *
  have sg: ∀ q∈rs,(0<=X (shp (gg a b c d q)) w)=(0<=X q w')/\(0 < X (shp (gg a b c d q)) w)=(0 < X q w')/\(0<=X w (shp (gg a b c d q)))=(0<=X w' q)/\(0 < X w (shp (gg a b c d q)))=(0 < X w' q):=fun q hq=>by
   obtain ⟨k,hk,e⟩:=key q hq
   have s1:=Zfg (p:=w) (q:=shp (gg a b c d q))
   have s2:=Zfg (p:=w') (q:=q)
   generalize X (shp (gg a b c d q)) w=y at *
   generalize X q w'=z at *
   rw[s1,s2,<- e]
   refine ⟨propext ⟨fun h=>Int.mul_nonneg (by omega) h,fun h=>Int.nonneg_of_mul_nonneg_right h hk⟩,(propext (ZoR hk)).symm,propext ⟨fun h=> ?_,fun h=> ?_⟩,propext ⟨fun h=> ?_,fun h=> ?_⟩⟩
   ·have:=Int.mul_nonneg (a:=k) (b:=0 - y) (by omega) h
    rw[Int.mul_sub,Int.mul_zero] at this
    exact this
   ·have:0<=k * (0 - y):=by rw[Int.mul_sub,Int.mul_zero];exact h
    exact Int.nonneg_of_mul_nonneg_right this hk
   ·have:=Int.mul_pos (a:=k) (b:=0 - y) hk h
    rw[Int.mul_sub,Int.mul_zero] at this
    exact this
   ·have:0 < k * (0 - y):=by rw[Int.mul_sub,Int.mul_zero];exact h
    exact (ZoR hk).mp this
  have h1:cyc (fun p q=>in1 w (shp (gg a b c d p)) (shp (gg a b c d q))) rs=cyc (in1 w') rs:=ZdU fun p hp q hq=>by
   unfold in1
   simp only[(sg p hp).1,(sg q hq).2.2.2]
  have h2:cyc (fun p q=>in2 w (shp (gg a b c d p)) (shp (gg a b c d q))) rs=cyc (in2 w') rs:=ZdU fun p hp q hq=>by
   unfold in2
   simp only[(sg p hp).2.1,(sg q hq).2.2.1]
  rw[Zb6,Zb6,h1,h2]
  exact hf
section
variable {Q:D->Sto->Prop} {E:Str->Sto->Prop} {M:Sto} {n m p:Nat} {rs:List Pt} {a b c d:Int}
theorem Zje {x y:Int} (hx: -20000<=x/\x<=20000) (hy: -20000<=y/\y<=20000) (q:Q (pr (shp (x,y)).1 (shp (x,y)).2) M):wO (CB.F_law_short [pr x y] M) Q E:=by
 simp![CB.F_law_short,CB.Zbm]
 refine Zla (fun k ρ M'=>M'=M/\ ∃ a b:Nat,ρ=[some (pr x y),some (.int a),some (.int b)]/\k=b/\Nat.gcd a b=Int.gcd x y/\a<=20000/\b<=20000) ?_ y.natAbs _ _ ⟨rfl,x.natAbs,y.natAbs,rfl,rfl,rfl,by omega,by omega⟩
 rintro k ρ M ⟨rfl,a,b,rfl,rfl,g,ha,hk'⟩
 simp![Zl]
 refine ZqF (fun h=> ?_) (fun h=> ?_)
 ·simp![CB.Zav]
  have hb:0 < k:=by omega
  have hm:=Nat.mod_lt a hb
  refine ⟨a % k,hm,k,a % k,by rw[Int.natCast_emod],rfl,?_,?_⟩
  ·rw[<- g,Nat.gcd_comm k,<- Nat.gcd_rec,Nat.gcd_comm]
  ·omega
 ·have k0:k=0:=by omega
  subst k0
  rw[Nat.gcd_zero_right] at g
  subst g
  simp![Zl]
  refine brS (fun hz=> ?_) (fun hz=> ?_)
  ·simp![Zl]
   have e:shp (x,y)=(1,0):=by unfold shp;simp only;rw[if_pos (by omega)]
   rw[e] at q
   exact q
  ·simp![Zl]
   have e:shp (x,y)=(x / Int.gcd x y,y / Int.gcd x y):=by unfold shp;simp only;rw[if_neg (by omega)]
   rw[e] at q
   exact q
theorem Zfq {a:Pt}: ∀ {rs:List Pt},eqs M (pr a.1 a.2) (prs rs)=some (rs.map fun x=>decide (x=a))
 | []=>rfl
 |x :: rs=>by
  have:=Zfq (a:=a) (rs:=rs)
  have e:eqF 12 M (pr x.1 x.2) (pr a.1 a.2)=some (decide ((x.1,x.2)=(a.1,a.2))):=ZpR (n:=10)
  show (match eqF 12 M (pr x.1 x.2) (pr a.1 a.2) with | some b=>(match eqs M (pr a.1 a.2) (prs rs) with | some bs=>some (b :: bs) | none=>none) | none=>none)=_
  rw[e,this]
  rfl
theorem Zlt {a:Pt} (h:a∈rs): ∃ i:Nat,i < rs.length/\cy rs i=a/\(rs.map fun x=>decide (x=a)).findIdx? id=some i:=by
 rw[List.findIdx?_map]
 have e:(id ∘ fun (x:Pt)=>decide (x=a))=fun x=>decide (x=a):=rfl
 rw[e]
 cases c:rs.findIdx? fun x=>decide (x=a) with
 |none=>
  have:=List.findIdx?_eq_none_iff.mp c a h
  simp at this
 |some i=>
  obtain ⟨hi,h1,-⟩:=List.findIdx?_eq_some_iff_getElem.mp c
  exact ⟨i,hi,by rw[Zez hi];exact of_decide_eq_true h1,rfl⟩
theorem Zlu {x:Pt} {k:Nat} (hk:k < rs.length) (hx:x∈rs) (hn:x≠cy rs k):x∈del rs k:=by
 obtain ⟨i,hi,rfl⟩:=List.getElem_of_mem hx
 unfold del
 by_cases c:i < k
 ·exact List.mem_append_left _ (List.mem_take_iff_getElem.mpr ⟨i,by omega,rfl⟩)
 ·have:i≠k:=fun z=>hn (by subst z;rw[Zez hk])
  exact List.mem_append_right _ (List.mem_drop_iff_getElem.mpr ⟨i - (k + 1),by omega,by congr 1;omega⟩)
theorem Zor {k:Nat} (hk:k < rs.length) (hl:4<=rs.length):cy (del rs k) (k - 1)=cy rs (k - 1)/\cy (del rs k) k=cy rs (k + 1):=by
 constructor
 ·by_cases c:k=0
  ·subst c
   have:=Zlg hk (by omega)
   rw[if_neg (by omega)] at this
   exact this
  ·rw[ZfU hk (by omega) (by omega),if_pos (by omega)]
 ·by_cases c:k=rs.length - 1
  ·rw[Zlh hk (by omega) (by omega),if_neg (by omega)]
   congr 1
   omega
  ·rw[ZfU hk (by omega) (by omega),if_neg (by omega)]
theorem Zlv {most:Int} (hm:4<=most/\most<=40) (hb:Bag n M) (q: ∀ ss m M',Rn ss->Nr 200 ss->ss.length<=44->M.length<=m->M'[m]?=some (.lst (prs ss))->Gr n M M'->Q (.ref m) M'):wO (F_law_round [.ref n,.int most] M) Q E:=by
 have hn:=hb.lt
 simp![F_law_round,Zbo]
 refine Zjd hm hb fun ss p M1 s1 s2 s3 s4 s5 G=> ?_
 have sl:=s1.len
 simp![Zl]
 refine CB.ZaI (G.bag.app _) (by decide) fun t1 M2 t10 t11 g2=> ?_
 have k2:=Gr.new G.bag g2
 have v2:=CA.Gr.up s5 ((Gr.app G.bag _).trans g2) (by omega)
 have G2:=G.trans ((Gr.app G.bag _).trans g2)
 obtain ⟨wd,hwd,w0⟩: ∃ wd:Int,atI [D.int 5,D.int 40] (if decide (t1=5)=true then 1 else 0)=some (.int wd)/\(wd=5\/wd=40):=by
  by_cases z:t1=5
  ·exact ⟨40,by rw[if_pos (decide_eq_true z)];rfl,.inr rfl⟩
  ·exact ⟨5,by rw[if_neg (by simpa using z)];rfl,.inl rfl⟩
 simp![k2,hwd]
 clear k2 hwd g2
 refine CB.ZaI G2.bag (by omega) fun a M3 a0 a1 g3=> ?_
 have v3:=CA.Gr.up v2 g3 (by omega)
 have G3:=G2.trans g3
 simp![Zl]
 refine CB.ZaI G3.bag (by omega) fun d M4 d0 d1 g4=> ?_
 have v4:=CA.Gr.up v3 g4 (by omega)
 have G4:=G3.trans g4
 simp![Zl]
 refine CB.ZaI G4.bag (by omega) fun b M5 b0 b1 g5=> ?_
 have v5:=CA.Gr.up v4 g5 (by omega)
 have G5:=G4.trans g5
 simp![Zl]
 refine CB.ZaI G5.bag (by omega) fun c M6 c0 c1 g6=> ?_
 have v6:=CA.Gr.up v5 g6 (by omega)
 have G6:=G5.trans g6
 clear v2 v3 v4 v5 G2 G3 G4 G5 g3 g4 g5 g6
 obtain ⟨a',ha⟩: ∃ a',1 + a=a':=⟨_,rfl⟩
 obtain ⟨d',hd⟩: ∃ d',1 + d=d':=⟨_,rfl⟩
 obtain ⟨b',hb'⟩: ∃ b',b - 1=b':=⟨_,rfl⟩
 rw[ha,hd,hb']
 simp![Zl]
 obtain ⟨c',hc,hc1,det⟩: ∃ c',((c - 1) * if decide (1 < a' * d')=true then (1:Int) else 0)=c'/\(-1<=c'/\c'<=1)/\0 < a' * d' - b' * c':=by
  by_cases z:1 < a' * d'
  ·refine ⟨c - 1,by rw[if_pos (decide_eq_true z),Int.mul_one],by omega,?_⟩
   have:b'= -1\/b'=0\/b'=1:=by omega
   rcases this with e | e | e<;>rw[e]<;>omega
  ·refine ⟨0,by rw[if_neg (by simpa using z),Int.mul_zero],by omega,?_⟩
   have:=Int.mul_pos (a:=a') (b:=d') (by omega) (by omega)
   omega
 rw[hc]
 clear hc
 have a2:1<=a'/\a'<=40:=by omega
 have d2:1<=d'/\d'<=5:=by omega
 have b2: -1<=b'/\b'<=1:=by omega
 clear ha hd hb' a0 a1 b0 b1 c0 c1 d0 d1 t10 t11
 have ne:=s1.ne
 have h6:=Zs v6
 refine ZqG (fun ρ=> ∃ x y,ρ=[x,y,some (.int a'),some (.int d'),some (.int b'),some (.int c')]) (fun (i:Nat)=>pr (shp (gg a' b' c' d' (cy ss i))).1 (shp (gg a' b' c' d' (cy ss i))).2) v6 (by rw[Zq];omega) ⟨_,_,rfl⟩ ?_ ?_
 ·rintro i hi ρ L ⟨x,y,rfl⟩
  rw[Zq] at hi
  rw[CC.ZaT]
  have bb:=Nr.cy s2 ne i
  generalize cy ss i=pt at *
  have m1:=CA.ZoQ (x:=a') (B:=40) (by omega) bb.1
  have m2:=CA.ZoQ (x:=b') (B:=1) (by omega) bb.2
  have m3:=CA.ZoQ (x:=c') (B:=1) (by omega) bb.1
  have m4:=CA.ZoQ (x:=d') (B:=5) (by omega) bb.2
  simp![Zl]
  refine ⟨⟨_,_,rfl⟩,Zje (by omega) (by omega) ⟨rfl,rfl⟩⟩
 have en:((List.range (prs ss).length).map fun (i:Nat)=>pr (shp (gg a' b' c' d' (cy ss i))).1 (shp (gg a' b' c' d' (cy ss i))).2)=prs (ss.map fun p=>shp (gg a' b' c' d' p)):=by
  rw[Zq]
  conv=>rhs;rw[<- Zfp (us:=ss)]
  unfold prs
  rw[List.map_map,List.map_map]
  rfl
 rw[en]
 have rn:=Rn.led s1.rn det
 have ml:(ss.map fun p=>shp (gg a' b' c' d' p)).length=ss.length:=List.length_map _
 generalize (ss.map fun p=>shp (gg a' b' c' d' p))=us at *
 clear en det a2 d2 b2 hc1 w0 hm
 have r7:(M6 ++ [SO.lst (prs us)])[M6.length]?=some (.lst (prs us)):=by simp
 have v7:(M6 ++ [SO.lst (prs us)])[p]?=some (.lst (prs ss)):=by rw[Zbx h6];exact v6
 have G7:Gr n M (M6 ++ [SO.lst (prs us)]):=G6.app2 _
 generalize M6 ++ [SO.lst (prs us)]=M7 at *
 have gl:=G6.len
 simp![Zl]
 refine ZdB r7 rn.ne (by omega) fun mx M8 K8 hmx=> ?_
 have r8:=K8.get r7
 have v8:=K8.get v7
 have G8:=G7.trans (K8.gr G7.bag)
 simp![Zl]
 refine Zqe (fun ρ M'=>M'=M8/\ ∃ ss p x8,ρ=[some (.ref n),some (.int most),some (.ref p),some (.int wd),some (.int a'),some (.int d'),some (.int b'),some (.int c'),x8,none,none,none]/\Rn ss/\Nr 200 ss/\ss.length<=44/\M.length<=p/\M8[p]?=some (.lst (prs ss))) ?_ ?_
 ·refine brS (fun z=> ?_) (fun z=> ?_)
  ·simp![Zl]
   exact ⟨us,_,_,rfl,rn,hmx 200 (by omega),by omega,by omega,r8⟩
  ·simp![Zl]
   exact ⟨ss,_,_,rfl,s1.rn,s2,by omega,by omega,v8⟩
 clear r8 v8 hmx r7 v7 rn ml s1 s2 s3 s4 s5 sl ne v6 h6
 rintro _ M8 ⟨rfl,ss,p,x8,rfl,s1,s2,s3,s4,s5⟩
 have h8:=Zs s5
 simp![s5]
 have B9:=G8.app2 [SO.lst (prs ss)]
 have v9:(M8 ++ [SO.lst (prs ss)])[p]?=some (.lst (prs ss)):=by rw[Zbx h8];exact s5
 have r9:(M8 ++ [SO.lst (prs ss)])[M8.length]?=some (.lst (prs ss)):=by simp
 have gl8:=G8.len
 have nl8:=G8.bag.lt
 generalize M8 ++ [SO.lst (prs ss)]=M9 at *
 generalize hol:M8.length=ol at *
 refine ZdR (xs:=prs ss) (fun i ρ M'=>M'[ol]?=some (.lst (prs ss))/\ ∃ us p x9 x10 x11,ρ=[some (.ref n),some (.int most),some (.ref p),some (.int wd),some (.int a'),some (.int d'),some (.int b'),some (.int c'),x8,x9,x10,x11]/\Rn us/\Nr 200 us/\us.length<=44/\M.length<=p/\M'[p]?=some (.lst (prs us))/\Gr n M M'/\ ∀ j:Nat,i<=j->j < ss.length->cy ss j∈us) r9 ⟨r9,ss,p,_,_,_,rfl,s1,s2,s3,s4,v9,B9,fun j _ hj=>ZjI s1.ne⟩ (fun i ρ M' hI=>hI.1) ?_ ?_
 ·rintro i ρ M10 hi ⟨v0,us,p,x9,x10,x11,rfl,u1,u2,u3,u4,u5,G,um⟩
  rw[Zq] at hi
  rw[CC.ZaT]
  obtain ⟨k,hk,ek,ei⟩:=Zlt (um i (Nat.le_refl _) hi)
  have ul:=u1.len
  have le:((k:Int) + 1).toNat=k + 1:=by omega
  have le2:(k:Int).toNat=k:=by omega
  have hp:=Zs u5
  have gl10:=G.len
  simp![Zax,u5,Zfq,ei,le,le2]
  refine ⟨by rw[List.length_take,List.length_drop];omega,?_⟩
  have dl:=Zc3 hk
  generalize hM11:M10 ++ [SO.lst (prs (us.take k)),SO.lst (prs (us.drop (k + 1))),SO.lst (prs (us.take k ++ us.drop (k + 1)))]=M11
  have G11:Gr n M M11:=by rw[<- hM11];exact G.app2 _
  have u11:M11[p]?=some (.lst (prs us)):=by rw[<- hM11,Zbx hp];exact u5
  have v11:M11[ol]?=some (.lst (prs ss)):=by rw[<- hM11,Zbx (Zs v0)];exact v0
  have r11:M11[M10.length + 2]?=some (.lst (prs (del us k))):=by rw[<- hM11,Zgw];rfl
  have h11:=Zs r11
  clear hM11
  simp![r11]
  refine ZsW (fun b M'=>M'[ol]?=some (.lst (prs ss))/\M'[p]?=some (.lst (prs us))/\M'[M10.length + 2]?=some (.lst (prs (del us k)))/\Gr n M M'/\(b=true->2 < (del us k).length)) ?_ ?_
  ·refine brO (fun z=> ?_) (fun z=> ?_)
   ·simp![Zl]
    refine CB.ZaI G11.bag (by decide) fun t M12 t0 t1 g12=> ?_
    simp![Zl]
    exact ⟨CA.Gr.up v11 g12 (by omega),CA.Gr.up u11 g12 (by omega),CA.Gr.up r11 g12 (by omega),G11.trans g12,fun _=>by omega⟩
   ·simp![Zl]
    exact ⟨v11,u11,r11,G11,fun u=>by cases u⟩
  clear r11 v11 u11 G11 h11
  rintro b M12 ⟨v11,u11,r11,G11,hb2⟩
  have h12:=Zs r11
  have nx: ∀ j:Nat,i + 1<=j->j < ss.length->cy ss j∈us:=fun j h1 h2=>um j (by omega) h2
  simp![Zl]
  refine Zqd (fun z=> ?_) (fun z=> ?_)
  ·have l4:=hb2 z
   have nb:=Zor hk (by omega)
   have e1:=Za6 (i:=(k:Int)) (m:=(del us k).length) (by omega)
   have ne:del us k≠[]:=fun z=>by rw[z] at l4;simp at l4
   have b1:=Nr.cy u2 u1.ne ((k:Int) - 1)
   simp![r11,Zdx,Zdy,nb.1,nb.2]
   rw[CB.Zdz (.inl ⟨by omega,by omega⟩)]
   simp![Zl]
   refine brS (fun z=> ?_) (fun z=> ?_)
   ·simp![Zl]
    refine ⟨v11,del us k,_,⟨_,_,_,rfl⟩,u1.del hk (by omega) z,CF.Nr.del u2,by omega,by omega,r11,G11,fun j h1 h2=>Zlu hk (nx j h1 h2) fun z=> ?_⟩
    rw[ek] at z
    have:=s1.inj h2 hi z
    omega
   ·simp![Zl]
    exact ⟨v11,us,p,⟨_,_,_,rfl⟩,u1,u2,u3,u4,u11,G11,nx⟩
  ·simp![Zl]
   exact ⟨v11,us,p,⟨_,_,_,rfl⟩,u1,u2,u3,u4,u11,G11,nx⟩
 ·rintro ρ M10 ⟨v0,us,p,x9,x10,x11,rfl,u1,u2,u3,u4,u5,G,um⟩
  simp![Zl]
  exact q us p M10 u1 u2 u3 u4 u5 G
end
end CQ
end
section
namespace CQ
open PySem PySem.Spec L2 DL
open CV
open CB (Bd)
open CD (gg ZjT sg tb Zop ZeF Zbc)
section
variable {Q:D->Sto->Prop} {E:Str->Sto->Prop} {M:Sto} {n m p:Nat} {rs:List Pt} {a b c d:Int}
end
end CQ
end
section
namespace CB
open PySem PySem.Spec L2 DL
open CD (gg ZjT sg)
section
variable {a b c d:Int} {u v w:Pt} {rs:List Pt}
end
end CB
end
section
namespace CX
open PySem PySem.Spec L2 DL
open CE (F_numbers)
open CC (F_following)
open CL (F_least_round)
noncomputable def Za3:Sv:=(Zn (ZB (gNm 2) (Zdv (iSq (Zd 0)) 1 [] (gNm 0) (fun _ M=> .ok true M) (Zd 0) (eC (.bl true))))
 (Z1 (ZaW (iZp (Zb (Zh F_numbers (Zb (Zd 1) aNil)) (Zb (Zd 1) aNil))) 2 [2] (gTp (gCs (gNm 0) (gCs (gNm 1) gNl))) (fun _ M=> .ok true M) (Z5 (Zb (Zd 0) (Zb (eIf (tv (e2 (ZkF false) (Zd 1) (Zd 2))) (eC (.int 1)) (eC (.int 0))) aNil))))))
noncomputable def F_marked_row:List D->Sto->Out D:=fnF Za3 2 1
noncomputable def ZE:Sv:=(sIf (Zkl (tv (e2 dIs (Zd 3) (eC .non))) (tv (e2 dLtL (Zd 9) (Zd 3)))) (Zn (ZB (gNm 3) (Zd 9))
 (ZB (gNm 4) (Z5 (Zb (Zd 6) (Zb (Zd 10) aNil))))) sNil)
noncomputable def ZV:Sv:=(Zn (ZB (gNm 7) (e2 dAdd (eSl (Zd 2) (oSo (Zd 5)) oNo) (eSl (Zd 2) oNo (oSo (Zd 5)))))
 (Zn (ZB (gNm 8) (e2 dAdd (eSl (Zd 7) oNo (oSo (eC (.int 1)))) (eR0 (Zd 7))))
 (Zif (gTp (gCs (gNm 9) (gCs (gNm 10) gNl))) (ZbR (Zb (Z5 (Zb (Zd 7) (Zb (Zh F_following (Zb (Zd 1) (Zb (Zd 5) aNil))) aNil))) (Zb (Z5 (Zb (Zd 8) (Zb (e2 dIx (Zd 1) (e2 dSub (Zd 5) (eC (.int 1)))) aNil))) aNil))) ZE)))
noncomputable def Zai:Sv:=(Zn (ZB (gNm 1) (Zh F_least_round (Zb (Zd 0) aNil)))
 (Zn (ZB (gNm 2) (Zh F_marked_row (Zb (Zd 0) (Zb (Zd 1) aNil))))
 (Zn (ZB (gNm 3) (eC .non))
 (Zn (ZB (gNm 4) (eC .non))
 (Zn (ZcU (gTp (gCs (gNm 5) (gCs (gNm 6) gNl))) (iEn (Zb (Zd 1) aNil)) ZV)
 (Z1 (Z5 (Zb (Zd 3) (Zb (Zd 4) aNil)))))))))
noncomputable def F_first_reading:List D->Sto->Out D:=fnF Zai 1 10
noncomputable def Zbp:Sv:=(Z1 (e2 dIx (Zh F_first_reading (Zb (Zd 0) aNil)) (eC (.int 0))))
noncomputable def F_least_row:List D->Sto->Out D:=fnF Zbp 1 0
end CX
end
section
namespace CX
open PySem PySem.Spec L2 DL
open CV
open CB (Bd lrd)
noncomputable def ltP:List Pt->List Pt->Bool
 | [],[]=>false
 | [],_ :: _=>true
 |_ :: _,[]=>false
 |x :: xs,y :: ys=>if x=y then ltP xs ys else HT.ZbA [x.1,x.2] [y.1,y.2]
theorem ZfX {x y:Pt} {xs ys:List Pt}:ltP (x :: xs) (y :: ys)=if x=y then ltP xs ys else HT.ZbA [x.1,x.2] [y.1,y.2]:=rfl
theorem Zlw {x y:Pt}:HT.ZbA [x.1,x.2] [y.1,y.2]=decide (x.1 < y.1\/(x.1=y.1/\x.2 < y.2)):=by
 rw[HT.Zcp,HT.Zcp,HT.Zb8]
 by_cases c1:x.1=y.1
 ·rw[if_pos c1]
  by_cases c2:x.2=y.2
  ·rw[if_pos c2]
   exact (decide_eq_false (by omega)).symm
  ·rw[if_neg c2]
   exact decide_eq_decide.mpr (by omega)
 ·rw[if_neg c1]
  exact decide_eq_decide.mpr (by omega)
theorem Zos {x y:Pt} (h:x≠y):x.1≠y.1\/x.2≠y.2:=by
 by_cases c:x.1=y.1
 ·exact .inr fun z=>h (Prod.ext c z)
 ·exact .inl c
theorem Zfr: ∀ {xs ys:List Pt},ltP xs ys=false->ltP ys xs=false->xs=ys
 | [],[],_,_=>rfl
 | [],_ :: _,h,_=>by cases h
 |_ :: _,[],_,h=>by cases h
 |x :: xs,y :: ys,h1,h2=>by
  unfold ltP at h1 h2
  by_cases c:x=y
  ·rw[if_pos c] at h1
   rw[if_pos c.symm] at h2
   rw[c,Zfr h1 h2]
  ·rw[if_neg c,Zlw] at h1
   rw[if_neg (Ne.symm c),Zlw] at h2
   have:=of_decide_eq_false h1
   have:=of_decide_eq_false h2
   have:=Zos c
   omega
theorem Zc6: ∀ {xs ys zs:List Pt},ltP xs ys=true->ltP ys zs=true->ltP xs zs=true
 | [],[],_,h,_=>by cases h
 | [],_ :: _,[],_,h=>by cases h
 | [],_ :: _,_ :: _,_,_=>rfl
 |_ :: _,[],_,h,_=>by cases h
 |_ :: _,_ :: _,[],_,h=>by cases h
 |x :: xs,y :: ys,z :: zs,h1,h2=>by
  unfold ltP at h1 h2 ⊢
  by_cases c1:x=y
  ·subst c1
   rw[if_pos rfl] at h1
   by_cases c2:x=z
   ·subst c2
    rw[if_pos rfl] at h2 ⊢
    exact Zc6 h1 h2
   ·rw[if_neg c2] at h2 ⊢
    exact h2
  ·rw[if_neg c1,Zlw] at h1
   have h1:=of_decide_eq_true h1
   by_cases c2:y=z
   ·subst c2
    rw[if_neg c1,Zlw]
    exact decide_eq_true h1
   ·rw[if_neg c2,Zlw] at h2
    have h2:=of_decide_eq_true h2
    have c3:x≠z:=fun e=>by subst e;omega
    rw[if_neg c3,Zlw]
    exact decide_eq_true (by omega)
theorem ZdV: ∀ {xs:List Pt},ltP xs xs=false
 | []=>rfl
 |x :: xs=>by
  unfold ltP
  rw[if_pos rfl]
  exact ZdV
theorem tI (x:Pt):ZaS [D.int x.1,D.int x.2]=some [x.1,x.2]:=rfl
theorem ZjU {x y:Pt}:ltE (pr x.1 x.2) (pr y.1 y.2)=some (HT.ZbA [x.1,x.2] [y.1,y.2]):=rfl
theorem Zot {x y:Pt}:ltL.eqX (pr x.1 x.2) (pr y.1 y.2)=decide (x=y):=by
 show (ZaS [D.int x.1,D.int x.2] == ZaS [D.int y.1,D.int y.2])=_
 rw[tI,tI]
 by_cases c:x=y
 ·subst c;simp
 ·rw[decide_eq_false c]
  have:=Zos c
  simp
  omega
theorem Zfs: ∀ {xs ys:List Pt},ltL (prs xs) (prs ys)=some (ltP xs ys)
 | [],[]=>rfl
 | [],_ :: _=>rfl
 |_ :: _,[]=>rfl
 |x :: xs,y :: ys=>by
  show (match ltE (pr x.1 x.2) (pr y.1 y.2) with | none=>none | some b=>if ltL.eqX (pr x.1 x.2) (pr y.1 y.2)=true then ltL (prs xs) (prs ys) else some b)=_
  rw[ZjU,Zot,Zfs,ZfX]
  by_cases c:x=y
  ·simp[c]
  ·simp[c]
theorem Zft: ∀ {xs ys:List Pt},Zbu (prs xs) (prs ys)=true
 | [],[]=>rfl
 | [],_ :: _=>rfl
 |_ :: _,[]=>rfl
 |x :: xs,y :: ys=>by
  show ((ltE (pr x.1 x.2) (pr y.1 y.2)).isSome && Zbu (prs xs) (prs ys))=true
  rw[Zft,ZjU]
  rfl
section
variable {Q:D->Sto->Prop} {E:Str->Sto->Prop} {M:Sto} {n m p:Nat} {rs ls:List Pt}
theorem ZqY {xs ys:List Pt} (h1:M[n]?=some (.lst (prs xs))) (h2:M[m]?=some (.lst (prs ys))):wO (dLtL (.ref n) (.ref m) M) Q E=Q (.bl (ltP xs ys)) M:=by
 have:dLtL (.ref n) (.ref m) M= .ok (.bl (ltP xs ys)) M:=by
  simp only[dLtL,h1,h2,Zft,if_true,Zfs]
 rw[this]
 rfl
theorem Zto {f:Ev} {ρ:Ro}:wO (eR0 f ρ M) Q E=wO (f ρ M) (fun x M1=>wR x fun n=>wL M1[n]? fun xs=>Q (.ref M1.length) (M1 ++ [.lst (xs.drop 1).reverse])) E:=by
 unfold eR0
 rw[Zu]
 congr 1
 funext x M1
 cases x with
 |ref n=>
  show wO (match M1[n]? with | some (.lst xs)=> .ok (.ref M1.length) (M1 ++ [.lst (xs.drop 1).reverse]) | none=> .bad) Q E=wL M1[n]? _
  cases M1[n]? with
  |none=>rfl
  |some o=>cases o with | lst xs=>rfl
 |_=>rfl
theorem ZfY {κ:Type} [DecidableEq κ] {dec:D->Option κ} {k k0:κ} {v:D}: ∀ (ds:List D),(ZcJ dec k (ZjC dec k0 v ds)).isSome=(ZcJ dec k ds).isSome
 | []=>rfl
 |e :: r=>by
  have ih:=ZfY (dec:=dec) (k:=k) (k0:=k0) (v:=v) r
  cases e with
  |tup l=>
   rcases l with _ | ⟨a,_ | ⟨w,_ | ⟨z,l⟩⟩⟩
   ·exact ih
   ·exact ih
   ·show (ZcJ dec k ((if dec a=some k0 then .tup [a,v] else .tup [a,w]) :: ZjC dec k0 v r)).isSome=_
    split
    ·simp only[ZcJ]
     split
     ·rfl
     ·exact ih
    ·simp only[ZcJ]
     split
     ·rfl
     ·exact ih
   ·exact ih
  |_=>exact ih
theorem ZeG {κ:Type} [DecidableEq κ] {dec:D->Option κ} {k:κ} {a v:D}: ∀ (ds:List D),(ZcJ dec k (ds ++ [.tup [a,v]])).isSome=((ZcJ dec k ds).isSome || decide (dec a=some k))
 | []=>by
  simp only[List.nil_append,ZcJ]
  by_cases c:dec a=some k
  ·simp[c]
  ·simp[c]
 |e :: r=>by
  have ih:=ZeG (dec:=dec) (k:=k) (a:=a) (v:=v) r
  cases e with
  |tup l=>
   rcases l with _ | ⟨x,_ | ⟨w,_ | ⟨z,l⟩⟩⟩
   ·exact ih
   ·exact ih
   ·simp only[List.cons_append,ZcJ]
    split
    ·simp
    ·exact ih
   ·exact ih
  |_=>exact ih
theorem Zjf {κ:Type} [DecidableEq κ] {dec:D->Option κ} {k k0:κ} {kd v:D} (h:dec kd=some k0) (ds:List D):(ZcJ dec k (Zig dec k0 kd v ds)).isSome=((ZcJ dec k ds).isSome || decide (k0=k)):=by
 unfold Zig
 split
 ·rename_i c
  rw[ZfY]
  by_cases e:k0=k
  ·subst e;rw[c];simp
  ·simp[e]
 ·rw[ZeG,h]
  simp
noncomputable abbrev ky (p:Pt):List Key:=[.inl p.1,.inl p.2]
theorem Zou {p q:Pt}:ky p=ky q ↔ p=q:=by
 constructor
 ·intro h
  simp[ky] at h
  exact Prod.ext h.1 h.2
 ·rintro rfl;rfl
theorem Zlx {κ:Type} [DecidableEq κ] {dec:D->Option κ} {k0:κ} {kd v:D} (ds:List D):(Zig dec k0 kd v ds).length<=ds.length + 1:=by
 unfold Zig
 split
 ·unfold ZjC;rw[List.length_map];omega
 ·simp
theorem dcl (h:M[n]?=some (.lst (prs rs))) (hl:rs.length<=1000): ∀ (fuel i:Nat) (ds:List D) (x:Option D),i<=rs.length->rs.length<=fuel + i->ds.length<=i->
  ∃ ds',Zb3 (.sto n) (gNm 0) (fun _ M=> .ok true M) (Zd 0) (eC (.bl true)) M.length fuel i [x] (M ++ [.lst ds])= .ok () (M ++ [.lst ds'])/\ ∀ p,(ZcJ kT (ky p) ds').isSome=((ZcJ kT (ky p) ds).isSome || decide (p∈rs.drop i)):=by
 have hn:=Zs h
 intro fuel
 induction fuel with
 |zero=>
  intro i ds x hi hf hd
  have e:i=rs.length:=by omega
  have nx:nxt (.sto n) i (M ++ [.lst ds])=some none:=by
   rw[ZeA (xs:=prs rs) (by rw[Zbx hn];exact h),List.getElem?_eq_none (by rw[Zq];omega)]
  refine ⟨ds,?_,fun p=> ?_⟩
  ·unfold Zb3
   rw[nx]
  ·rw[List.drop_eq_nil_of_le (by omega)]
   simp
 |succ f ih=>
  intro i ds x hi hf hd
  by_cases e:i=rs.length
  ·have nx:nxt (.sto n) i (M ++ [.lst ds])=some none:=by
    rw[ZeA (xs:=prs rs) (by rw[Zbx hn];exact h),List.getElem?_eq_none (by rw[Zq];omega)]
   refine ⟨ds,?_,fun p=> ?_⟩
   ·unfold Zb3
    rw[nx]
   ·rw[List.drop_eq_nil_of_le (by omega)]
    simp
  ·have hi':i < rs.length:=by omega
   have nx:nxt (.sto n) i (M ++ [.lst ds])=some (some (pr rs[i].1 rs[i].2)):=by
    rw[ZeA (xs:=prs rs) (by rw[Zbx hn];exact h)]
    congr 1
    unfold prs
    rw[List.getElem?_map,List.getElem?_eq_getElem hi']
    rfl
   have pt:ZmM (M ++ [.lst ds]) (.dt M.length) (pr rs[i].1 rs[i].2) (.bl true)=some (M ++ [.lst (Zig kT (ky rs[i]) (pr rs[i].1 rs[i].2) (.bl true) ds)]):=by
    have e1:kT (pr rs[i].1 rs[i].2)=some (ky rs[i]):=rfl
    have e2:(M ++ [SO.lst ds])[M.length]?=some (.lst ds):=by simp
    simp only[ZmM,e1,e2]
    rw[if_pos (by omega)]
    simp
   obtain ⟨ds',h1,h2⟩:=ih (i + 1) (Zig kT (ky rs[i]) (pr rs[i].1 rs[i].2) (.bl true) ds) (some (pr rs[i].1 rs[i].2)) (by omega) (by omega) (by have:=Zlx (dec:=kT) (k0:=ky rs[i]) (kd:=pr rs[i].1 rs[i].2) (v:= .bl true) ds;omega)
   refine ⟨ds',?_,fun p=> ?_⟩
   ·unfold Zb3
    rw[nx]
    show (match ZmM (M ++ [.lst ds]) (.dt M.length) (pr rs[i].1 rs[i].2) (.bl true) with | some M4=>Zb3 (.sto n) (gNm 0) (fun _ M=> .ok true M) (Zd 0) (eC (.bl true)) M.length f (i + 1) [some (pr rs[i].1 rs[i].2)] M4 | none=> .bad)=_
    rw[pt]
    exact h1
   ·rw[h2,Zjf (dec:=kT) (show kT (pr rs[i].1 rs[i].2)=some (ky rs[i]) from rfl),List.drop_eq_getElem_cons hi']
    simp only[List.mem_cons,Zou,Bool.or_assoc,Bool.decide_or]
    congr 2
    exact decide_eq_decide.mpr ⟨Eq.symm,Eq.symm⟩
end
end CX
end
section
namespace CX
open PySem PySem.Spec L2 DL
open CV
open CB (Bd lrd)
section
variable {Q:D->Sto->Prop} {E:Str->Sto->Prop} {M:Sto} {n m p:Nat} {rs ls:List Pt}
theorem Zly {r:Ro} (h:M[n]?=some (.lst (prs rs))) (hl:rs.length<=1000) (q: ∀ ds,(∀ p,(ZcJ kT (ky p) ds).isSome=decide (p∈rs))->Q (.dt M.length) (M ++ [.lst ds])):wO (Zdv (iSq (Zd 0)) 1 [] (gNm 0) (fun _ M=> .ok true M) (Zd 0) (eC (.bl true)) (some (.ref n) :: r) M) Q E:=by
 obtain ⟨ds,h1,h2⟩:=dcl h hl (cnt (.sto n) M) 0 [] none (by omega) (by rw[Zfd h,Zq];omega) (by simp)
 have e:Zdv (iSq (Zd 0)) 1 [] (gNm 0) (fun _ M=> .ok true M) (Zd 0) (eC (.bl true)) (some (.ref n) :: r) M= .ok (.dt M.length) (M ++ [.lst ds]):=by
  show (match Zb3 (.sto n) (gNm 0) (fun _ M=> .ok true M) (Zd 0) (eC (.bl true)) M.length (cnt (.sto n) M) 0 [none] (M ++ [.lst []]) with | .ok _ M2=>Out.ok (D.dt M.length) M2 | _=> .bad)=_
  rw[h1]
 rw[e]
 refine q ds fun p=> ?_
 rw[h2 p]
 simp[ZcJ]
theorem ZqZ {ds:List D} {x:Pt} (h:M[n]?=some (.lst ds)) (hd: ∀ p,(ZcJ kT (ky p) ds).isSome=decide (p∈rs)):wO (ZkF false (pr x.1 x.2) (.dt n) M) Q E=Q (.bl (decide (x∈rs))) M:=by
 have e1:kT (pr x.1 x.2)=some (ky x):=rfl
 have:ZkF false (pr x.1 x.2) (.dt n) M= .ok (.bl (decide (x∈rs))) M:=by
  simp only[ZkF,Zgh,e1,h,hd]
  simp
 rw[this]
 rfl
noncomputable def mkr (rs ls:List Pt):List Pt:=(List.range ls.length).map fun (i:Nat)=>(T ls i,if cy ls i∈rs then 1 else 0)
theorem ZbI:(mkr rs ls).length=ls.length:=by unfold mkr;simp
theorem ZdW (h1:M[n]?=some (.lst (prs rs))) (h2:M[m]?=some (.lst (prs ls))) (hs:Smo ls) (hl1:rs.length<=1000) (hl2:ls.length<=1000000) (hb:Nr 18446744073709551615 ls) (q: ∀ o M',Kp M M'->M.length<=o->M'[o]?=some (.lst (prs (mkr rs ls)))->Q (.ref o) M'):wO (F_marked_row [.ref n,.ref m] M) Q E:=by
 have hn:=Zs h1
 have hm:=Zs h2
 simp![F_marked_row,Za3]
 refine Zly h1 hl1 fun ds hds=> ?_
 have h2':(M ++ [SO.lst ds])[m]?=some (.lst (prs ls)):=by rw[Zbx hm];exact h2
 have rd:(M ++ [SO.lst ds])[M.length]?=some (.lst ds):=by simp
 have K1:Kp M (M ++ [SO.lst ds]):=Kp.app
 have l1:(M ++ [SO.lst ds]).length=M.length + 1:=by simp
 generalize M ++ [SO.lst ds]=M1 at *
 simp![Zl]
 refine CE.ZhX h2' hs hl2 hb ?_
 have h3:(M1 ++ [SO.lst (nts (Zcg ls))])[m]?=some (.lst (prs ls)):=by rw[Zbx (Zs h2')];exact h2'
 have r3:(M1 ++ [SO.lst (nts (Zcg ls))])[M1.length]?=some (.lst (nts (Zcg ls))):=by simp
 have rd3:(M1 ++ [SO.lst (nts (Zcg ls))])[M.length]?=some (.lst ds):=by rw[Zbx (Zs rd)];exact rd
 have K3:Kp M (M1 ++ [SO.lst (nts (Zcg ls))]):=K1.trans Kp.app
 generalize M1 ++ [SO.lst (nts (Zcg ls))]=M3 at *
 have tl:(Zcg ls).length=ls.length:=by unfold Zcg;simp
 have zl:(List.zipWith (fun a b=>D.tup [a,b]) (nts (Zcg ls)) (prs ls)).length=ls.length:=by simp[Zq,Zb4,tl]
 have hm3:=Zs h3
 have hr3:=Zs r3
 have hd3:=Zs rd3
 simp![Zl]
 refine ZoP (xs:=List.zipWith (fun a b=>D.tup [a,b]) (nts (Zcg ls)) (prs ls)) (fun ρ=> ∃ x y,ρ=[x,y,some (.dt M.length)]) (fun (i:Nat)=>pr (T ls i) (if cy ls i∈rs then 1 else 0)) (by omega) (by rw[Zk4 r3,zl,Zb4,tl];omega) ⟨_,_,rfl⟩ (fun L i hi=> ?_) ?_ ?_
 ·rw[ZnK (by rw[Zbx hr3];exact r3) (by rw[Zbx hm3];exact h3)]
 ·rintro i hi ρ L ⟨x,y,rfl⟩
  rw[zl] at hi
  have hp':(M3 ++ L)[M.length]?=some (.lst ds):=by rw[Zbx hd3];exact rd3
  have en:(nts (Zcg ls))[i]'(by rw[Zb4,tl];exact hi)=D.int (T ls i):=by simp[nts,Zcg]
  rw[List.getElem_zipWith,CC.ZaT,en]
  simp![ZqZ hp' hds]
  refine ⟨⟨_,_,rfl⟩,brO (fun z=> ?_) (fun z=> ?_)⟩
  ·simp![Zl]
   rw[if_pos z]
  ·simp![Zl]
   rw[if_neg z]
 have en:((List.range (List.zipWith (fun a b=>D.tup [a,b]) (nts (Zcg ls)) (prs ls)).length).map fun (i:Nat)=>pr (T ls i) (if cy ls i∈rs then 1 else 0))=prs (mkr rs ls):=by
  rw[zl]
  unfold mkr prs
  rw[List.map_map]
  rfl
 rw[en]
 exact q _ _ (K3.trans Kp.app) (by have:=K3.1;omega) (by simp)
end
end CX
end
section
namespace CX
open PySem PySem.Spec L2 DL
open CV
open CB (Bd lrd)
noncomputable def onw (L:List Pt) (i:Nat):List Pt:=L.drop i ++ L.take i
noncomputable def rdg (L:List Pt) (i:Nat) (b:Bool):List Pt:=if b then (onw L i).take 1 ++ ((onw L i).drop 1).reverse else onw L i
noncomputable def bsd (ls:List Pt) (i:Nat) (b:Bool):Pt:=if b then cy ls ((i:Int) - 1) else cy ls ((i:Int) + 1)
noncomputable def Bst (lo:Nat) (L ls:List Pt) (S:Nat->Bool->Prop) (v3 v4:D) (M:Sto):Prop:=(v3= .non/\v4= .non/\ ∀ i b,¬ S i b)\/ ∃ i b o,(S i b/\lo<=o)/\v3= .ref o/\v4= .tup [pr (cy ls (i:Nat)).1 (cy ls (i:Nat)).2,pr (bsd ls i b).1 (bsd ls i b).2]/\M[o]?=some (.lst (prs (rdg L i b)))/\ ∀ i' b',S i' b'->ltP (rdg L i' b') (rdg L i b)=false
theorem Bst.congr {lo:Nat} {L ls:List Pt} {S S':Nat->Bool->Prop} {v3 v4:D} {M:Sto} (h: ∀ i b,S i b ↔ S' i b) (k:Bst lo L ls S v3 v4 M):Bst lo L ls S' v3 v4 M:=by
 rcases k with ⟨h1,h2,h3⟩ | ⟨i,b,o,h1,h2,h3,h4,h5⟩
 ·exact .inl ⟨h1,h2,fun i b k=>h3 i b ((h i b).mpr k)⟩
 ·exact .inr ⟨i,b,o,⟨(h i b).mp h1.1,h1.2⟩,h2,h3,h4,fun i' b' k=>h5 i' b' ((h i' b').mpr k)⟩
theorem Bst.kp {lo:Nat} {L ls:List Pt} {S:Nat->Bool->Prop} {v3 v4:D} {M M':Sto} (k:Bst lo L ls S v3 v4 M) (K:Kp M M'):Bst lo L ls S v3 v4 M':=by
 rcases k with h | ⟨i,b,o,h1,h2,h3,h4,h5⟩
 ·exact .inl h
 ·exact .inr ⟨i,b,o,h1,h2,h3,K.get h4,h5⟩
section
variable {Q:D->Sto->Prop} {E:Str->Sto->Prop} {M:Sto} {n m p:Nat} {rs ls L:List Pt} {N B C:Ro->Sto->Prop} {R:D->Sto->Prop}
theorem Zov:isP D.non D.non=some true:=rfl
theorem Zow {o:Nat}:isP (D.ref o) D.non=some false:=rfl
theorem Zr4 {lo i:Nat} {bk:Bool} {S:Nat->Bool->Prop} {v3 v4:D} {r:Nat} {a0 a1 a2 a5 a7 a8:Option D} (hr:M[r]?=some (.lst (prs (rdg L i bk)))) (hlo:lo<=r) (hB:Bst lo L ls S v3 v4 M)
  (hN: ∀ v3 v4,Bst lo L ls (fun i' b'=>S i' b'\/(i'=i/\b'=bk)) v3 v4 M->N [a0,a1,a2,some v3,some v4,a5,some (pr (cy ls i).1 (cy ls i).2),a7,a8,some (.ref r),some (pr (bsd ls i bk).1 (bsd ls i bk).2)] M):
  wS (ZE [a0,a1,a2,some v3,some v4,a5,some (pr (cy ls i).1 (cy ls i).2),a7,a8,some (.ref r),some (pr (bsd ls i bk).1 (bsd ls i bk).2)] M) N R B C E:=by
 rcases hB with ⟨rfl,rfl,h0⟩ | ⟨i0,b0,o,s0,rfl,rfl,ro,hb⟩
 ·simp![ZE,Zov]
  refine hN _ _ (.inr ⟨i,bk,r,⟨.inr ⟨rfl,rfl⟩,hlo⟩,rfl,rfl,hr,fun i' b' h=> ?_⟩)
  rcases h with h | ⟨rfl,rfl⟩
  ·exact absurd h (h0 i' b')
  ·exact ZdV
 ·simp![ZE,Zow,ZqY hr ro]
  refine Zqd (fun z=> ?_) (fun z=> ?_)
  ·simp![Zl]
   refine hN _ _ (.inr ⟨i,bk,r,⟨.inr ⟨rfl,rfl⟩,hlo⟩,rfl,rfl,hr,fun i' b' h=> ?_⟩)
   rcases h with h | ⟨rfl,rfl⟩
   ·have:=hb i' b' h
    cases e:ltP (rdg L i' b') (rdg L i bk) with
    |false=>rfl
    |true=>rw[Zc6 e z] at this;cases this
   ·exact ZdV
  ·simp![Zl]
   refine hN _ _ (.inr ⟨i0,b0,o,⟨.inl s0.1,s0.2⟩,rfl,rfl,ro,fun i' b' h=> ?_⟩)
   rcases h with h | ⟨rfl,rfl⟩
   ·exact hb i' b' h
   ·exact z
noncomputable def St (i t:Nat) (i':Nat) (b':Bool):Prop:=i' < i\/(i'=i/\((b'=false/\0 < t)\/(b'=true/\1 < t)))
theorem Zib (h:M[n]?=some (.lst (prs rs))) (hr:Rn rs) (hb:Nr 200 rs) (hl:rs.length<=61) (hll:(lrd rs).length<=1000000)
  (q: ∀ i b o M',Kp M M'->i < (lrd rs).length->(∀ i' b',i' < (lrd rs).length->ltP (rdg (mkr rs (lrd rs)) i' b') (rdg (mkr rs (lrd rs)) i b)=false)->M.length<=o->M'[o]?=some (.lst (prs (rdg (mkr rs (lrd rs)) i b)))->Q (.tup [.ref o,.tup [pr (cy (lrd rs) (i:Nat)).1 (cy (lrd rs) (i:Nat)).2,pr (bsd (lrd rs) i b).1 (bsd (lrd rs) i b).2]]) M'):wO (F_first_reading [.ref n] M) Q E:=by
 have hn:=Zs h
 have hs:=hr.least hb
 have W:=hr.wgs hb
 have lb:Nr 18446744073709551615 (lrd rs):=fun x hx=>by
  have:=CB.Zfm (B:=200) (by decide) _ W (fun y hy=>hb y (by
   rcases List.mem_append.mp hy with hy | hy
   ·exact hy
   ·exact List.mem_of_mem_take hy)) x hx
  obtain ⟨⟨a1,a2⟩,a3,a4⟩:=this
  omega
 simp![F_first_reading,Zai]
 refine CL.ZdT h hr.ne W hl (fun x hx=>hb x hx) fun M1 K1 r1=> ?_
 generalize hls:lrd rs=ls at *
 have l1:=Zs r1
 generalize hm1:M.length=m1 at *
 simp![Zl]
 refine ZdW (K1.get h) r1 hs (by omega) hll lb fun k M2 K2 k2 r2=> ?_
 generalize hL:mkr rs ls=L at *
 have Ll:L.length=ls.length:=by rw[<- hL,ZbI]
 have r12:=K2.get r1
 have K12:=K1.trans K2
 simp![Zl]
 refine ZhR (fun i ρ M'=>Kp M2 M'/\ ∃ v3 v4 x5 x6 x7 x8 x9 x10,ρ=[some (.ref n),some (.ref m1),some (.ref k),some v3,some v4,x5,x6,x7,x8,x9,x10]/\Bst m1 L ls (St i 0) v3 v4 M') r12 ⟨Kp.refl,_,_,_,_,_,_,_,_,rfl,.inl ⟨rfl,rfl,fun i b z=>by unfold St at z;omega⟩⟩ (fun i ρ M' hI=>hI.1.get r12) ?_ ?_
 ·rintro i ρ M3 hi ⟨K3,v3,v4,x5,x6,x7,x8,x9,x10,rfl,hB⟩
  rw[Zq] at hi
  rw[CC.ZaT]
  have r3:=K3.get r2
  have s3:=K3.get r12
  have hk3:=Zs r3
  have hm3:=Zs s3
  have ei:((i:Nat):Int).toNat=i:=by omega
  simp![ZV,r3,Zto]
  refine ⟨by rw[List.length_take,List.length_drop];omega,?_⟩
  rw[ei]
  refine ⟨by rw[List.length_reverse,Zq,List.length_take,List.length_drop,List.length_append,List.length_take,List.length_drop];omega,?_⟩
  generalize hM4:M3 ++ [SO.lst (prs (L.drop i)),SO.lst (prs (L.take i)),SO.lst (prs (L.drop i ++ L.take i)),SO.lst (prs ((L.drop i ++ L.take i).take 1)),SO.lst (prs ((L.drop i ++ L.take i).drop 1)).reverse,SO.lst (prs ((L.drop i ++ L.take i).take 1) ++ (prs ((L.drop i ++ L.take i).drop 1)).reverse)]=M4
  have K4:Kp M3 M4:=by rw[<- hM4];exact Kp.app
  have s4:=K4.get s3
  have ro:M4[M3.length + 2]?=some (.lst (prs (rdg L i false))):=by rw[<- hM4,Zgw];rfl
  have rb:M4[M3.length + 5]?=some (.lst (prs (rdg L i true))):=by
   rw[<- hM4,Zgw]
   simp[rdg,onw,prs]
  have hB4:=hB.kp K4
  have KK:=K3.trans K4
  clear hM4
  have kl:=(K12.trans K3).1
  have g1:m1<=M3.length + 2:=by omega
  have g2:m1<=M3.length + 5:=by omega
  generalize M3.length + 2=o1 at *
  generalize M3.length + 5=o2 at *
  have hm4:=Zs s4
  rw[CC.Zbj s4 (by omega)]
  simp![s4,Zdx]
  have K5:Kp M4 (M4 ++ [SO.lst [D.tup [D.ref o1,pr (cy ls ((i:Int) + 1)).1 (cy ls ((i:Int) + 1)).2],D.tup [D.ref o2,pr (cy ls ((i:Int) - 1)).1 (cy ls ((i:Int) - 1)).2]]]):=Kp.app
  have r5:(M4 ++ [SO.lst [D.tup [D.ref o1,pr (cy ls ((i:Int) + 1)).1 (cy ls ((i:Int) + 1)).2],D.tup [D.ref o2,pr (cy ls ((i:Int) - 1)).1 (cy ls ((i:Int) - 1)).2]]])[M4.length]?=some (.lst [D.tup [D.ref o1,pr (cy ls ((i:Int) + 1)).1 (cy ls ((i:Int) + 1)).2],D.tup [D.ref o2,pr (cy ls ((i:Int) - 1)).1 (cy ls ((i:Int) - 1)).2]]):=by simp
  generalize M4 ++ [SO.lst [D.tup [D.ref o1,pr (cy ls ((i:Int) + 1)).1 (cy ls ((i:Int) + 1)).2],D.tup [D.ref o2,pr (cy ls ((i:Int) - 1)).1 (cy ls ((i:Int) - 1)).2]]]=M5 at *
  have ro5:=K5.get ro
  have rb5:=K5.get rb
  have hB5:=hB4.kp K5
  refine ZdR (fun t ρ M'=>M'=M5/\ ∃ v3 v4 x9 x10,ρ=[some (.ref n),some (.ref m1),some (.ref k),some v3,some v4,some (.int i),some (pr (cy ls i).1 (cy ls i).2),some (.ref o1),some (.ref o2),x9,x10]/\Bst m1 L ls (St i t) v3 v4 M5) r5 ⟨rfl,_,_,_,_,rfl,hB5⟩ (fun t ρ M' hI=>by rw[hI.1];exact r5) ?_ ?_
  ·rintro t ρ M' ht ⟨rfl,v3,v4,x9,x10,rfl,hB⟩
   have:t=0\/t=1:=by simp at ht;omega
   rcases this with rfl | rfl
   ·simp only[List.getElem_cons_zero]
    simp![Zl]
    refine Zr4 (i:=i) (bk:=false) ro5 (by omega) hB fun v3 v4 k=>⟨rfl,v3,v4,_,_,rfl,k.congr fun i' b'=> ?_⟩
    unfold St
    cases b'<;>simp
   ·simp only[List.getElem_cons_succ,List.getElem_cons_zero]
    simp![Zl]
    refine Zr4 (i:=i) (bk:=true) rb5 (by omega) hB fun v3 v4 k=>⟨rfl,v3,v4,_,_,rfl,k.congr fun i' b'=> ?_⟩
    unfold St
    cases b'<;>simp
  ·rintro ρ M' ⟨rfl,v3,v4,x9,x10,rfl,hB⟩
   refine ⟨KK.trans K5,v3,v4,_,_,_,_,_,_,rfl,hB.congr fun i' b'=> ?_⟩
   unfold St
   cases b'<;>simp<;>omega
 ·rintro ρ M3 ⟨K3,v3,v4,x5,x6,x7,x8,x9,x10,rfl,hB⟩
  have sl:=hs.len
  rcases hB with ⟨h1,h2,h3⟩ | ⟨i,b,o,h1,rfl,rfl,h4,h5⟩
  ·exact absurd (.inl (by rw[Zq];omega)) (h3 0 false)
  ·simp![Zl]
   unfold St at h1 h5
   rw[Zq] at h1 h5
   exact q i b o M3 (K12.trans K3) (by omega) (fun i' b' hi'=>h5 i' b' (.inl hi')) h1.2 h4
end
end CX
end
section
namespace CX
open PySem PySem.Spec L2 DL
open CB (Bd lrd ZbH seg)
open CD (gg ZjT sg)
section
variable {rs ls L L' O:List Pt}
noncomputable def sn (b:Bool):Int:=if b then -1 else 1
theorem ZdX {i:Nat} {b:Bool}:(rdg L i b).Perm L:=by
 have o:(onw L i).Perm L:=by
  unfold onw
  refine List.perm_append_comm.trans ?_
  rw[List.take_append_drop]
 cases b with
 |false=>exact o
 |true=>
  show ((onw L i).take 1 ++ ((onw L i).drop 1).reverse).Perm L
  refine List.Perm.trans ?_ o
  conv=>rhs;rw[<- List.take_append_drop 1 (onw L i)]
  exact List.Perm.append_left _ (List.reverse_perm _)
end
end CX
end
section
namespace K33
open PySem PySem.Spec L2 DL
noncomputable def top (i:Nat):Stmt:=PySem.Challenge.pw_rayround_k33_least_rows.main.body.getD i (.Pass ⟨0,0,0,0⟩)
structure Txt (K:PySem.W.Frag) (mg:Str->Option Value):Prop where
 gl: ∀ c v,PySem.W.nsIn K mainGlobals c=some (some v)->mg c=some v
 b_len:mg "len"=none
 b_enumerate:mg "enumerate"=none
 b_range:mg "range"=none
 b_zip:mg "zip"=none
 b_int:mg "int"=none
 b_abs:mg "abs"=none
 b_max:mg "max"=none
 b_reversed:mg "reversed"=none
 b_list:mg "list"=none
 b_min:mg "min"=none
 b_isinstance:mg "isinstance"=none
 b_tuple:mg "tuple"=none
 b_all:mg "all"=none
 ex_NotSmooth:Zkv K "NotSmooth"=true
 ex_NoWedge:Zkv K "NoWedge"=true
section
variable {P:Program} {w:World} {K:PySem.W.Frag} {mg:Str->Option Value} {base:Heap}
noncomputable abbrev Zbd:Stmt:=top 5
noncomputable def Z3:Sv:=(Z1 (e2 dSub (e2 dMul (e2 dIx (Zd 0) (eC (.int 0))) (e2 dIx (Zd 1) (eC (.int 1)))) (e2 dMul (e2 dIx (Zd 0) (eC (.int 1))) (e2 dIx (Zd 1) (eC (.int 0))))))
noncomputable def F_crossed:List D->Sto->Out D:=fnF Z3 2 0
theorem Zgn:FnScope ["one","other"] ["one","other"] (Zi Zbd):=⟨rfl,rfl,rfl,by decide +kernel,rfl,by decide +kernel,by decide +kernel⟩
theorem Zgo {f:Addr} {fd:FuncData} (F:Fun K "crossed" "crossed" Zbd f fd) (T:Txt K mg):FnOk P w K mg base (CXE P w) 1 f fd ["one","other"] (spD K F_crossed):=
 Zaz F Zgn rfl rfl fun cdv A outer s H E hr θ=>(Zk (ZG (Z9 (ZK (ZC (Zc 0) Zf) (ZC (Zc 1) Zf)) (ZK (ZC (Zc 0) Zf) (ZC (Zc 1) Zf)))))
noncomputable abbrev Zan:Stmt:=top 7
noncomputable def Zal:Sv:=(Z1 (e2 dIx (Zd 0) (e2 dMod (e2 dAdd (Zd 1) (eC (.int 1))) (Zh bLen (Zb (Zd 0) aNil)))))
noncomputable def F_following:List D->Sto->Out D:=fnF Zal 2 0
theorem ZeH:FnScope ["things","at"] ["things","at"] (Zi Zan):=⟨rfl,rfl,rfl,by decide +kernel,rfl,by decide +kernel,by decide +kernel⟩
theorem ZeI {f:Addr} {fd:FuncData} (F:Fun K "following" "following" Zan f fd) (T:Txt K mg):FnOk P w K mg base (CXE P w) 1 f fd ["things","at"] (spD K F_following):=
 Zaz F ZeH rfl rfl fun cdv A outer s H E hr θ=>(Zk (ZG (ZC (Zc 0) (ZbB (ZJ (Zc 1) Zf) (Zt Zw ZaY T.b_len PySem.boot_len (Za (Zc 0) Ze))))))
noncomputable abbrev Zao:Stmt:=top 8
noncomputable def ZP:Sv:=(sIf (tv (e2 dNe (Zh F_crossed (Zb (Zd 2) (Zb (Zh F_following (Zb (Zd 0) (Zb (Zd 1) aNil))) aNil))) (eC (.int 1)))) (Z1 (Zd 1)) sNil)
noncomputable def Zam:Sv:=(Zn (ZcU (gTp (gCs (gNm 1) (gCs (gNm 2) gNl))) (iEn (Zb (Zd 0) aNil)) ZP)
 (Z1 (eC .non)))
noncomputable def F_unspanned:List D->Sto->Out D:=fnF Zam 1 2
theorem ZbJ:FnScope ["rays","at","ray"] ["rays"] (Zi Zao):=⟨rfl,rfl,rfl,by decide +kernel,rfl,by decide +kernel,by decide +kernel⟩
theorem ZeJ {f:Addr} {fd:FuncData} (F:Fun K "unspanned" "unspanned" Zao f fd) (T:Txt K mg) (C_following:Cal P w K mg base "following" 1 2 F_following) (C_crossed:Cal P w K mg base "crossed" 1 2 F_crossed):FnOk P w K mg base (CXE P w) 101 f fd ["rays"] (spD K F_unspanned):=
 Zaz F ZbJ rfl rfl fun cdv A outer s H E hr θ=>(Zg (ZdL θ.own (Ze7 (hr.hd (by decide)) T.b_enumerate (Za (Zc 0) Ze)) (Zbs (ZD hr (by decide)) (Zy (Zp 1 ZbJ.nd) (Zy (Zp 2 ZbJ.nd) ZaF)) (hlen:=(ZF (ZF (fun _ _ _ h=>ZaG h))))) (Zk (Zbv (ZU (Zdp hr.units) Zgc (Zj C_crossed θ (hr.mono (by decide)) (Za (Zc 2) (Za (Zj C_following θ (hr.mono (by decide)) (Za (Zc 0) (Za (Zc 1) Ze))) Ze))) Zf) (Zk (ZG (Zc 1))) ZT)))
  (Zk (ZG Zek)))
noncomputable abbrev Zab:Stmt:=top 9
noncomputable def Zaa:Sv:=(Zn (ZB (gNm 1) (Zh F_unspanned (Zb (Zd 0) aNil)))
 (sIf (tv (e2 dIsNot (Zd 1) (eC .non))) (Zcc (PySem.Str.ofString "NotSmooth") (Zb (eFs (Zdg (eC (.str (PySem.Str.ofString "ray "))) (Zdg (eFm (Zd 1)) (Zdg (eC (.str (PySem.Str.ofString " does not cross the next one in 1"))) jNil)))) aNil)) sNil))
noncomputable def F_ask_smooth:List D->Sto->Out D:=fnF Zaa 1 1
theorem Zcl:FnScope ["rays","at"] ["rays"] (Zi Zab):=⟨rfl,rfl,rfl,by decide +kernel,rfl,by decide +kernel,by decide +kernel⟩
theorem ZdY {f:Addr} {fd:FuncData} (F:Fun K "ask_smooth" "ask_smooth" Zab f fd) (T:Txt K mg) (C_unspanned:Cal P w K mg base "unspanned" 101 1 F_unspanned):FnOk P w K mg base (CXE P w) 102 f fd ["rays"] (spD K F_ask_smooth):=
 Zaz F Zcl rfl rfl fun cdv A outer s H E hr θ=>(Zg (Zo 1 Zcl.nd (Zj C_unspanned θ (hr.mono (by decide)) (Za (Zc 0) Ze)))
  (Zk (Zbv (ZU Zhd ZiD (Zc 1) Zek) (Zk (ZfM θ T.ex_NotSmooth T.gl (hr.hd (by decide)) (Za (Zpl (Zfb Zg7 (Zfb (Zpk (Zc 1)) (Zfb Zg7 ZmP)))) Ze))) ZT)))
noncomputable abbrev Zbe:Stmt:=top 11
noncomputable def ZaZ:Sv:=(Zn (ZB (gNm 5) (e2 dDiv (Zd 1) (Zd 2)))
 (Zn (Zd6 1 2 (Zb (Zd 2) (Zb (e2 dSub (Zd 1) (e2 dMul (Zd 5) (Zd 2))) aNil)))
 (Zd6 3 4 (Zb (Zd 4) (Zb (Z5 (Zb (e2 dSub (e2 dIx (Zd 3) (eC (.int 0))) (e2 dMul (Zd 5) (e2 dIx (Zd 4) (eC (.int 0))))) (Zb (e2 dSub (e2 dIx (Zd 3) (eC (.int 1))) (e2 dMul (Zd 5) (e2 dIx (Zd 4) (eC (.int 1))))) aNil))) aNil)))))
noncomputable def Zci:Sv:=(Zn (ZB (gTp (gCs (gNm 1) (gCs (gNm 2) gNl))) (Zd 0))
 (Zn (ZB (gTp (gCs (gNm 3) (gCs (gNm 4) gNl))) (Z5 (Zb (Z5 (Zb (eC (.int 0)) (Zb (eC (.int 1)) aNil))) (Zb (Z5 (Zb (Zdf (eC (.int 1))) (Zb (eC (.int 0)) aNil))) aNil))))
 (Zn (sWh (tv (e2 dNe (Zd 2) (eC (.int 0)))) ZaZ)
 (Z1 (Z5 (Zb (e2 dMul (Zd 1) (e2 dIx (Zd 3) (eC (.int 0)))) (Zb (e2 dMul (Zd 1) (e2 dIx (Zd 3) (eC (.int 1)))) aNil)))))))
noncomputable def F_partner:List D->Sto->Out D:=fnF Zci 1 5
theorem Zac:FnScope ["ray","high","low","first","second","many"] ["ray"] (Zi Zbe):=⟨rfl,rfl,rfl,by decide +kernel,rfl,by decide +kernel,by decide +kernel⟩
theorem Zgp {f:Addr} {fd:FuncData} (F:Fun K "partner" "partner" Zbe f fd) (T:Txt K mg):FnOk P w K mg base (CXE P w) 101 f fd ["ray"] (spD K F_partner):=
 Zaz F Zac rfl rfl fun cdv A outer s H E hr θ=>(Zg (Zhh (Zc 0) (Zbs (ZD hr (by decide)) (Zy (Zp 1 Zac.nd) (Zy (Zp 2 Zac.nd) ZaF)) (hlen:=(ZF (ZF (fun _ _ _ h=>ZaG h))))))
  (Zg (Zhh (ZH (Za (ZH (Za Zf (Za Zf Ze))) (Za (ZH (Za (ZbC Zf) (Za Zf Ze))) Ze))) (Zbs (ZD hr (by decide)) (Zy (Zp 3 Zac.nd) (Zy (Zp 4 Zac.nd) ZaF)) (hlen:=(ZF (ZF (fun _ _ _ h=>ZaG h))))))
  (Zg (ZdH θ.own (ZU (Zdp hr.units) Zgc (Zc 2) Zf) (Zg (Zo 5 Zac.nd (Zcv (Zc 1) (Zc 2)))
  (Zg (ZcR 1 2 (ZD hr (by decide)) Zac.nd (Za (Zc 2) (Za (Z9 (Zc 1) (ZK (Zc 5) (Zc 2))) Ze)))
  (Zk (ZcR 3 4 (ZD hr (by decide)) Zac.nd (Za (Zc 4) (Za (ZH (Za (Z9 (ZC (Zc 3) Zf) (ZK (Zc 5) (ZC (Zc 4) Zf))) (Za (Z9 (ZC (Zc 3) Zf) (ZK (Zc 5) (ZC (Zc 4) Zf))) Ze))) Ze)))))))
  (Zk (ZG (ZH (Za (ZK (Zc 1) (ZC (Zc 3) Zf)) (Za (ZK (Zc 1) (ZC (Zc 3) Zf)) Ze))))))))
noncomputable abbrev ZQ:Stmt:=top 12
noncomputable def Zau:Sv:=(Zn (ZB (gNm 2) (Zh F_partner (Zb (Zd 0) aNil)))
 (Zn (ZB (gNm 3) (e2 dDiv (Zh F_crossed (Zb (Zd 2) (Zb (Zd 1) aNil))) (Zh F_crossed (Zb (Zd 0) (Zb (Zd 1) aNil)))))
 (Z1 (Z5 (Zb (e2 dSub (e2 dIx (Zd 2) (eC (.int 0))) (e2 dMul (Zd 3) (e2 dIx (Zd 0) (eC (.int 0))))) (Zb (e2 dSub (e2 dIx (Zd 2) (eC (.int 1))) (e2 dMul (Zd 3) (e2 dIx (Zd 0) (eC (.int 1))))) aNil))))))
noncomputable def F_first_behind:List D->Sto->Out D:=fnF Zau 2 2
theorem ZaU:FnScope ["u","v","w","many"] ["u","v"] (Zi ZQ):=⟨rfl,rfl,rfl,by decide +kernel,rfl,by decide +kernel,by decide +kernel⟩
theorem Zc7 {f:Addr} {fd:FuncData} (F:Fun K "first_behind" "first_behind" ZQ f fd) (T:Txt K mg) (C_partner:Cal P w K mg base "partner" 101 1 F_partner) (C_crossed:Cal P w K mg base "crossed" 1 2 F_crossed):FnOk P w K mg base (CXE P w) 102 f fd ["u","v"] (spD K F_first_behind):=
 Zaz F ZaU rfl rfl fun cdv A outer s H E hr θ=>(Zg (Zo 2 ZaU.nd (Zj C_partner θ (hr.mono (by decide)) (Za (Zc 0) Ze)))
  (Zg (Zo 3 ZaU.nd (Zcv (Zj C_crossed θ (hr.mono (by decide)) (Za (Zc 2) (Za (Zc 1) Ze))) (Zj C_crossed θ (hr.mono (by decide)) (Za (Zc 0) (Za (Zc 1) Ze)))))
  (Zk (ZG (ZH (Za (Z9 (ZC (Zc 2) Zf) (ZK (Zc 3) (ZC (Zc 0) Zf))) (Za (Z9 (ZC (Zc 2) Zf) (ZK (Zc 3) (ZC (Zc 0) Zf))) Ze)))))))
noncomputable abbrev ZaN:Stmt:=top 13
noncomputable def ZaK:Sv:=(Zn (ZB (gNm 3) (Zdf (e2 dDiv (Zdf (Zd 0)) (Zd 1))))
 (Zn (ZbY (Zer mApp (Zd 2) (Zb (Zd 3) aNil)))
 (Zd6 0 1 (Zb (Zd 1) (Zb (e2 dSub (e2 dMul (Zd 3) (Zd 1)) (Zd 0)) aNil)))))
noncomputable def ZbO:Sv:=(Zn (ZB (gNm 2) (ZbR aNil))
 (Zn (sWh (tv (e2 dNe (Zd 1) (eC (.int 0)))) ZaK)
 (Z1 (Zd 2))))
noncomputable def F_expanded:List D->Sto->Out D:=fnF ZbO 2 2
theorem Zbq:FnScope ["top","bottom","numbers","number"] ["top","bottom"] (Zi ZaN):=⟨rfl,rfl,rfl,by decide +kernel,rfl,by decide +kernel,by decide +kernel⟩
theorem Zfu {f:Addr} {fd:FuncData} (F:Fun K "expanded" "expanded" ZaN f fd) (T:Txt K mg):FnOk P w K mg base (CXE P w) 101 f fd ["top","bottom"] (spD K F_expanded):=
 Zaz F Zbq rfl rfl fun cdv A outer s H E hr θ=>(Zg (Zo 2 Zbq.nd (ZaH Ze))
  (Zg (ZdH θ.own (ZU (Zdp hr.units) Zgc (Zc 1) Zf) (Zg (Zo 3 Zbq.nd (ZbC (Zcv (ZbC (Zc 0)) (Zc 1))))
  (Zg (ZbZ (ZbE (Zc 2) (Zc 3)))
  (Zk (ZcR 0 1 (ZD hr (by decide)) Zbq.nd (Za (Zc 1) (Za (Z9 (ZK (Zc 3) (Zc 1)) (Zc 0)) Ze)))))))
  (Zk (ZG (Zc 2)))))
noncomputable abbrev Zgq:Stmt:=top 14
noncomputable def Zja:Sv:=(Zn (sIf (tv (e2 dLe (Zh F_crossed (Zb (Zd 0) (Zb (Zd 1) aNil))) (eC (.int 0)))) (Zcc (PySem.Str.ofString "NoWedge") (Zb (eC (.str (PySem.Str.ofString "the two rays of a wedge, crossed, come to more than 0"))) aNil)) sNil)
 (Z1 (Zh F_expanded (Zb (Zh F_crossed (Zb (Zd 0) (Zb (Zd 1) aNil))) (Zb (Zh F_crossed (Zb (Zh F_first_behind (Zb (Zd 0) (Zb (Zd 1) aNil))) (Zb (Zd 1) aNil))) aNil)))))
noncomputable def F_row:List D->Sto->Out D:=fnF Zja 2 0
theorem Zox:FnScope ["u","v"] ["u","v"] (Zi Zgq):=⟨rfl,rfl,rfl,by decide +kernel,rfl,by decide +kernel,by decide +kernel⟩
theorem Zoy {f:Addr} {fd:FuncData} (F:Fun K "row" "row" Zgq f fd) (T:Txt K mg) (C_crossed:Cal P w K mg base "crossed" 1 2 F_crossed) (C_first_behind:Cal P w K mg base "first_behind" 102 2 F_first_behind) (C_expanded:Cal P w K mg base "expanded" 101 2 F_expanded):FnOk P w K mg base (CXE P w) 103 f fd ["u","v"] (spD K F_row):=
 Zaz F Zox rfl rfl fun cdv A outer s H E hr θ=>(Zg (Zbv (ZU Zl0 Zmn (Zj C_crossed θ (hr.mono (by decide)) (Za (Zc 0) (Za (Zc 1) Ze))) Zf) (Zk (ZfM θ T.ex_NoWedge T.gl (hr.hd (by decide)) (Za Zg7 Ze))) ZT)
  (Zk (ZG (Zj C_expanded θ (hr.mono (by decide)) (Za (Zj C_crossed θ (hr.mono (by decide)) (Za (Zc 0) (Za (Zc 1) Ze))) (Za (Zj C_crossed θ (hr.mono (by decide)) (Za (Zj C_first_behind θ (hr.mono (by decide)) (Za (Zc 0) (Za (Zc 1) Ze))) (Za (Zc 1) Ze))) Ze))))))
noncomputable abbrev Zbf:Stmt:=top 15
noncomputable def Za0:Sv:=(Zn (ZbY (Zer mApp (Zd 3) (Zb (Zd 5) aNil)))
 (Zd6 4 5 (Zb (Zd 5) (Zb (Z5 (Zb (e2 dSub (e2 dMul (Zd 6) (e2 dIx (Zd 5) (eC (.int 0)))) (e2 dIx (Zd 4) (eC (.int 0)))) (Zb (e2 dSub (e2 dMul (Zd 6) (e2 dIx (Zd 5) (eC (.int 1)))) (e2 dIx (Zd 4) (eC (.int 1)))) aNil))) aNil))))
noncomputable def Zcj:Sv:=(Zn (ZB (gNm 2) (Zh F_row (Zb (Zd 0) (Zb (Zd 1) aNil))))
 (Zn (ZB (gNm 3) (ZbR aNil))
 (Zn (Zd6 4 5 (Zb (Zd 0) (Zb (Zh F_first_behind (Zb (Zd 0) (Zb (Zd 1) aNil))) aNil)))
 (Zn (Zif (gNm 6) (Zd 2) Za0)
 (Z1 (Zd 3))))))
noncomputable def F_between:List D->Sto->Out D:=fnF Zcj 2 5
theorem ZaO:FnScope ["u","v","numbers","rays","ahead","ray","number"] ["u","v"] (Zi Zbf):=⟨rfl,rfl,rfl,by decide +kernel,rfl,by decide +kernel,by decide +kernel⟩
theorem Zgr {f:Addr} {fd:FuncData} (F:Fun K "between" "between" Zbf f fd) (T:Txt K mg) (C_row:Cal P w K mg base "row" 103 2 F_row) (C_first_behind:Cal P w K mg base "first_behind" 102 2 F_first_behind):FnOk P w K mg base (CXE P w) 104 f fd ["u","v"] (spD K F_between):=
 Zaz F ZaO rfl rfl fun cdv A outer s H E hr θ=>(Zg (Zo 2 ZaO.nd (Zj C_row θ (hr.mono (by decide)) (Za (Zc 0) (Za (Zc 1) Ze))))
  (Zg (Zo 3 ZaO.nd (ZaH Ze))
  (Zg (ZcR 4 5 (ZD hr (by decide)) ZaO.nd (Za (Zc 0) (Za (Zj C_first_behind θ (hr.mono (by decide)) (Za (Zc 0) (Za (Zc 1) Ze))) Ze)))
  (Zg (ZfJ θ.own (Zc 2) (Zp 6 ZaO.nd) (Zg (ZbZ (ZbE (Zc 3) (Zc 5)))
  (Zk (ZcR 4 5 (ZD hr (by decide)) ZaO.nd (Za (Zc 5) (Za (ZH (Za (Z9 (ZK (Zc 6) (ZC (Zc 5) Zf)) (ZC (Zc 4) Zf)) (Za (Z9 (ZK (Zc 6) (ZC (Zc 5) Zf)) (ZC (Zc 4) Zf)) Ze))) Ze))))))
  (Zk (ZG (Zc 3)))))))
noncomputable abbrev ZZ:Stmt:=top 17
noncomputable def Z4:Sv:=(Zn (ZbY (Zer mApp (Zd 1) (Zb (Zd 3) aNil)))
 (ZbY (Zer mExt (Zd 1) (Zb (Zh F_between (Zb (Zd 3) (Zb (Zh F_following (Zb (Zd 0) (Zb (Zd 2) aNil))) aNil))) aNil))))
noncomputable def ZaL:Sv:=(Zn (ZB (gNm 1) (ZbR aNil))
 (Zn (ZcU (gTp (gCs (gNm 2) (gCs (gNm 3) gNl))) (iEn (Zb (Zd 0) aNil)) Z4)
 (Z1 (Zd 1))))
noncomputable def F_least_round:List D->Sto->Out D:=fnF ZaL 1 3
theorem Zay:FnScope ["rays","least","at","ray"] ["rays"] (Zi ZZ):=⟨rfl,rfl,rfl,by decide +kernel,rfl,by decide +kernel,by decide +kernel⟩
theorem Zdk {f:Addr} {fd:FuncData} (F:Fun K "least_round" "least_round" ZZ f fd) (T:Txt K mg) (C_following:Cal P w K mg base "following" 1 2 F_following) (C_between:Cal P w K mg base "between" 104 2 F_between):FnOk P w K mg base (CXE P w) 105 f fd ["rays"] (spD K F_least_round):=
 Zaz F Zay rfl rfl fun cdv A outer s H E hr θ=>(Zg (Zo 1 Zay.nd (ZaH Ze))
  (Zg (ZdL θ.own (Ze7 (hr.hd (by decide)) T.b_enumerate (Za (Zc 0) Ze)) (Zbs (ZD hr (by decide)) (Zy (Zp 2 Zay.nd) (Zy (Zp 3 Zay.nd) ZaF)) (hlen:=(ZF (ZF (fun _ _ _ h=>ZaG h))))) (Zg (ZbZ (ZbE (Zc 1) (Zc 3)))
  (Zk (ZbZ (ZkA PySem.F.slot_list_extend PySem.F.type_list_extend ZgU ZmB (Zc 1) (Za (Zj C_between θ (hr.mono (by decide)) (Za (Zc 3) (Za (Zj C_following θ (hr.mono (by decide)) (Za (Zc 0) (Za (Zc 2) Ze))) Ze))) Ze))))))
  (Zk (ZG (Zc 1)))))
noncomputable abbrev ZaV:Stmt:=top 19
noncomputable def Zch:Sv:=(Zn (ZbY (Zh F_ask_smooth (Zb (Zd 0) aNil)))
 (Z1 (ZaW (iR1 (Zb (Zh bLen (Zb (Zd 0) aNil)) aNil)) 1 [0] (gNm 0) (fun _ M=> .ok true M) (Zh F_crossed (Zb (Zh F_following (Zb (Zd 1) (Zb (Zd 0) aNil))) (Zb (e2 dIx (Zd 1) (e2 dSub (Zd 0) (eC (.int 1)))) aNil))))))
noncomputable def F_numbers:List D->Sto->Out D:=fnF Zch 1 0
theorem Zgs:FnScope ["rays"] ["rays"] (Zi ZaV):=⟨rfl,rfl,rfl,by decide +kernel,rfl,by decide +kernel,by decide +kernel⟩
theorem Zgt {f:Addr} {fd:FuncData} (F:Fun K "numbers" "numbers" ZaV f fd) (T:Txt K mg) (C_ask_smooth:Cal P w K mg base "ask_smooth" 102 1 F_ask_smooth) (C_following:Cal P w K mg base "following" 1 2 F_following) (C_crossed:Cal P w K mg base "crossed" 1 2 F_crossed):FnOk P w K mg base (CXE P w) 103 f fd ["rays"] (spD K F_numbers):=
 Zaz F Zgs rfl rfl fun cdv A outer s H E hr θ=>(Zg (ZbZ (Zj C_ask_smooth θ (hr.mono (by decide)) (Za (Zc 0) Ze)))
  (Zk (ZG (ZdJ (ZoK (XN:=["rays"]) (dn:=(Zi ZaV).names) (N:=["at","rays"]) (k:=1) (fr:=[0]) rfl rfl rfl rfl (by decide +kernel)) (Zhn T.b_range (Za (Zt Zw ZaY T.b_len PySem.boot_len (Za (Zc 0) Ze)) Ze)) (fun _ _ _ _=>(Zp 0 (show List.Nodup (["at","rays"]:List Str) by decide +kernel))) (fun _ _ _ _=>(Or.inl ⟨rfl,rfl⟩)) (fun _ _ _ _=>(Zj C_crossed Ze3 (hr.mono (by decide)) (Za (Zj C_following Ze3 (hr.mono (by decide)) (Za (Zc 1) (Za (Zc 0) Ze))) (Za (ZC (Zc 1) (Z9 (Zc 0) Zf)) Ze))))))))
noncomputable abbrev ZY:Stmt:=top 21
noncomputable def Za3:Sv:=(Zn (ZB (gNm 2) (Zdv (iSq (Zd 0)) 1 [] (gNm 0) (fun _ M=> .ok true M) (Zd 0) (eC (.bl true))))
 (Z1 (ZaW (iZp (Zb (Zh F_numbers (Zb (Zd 1) aNil)) (Zb (Zd 1) aNil))) 2 [2] (gTp (gCs (gNm 0) (gCs (gNm 1) gNl))) (fun _ M=> .ok true M) (Z5 (Zb (Zd 0) (Zb (eIf (tv (e2 (ZkF false) (Zd 1) (Zd 2))) (eC (.int 1)) (eC (.int 0))) aNil))))))
noncomputable def F_marked_row:List D->Sto->Out D:=fnF Za3 2 1
theorem Zcm:FnScope ["rays","least","own"] ["rays","least"] (Zi ZY):=⟨rfl,rfl,rfl,by decide +kernel,rfl,by decide +kernel,by decide +kernel⟩
theorem ZdZ {f:Addr} {fd:FuncData} (F:Fun K "marked_row" "marked_row" ZY f fd) (T:Txt K mg) (C_numbers:Cal P w K mg base "numbers" 103 1 F_numbers):FnOk P w K mg base (CXE P w) 104 f fd ["rays","least"] (spD K F_marked_row):=
 Zaz F Zcm rfl rfl fun cdv A outer s H E hr θ=>(Zg (Zo 2 Zcm.nd (ZiW hr.units (ZoJ (N:=["ray"]) (k:=1) (by decide +kernel) rfl (by decide +kernel) rfl) (Zeo (Zc 0)) (fun _ _ _ _=>(Zp 0 (show List.Nodup (["ray"]:List Str) by decide +kernel))) (fun _ _ _ _=>(Or.inl ⟨rfl,rfl⟩)) (fun _ _ _ _=>(Zc 0)) (fun _ _ _ _=>Zg6)))
  (Zk (ZG (ZdJ (ZoK (XN:=["rays","least","own"]) (dn:=(Zi ZY).names) (N:=["number","ray","own"]) (k:=2) (fr:=[2]) rfl rfl rfl rfl (by decide +kernel)) (Zhs (hr.hd (by decide)) T.b_zip (Za (Zj C_numbers θ (hr.mono (by decide)) (Za (Zc 1) Ze)) (Za (Zc 1) Ze))) (fun _ _ _ _=>(Zbs (ZD hr (by decide)) (Zy (Zp 0 (show List.Nodup (["number","ray","own"]:List Str) by decide +kernel)) (Zy (Zp 1 (show List.Nodup (["number","ray","own"]:List Str) by decide +kernel)) ZaF)) (hlen:=(ZF (ZF (fun _ _ _ h=>ZaG h)))))) (fun _ _ _ _=>(Or.inl ⟨rfl,rfl⟩)) (fun _ _ _ _=>(ZH (Za (Zc 0) (Za (Zpa (ZU (ZmK hr.units) ZmL (Zc 1) (Zc 2)) Zf Zf) Ze))))))))
noncomputable abbrev ZL:Stmt:=top 22
noncomputable def ZE:Sv:=(sIf (Zkl (tv (e2 dIs (Zd 3) (eC .non))) (tv (e2 dLtL (Zd 9) (Zd 3)))) (Zn (ZB (gNm 3) (Zd 9))
 (ZB (gNm 4) (Z5 (Zb (Zd 6) (Zb (Zd 10) aNil))))) sNil)
noncomputable def ZV:Sv:=(Zn (ZB (gNm 7) (e2 dAdd (eSl (Zd 2) (oSo (Zd 5)) oNo) (eSl (Zd 2) oNo (oSo (Zd 5)))))
 (Zn (ZB (gNm 8) (e2 dAdd (eSl (Zd 7) oNo (oSo (eC (.int 1)))) (eR0 (Zd 7))))
 (Zif (gTp (gCs (gNm 9) (gCs (gNm 10) gNl))) (ZbR (Zb (Z5 (Zb (Zd 7) (Zb (Zh F_following (Zb (Zd 1) (Zb (Zd 5) aNil))) aNil))) (Zb (Z5 (Zb (Zd 8) (Zb (e2 dIx (Zd 1) (e2 dSub (Zd 5) (eC (.int 1)))) aNil))) aNil))) ZE)))
noncomputable def Zai:Sv:=(Zn (ZB (gNm 1) (Zh F_least_round (Zb (Zd 0) aNil)))
 (Zn (ZB (gNm 2) (Zh F_marked_row (Zb (Zd 0) (Zb (Zd 1) aNil))))
 (Zn (ZB (gNm 3) (eC .non))
 (Zn (ZB (gNm 4) (eC .non))
 (Zn (ZcU (gTp (gCs (gNm 5) (gCs (gNm 6) gNl))) (iEn (Zb (Zd 1) aNil)) ZV)
 (Z1 (Z5 (Zb (Zd 3) (Zb (Zd 4) aNil)))))))))
noncomputable def F_first_reading:List D->Sto->Out D:=fnF Zai 1 10
theorem Zm:FnScope ["rays","least","marked","best","two","at","ray","onward","backward","reading","beside"] ["rays"] (Zi ZL):=⟨rfl,rfl,rfl,by decide +kernel,rfl,by decide +kernel,by decide +kernel⟩
theorem ZcD {f:Addr} {fd:FuncData} (F:Fun K "first_reading" "first_reading" ZL f fd) (T:Txt K mg) (C_least_round:Cal P w K mg base "least_round" 105 1 F_least_round) (C_marked_row:Cal P w K mg base "marked_row" 104 2 F_marked_row) (C_following:Cal P w K mg base "following" 1 2 F_following):FnOk P w K mg base (CXE P w) 106 f fd ["rays"] (spD K F_first_reading):=
 Zaz F Zm rfl rfl fun cdv A outer s H E hr θ=>(Zg (Zo 1 Zm.nd (Zj C_least_round θ (hr.mono (by decide)) (Za (Zc 0) Ze)))
  (Zg (Zo 2 Zm.nd (Zj C_marked_row θ (hr.mono (by decide)) (Za (Zc 0) (Za (Zc 1) Ze))))
  (Zg (Zo 3 Zm.nd Zek)
  (Zg (Zo 4 Zm.nd Zek)
  (Zg (ZdL θ.own (Ze7 (hr.hd (by decide)) T.b_enumerate (Za (Zc 1) Ze)) (Zbs (ZD hr (by decide)) (Zy (Zp 5 Zm.nd) (Zy (Zp 6 Zm.nd) ZaF)) (hlen:=(ZF (ZF (fun _ _ _ h=>ZaG h))))) (Zg (Zo 7 Zm.nd (ZJ (Zb2 (Zc 2) (Zb1 (Zc 5)) Zb0) (Zb2 (Zc 2) Zb0 (Zb1 (Zc 5)))))
  (Zg (Zo 8 Zm.nd (ZJ (Zb2 (Zc 7) Zb0 (Zb1 Zf)) (Zpq (Zc 7))))
  (Zk (ZfJ θ.own (ZaH (Za (ZH (Za (Zc 7) (Za (Zj C_following θ (hr.mono (by decide)) (Za (Zc 1) (Za (Zc 5) Ze))) Ze))) (Za (ZH (Za (Zc 8) (Za (ZC (Zc 1) (Z9 (Zc 5) Zf)) Ze))) Ze))) (Zbs (ZD hr (by decide)) (Zy (Zp 9 Zm.nd) (Zy (Zp 10 Zm.nd) ZaF)) (hlen:=(ZF (ZF (fun _ _ _ h=>ZaG h))))) (Zk (Zbv (Zo9 (Zkn (ZU Zmp Zpd (Zc 3) Zek) (Zjp (ZU (ZmS hr.units) ZmT (Zc 9) (Zc 3))))) (Zg (Zo 3 Zm.nd (Zc 9))
  (Zk (Zo 4 Zm.nd (ZH (Za (Zc 6) (Za (Zc 10) Ze)))))) ZT)))))))
  (Zk (ZG (ZH (Za (Zc 3) (Za (Zc 4) Ze))))))))))
noncomputable abbrev Zap:Stmt:=top 23
noncomputable def Zbp:Sv:=(Z1 (e2 dIx (Zh F_first_reading (Zb (Zd 0) aNil)) (eC (.int 0))))
noncomputable def F_least_row:List D->Sto->Out D:=fnF Zbp 1 0
theorem ZeK:FnScope ["rays"] ["rays"] (Zi Zap):=⟨rfl,rfl,rfl,by decide +kernel,rfl,by decide +kernel,by decide +kernel⟩
theorem ZeL {f:Addr} {fd:FuncData} (F:Fun K "least_row" "least_row" Zap f fd) (T:Txt K mg) (C_first_reading:Cal P w K mg base "first_reading" 106 1 F_first_reading):FnOk P w K mg base (CXE P w) 107 f fd ["rays"] (spD K F_least_row):=
 Zaz F ZeK rfl rfl fun cdv A outer s H E hr θ=>(Zk (ZG (ZC (Zj C_first_reading θ (hr.mono (by decide)) (Za (Zc 0) Ze)) Zf)))
noncomputable abbrev Zaq:Stmt:=top 25
noncomputable def Zbk:Sv:=(Zn (ZB (gNm 2) (eC (.int 0)))
 (Zn (sIf (tv (e2 dLt (Zd 1) (Zh bLen (Zb (Zd 0) aNil)))) (ZB (gNm 2) (e2 dIx (Zd 0) (Zd 1))) sNil)
 (Zn (ZB (gNm 3) (e2 dMod (Zd 2) (e2 dMul (e2 dPow (eC (.int 10)) (eC (.int 60))) (e2 dPow (eC (.int 10)) (eC (.int 30))))))
 (Z1 (ZbR (Zb (e2 dMul (Zd 3) (Zh bInt (Zb (e2 dGe (Zd 3) (e2 dPow (eC (.int 10)) (eC (.int 18)))) aNil))) (Zb (e2 dAdd (e2 dAdd (e2 dMod (Zd 2) (eC (.int 2147483647))) (e2 dMul (eC (.int 7919)) (Zd 1))) (eC (.int 1))) aNil)))))))
noncomputable def F_law_purse:List D->Sto->Out D:=fnF Zbk 2 2
theorem Za4:FnScope ["_law_script","_law_k","_law_cell","_law_large"] ["_law_script","_law_k"] (Zi Zaq):=⟨rfl,rfl,rfl,by decide +kernel,rfl,by decide +kernel,by decide +kernel⟩
theorem ZeM {f:Addr} {fd:FuncData} (F:Fun K "_law_purse" "_law_purse" Zaq f fd) (T:Txt K mg):FnOk P w K mg base (CXE P w) 1 f fd ["_law_script","_law_k"] (spD K F_law_purse):=
 Zaz F Za4 rfl rfl fun cdv A outer s H E hr θ=>(Zg (Zo 2 Za4.nd Zf)
  (Zg (Zbv (ZU ZlZ Zmm (Zc 1) (Zt Zw ZaY T.b_len PySem.boot_len (Za (Zc 0) Ze))) (Zk (Zo 2 Za4.nd (ZC (Zc 0) (Zc 1)))) ZT)
  (Zg (Zo 3 Za4.nd (ZbB (Zc 2) (ZK (Zg9 Zf Zf) (Zg9 Zf Zf))))
  (Zk (ZG (ZaH (Za (ZK (Zc 3) (ZX ZaQ ZcP T.b_int ZcS (Za (ZcO Zo1 Zpb (Zc 3) (Zg9 Zf Zf)) Ze))) (Za (ZJ (ZJ (ZbB (Zc 2) Zf) (ZK Zf (Zc 1))) Zf) Ze))))))))
noncomputable abbrev ZaP:Stmt:=top 26
noncomputable def ZbP:Sv:=(Zn (sIf (tv (e2 dGt (e2 dIx (Zd 0) (eC (.int 0))) (eC (.int 0)))) (Zn (ZB (gNm 2) (e2 dMod (e2 dIx (Zd 0) (eC (.int 0))) (Zd 1)))
 (Zn (Zjv (Zd 0) (eC (.int 0)) (e2 dDiv (e2 dIx (Zd 0) (eC (.int 0))) (Zd 1)))
 (Z1 (Zd 2)))) sNil)
 (Zn (Zjv (Zd 0) (eC (.int 1)) (e2 dMod (e2 dAdd (e2 dMul (e2 dIx (Zd 0) (eC (.int 1))) (eC (.int 48271))) (eC (.int 12345))) (eC (.int 2147483647))))
 (Z1 (e2 dMod (e2 dDiv (e2 dMod (e2 dMul (e2 dIx (Zd 0) (eC (.int 1))) (eC (.int 69621))) (eC (.int 2147483629))) (eC (.int 5))) (Zd 1)))))
noncomputable def F_law_take:List D->Sto->Out D:=fnF ZbP 2 1
theorem Zc8:FnScope ["_law_purse_here","_law_many","_law_digit"] ["_law_purse_here","_law_many"] (Zi ZaP):=⟨rfl,rfl,rfl,by decide +kernel,rfl,by decide +kernel,by decide +kernel⟩
theorem Zfv {f:Addr} {fd:FuncData} (F:Fun K "_law_take" "_law_take" ZaP f fd) (T:Txt K mg):FnOk P w K mg base (CXE P w) 1 f fd ["_law_purse_here","_law_many"] (spD K F_law_take):=
 Zaz F Zc8 rfl rfl fun cdv A outer s H E hr θ=>(Zg (Zbv (ZU Zeb Zel (ZC (Zc 0) Zf) Zf) (Zg (Zo 2 Zc8.nd (ZbB (ZC (Zc 0) Zf) (Zc 1)))
  (Zg (Zjw (Zc 0) Zf (Zcv (ZC (Zc 0) Zf) (Zc 1)))
  (Zk (ZG (Zc 2))))) ZT)
  (Zg (Zjw (Zc 0) Zf (ZbB (ZJ (ZK (ZC (Zc 0) Zf) Zf) Zf) Zf))
  (Zk (ZG (ZbB (Zcv (ZbB (ZK (ZC (Zc 0) Zf) Zf) Zf) Zf) (Zc 1))))))
noncomputable abbrev Z0:Stmt:=top 27
noncomputable def Zbl:Sv:=(Z1 (e2 dSub (e2 dMul (e2 dIx (Zd 0) (eC (.int 0))) (e2 dIx (Zd 1) (eC (.int 1)))) (e2 dMul (e2 dIx (Zd 0) (eC (.int 1))) (e2 dIx (Zd 1) (eC (.int 0))))))
noncomputable def F_law_crossed:List D->Sto->Out D:=fnF Zbl 2 0
theorem Zdl:FnScope ["_law_one","_law_other"] ["_law_one","_law_other"] (Zi Z0):=⟨rfl,rfl,rfl,by decide +kernel,rfl,by decide +kernel,by decide +kernel⟩
theorem Zdm {f:Addr} {fd:FuncData} (F:Fun K "_law_crossed" "_law_crossed" Z0 f fd) (T:Txt K mg):FnOk P w K mg base (CXE P w) 1 f fd ["_law_one","_law_other"] (spD K F_law_crossed):=
 Zaz F Zdl rfl rfl fun cdv A outer s H E hr θ=>(Zk (ZG (Z9 (ZK (ZC (Zc 0) Zf) (ZC (Zc 1) Zf)) (ZK (ZC (Zc 0) Zf) (ZC (Zc 1) Zf)))))
noncomputable abbrev Zar:Stmt:=top 28
noncomputable def Zav:Sv:=(Zd6 1 2 (Zb (Zd 2) (Zb (e2 dMod (Zd 1) (Zd 2)) aNil)))
noncomputable def Zbm:Sv:=(Zn (Zd6 1 2 (Zb (Zh bAbs (Zb (e2 dIx (Zd 0) (eC (.int 0))) aNil)) (Zb (Zh bAbs (Zb (e2 dIx (Zd 0) (eC (.int 1))) aNil)) aNil)))
 (Zn (sWh (tv (e2 dGt (Zd 2) (eC (.int 0)))) Zav)
 (Zn (sIf (tv (e2 dEq (Zd 1) (eC (.int 0)))) (Z1 (Z5 (Zb (eC (.int 1)) (Zb (eC (.int 0)) aNil)))) sNil)
 (Z1 (Z5 (Zb (e2 dDiv (e2 dIx (Zd 0) (eC (.int 0))) (Zd 1)) (Zb (e2 dDiv (e2 dIx (Zd 0) (eC (.int 1))) (Zd 1)) aNil)))))))
noncomputable def F_law_short:List D->Sto->Out D:=fnF Zbm 1 2
theorem ZbK:FnScope ["_law_pair","_law_one","_law_other"] ["_law_pair"] (Zi Zar):=⟨rfl,rfl,rfl,by decide +kernel,rfl,by decide +kernel,by decide +kernel⟩
theorem ZeN {f:Addr} {fd:FuncData} (F:Fun K "_law_short" "_law_short" Zar f fd) (T:Txt K mg):FnOk P w K mg base (CXE P w) 101 f fd ["_law_pair"] (spD K F_law_short):=
 Zaz F ZbK rfl rfl fun cdv A outer s H E hr θ=>(Zg (ZcR 1 2 (ZD hr (by decide)) ZbK.nd (Za (Zt ZbM Zdq T.b_abs Zdr (Za (ZC (Zc 0) Zf) Ze)) (Za (Zt ZbM Zdq T.b_abs Zdr (Za (ZC (Zc 0) Zf) Ze)) Ze)))
  (Zg (ZdH θ.own (ZU Zeb Zel (Zc 2) Zf) (Zk (ZcR 1 2 (ZD hr (by decide)) ZbK.nd (Za (Zc 2) (Za (ZbB (Zc 1) (Zc 2)) Ze)))))
  (Zg (Zbv (ZU (Zdo hr.units) Zgb (Zc 1) Zf) (Zk (ZG (ZH (Za Zf (Za Zf Ze))))) ZT)
  (Zk (ZG (ZH (Za (Zcv (ZC (Zc 0) Zf) (Zc 1)) (Za (Zcv (ZC (Zc 0) Zf) (Zc 1)) Ze))))))))
noncomputable abbrev ZR:Stmt:=top 29
noncomputable def Zaw:Sv:=(Z1 (Zh (Ze9 List.max?) (Zb (ZaW (iSq (Zd 0)) 1 [] (gNm 0) (fun _ M=> .ok true M) (Zh bMax (Zb (Zh bAbs (Zb (e2 dIx (Zd 0) (eC (.int 0))) aNil)) (Zb (Zh bAbs (Zb (e2 dIx (Zd 0) (eC (.int 1))) aNil)) aNil)))) aNil)))
noncomputable def F_law_greatest:List D->Sto->Out D:=fnF Zaw 1 0
theorem Zc9:FnScope ["_law_rays"] ["_law_rays"] (Zi ZR):=⟨rfl,rfl,rfl,by decide +kernel,rfl,by decide +kernel,by decide +kernel⟩
theorem Zda {f:Addr} {fd:FuncData} (F:Fun K "_law_greatest" "_law_greatest" ZR f fd) (T:Txt K mg):FnOk P w K mg base (CXE P w) 101 f fd ["_law_rays"] (spD K F_law_greatest):=
 Zaz F Zc9 rfl rfl fun cdv A outer s H E hr θ=>(Zk (ZG (Zt (Zhy (ZD hr (by decide))) ZkD T.b_max ZfK (Za (ZdJ (ZoJ (N:=["_law_ray"]) (k:=1) (by decide +kernel) rfl (by decide +kernel) rfl) (Zeo (Zc 0)) (fun _ _ _ _=>(Zp 0 (show List.Nodup (["_law_ray"]:List Str) by decide +kernel))) (fun _ _ _ _=>(Or.inl ⟨rfl,rfl⟩)) (fun _ _ _ _=>(Zt (ZcK (ZD hr (by decide))) Zhe T.b_max ZfK (Za (Zt ZbM Zdq T.b_abs Zdr (Za (ZC (Zc 0) Zf) Ze)) (Za (Zt ZbM Zdq T.b_abs Zdr (Za (ZC (Zc 0) Zf) Ze)) Ze))))) Ze))))
noncomputable abbrev Zbg:Stmt:=top 30
noncomputable def Za1:Sv:=(Zn (ZB (gNm 3) (e2 dMod (e2 dAdd (Zd 1) (Zd 2)) (Zh bLen (Zb (Zd 0) aNil))))
 (Zn (ZB (gNm 4) (e2 dIx (Zd 0) (e2 dMod (e2 dAdd (Zd 3) (eC (.int 1))) (Zh bLen (Zb (Zd 0) aNil)))))
 (Zn (ZB (gNm 5) (Z5 (Zb (e2 dAdd (e2 dIx (e2 dIx (Zd 0) (Zd 3)) (eC (.int 0))) (e2 dIx (Zd 4) (eC (.int 0)))) (Zb (e2 dAdd (e2 dIx (e2 dIx (Zd 0) (Zd 3)) (eC (.int 1))) (e2 dIx (Zd 4) (eC (.int 1)))) aNil))))
 (sIf (tv (e2 dLt (Zh bMax (Zb (Zh bAbs (Zb (e2 dIx (Zd 5) (eC (.int 0))) aNil)) (Zb (Zh bAbs (Zb (e2 dIx (Zd 5) (eC (.int 1))) aNil)) aNil))) (eC (.int 60)))) (Z1 (e2 dAdd (e2 dAdd (eSl (Zd 0) oNo (oSo (e2 dAdd (Zd 3) (eC (.int 1))))) (ZbR (Zb (Zd 5) aNil))) (eSl (Zd 0) (oSo (e2 dAdd (Zd 3) (eC (.int 1)))) oNo))) sNil))))
noncomputable def Zck:Sv:=(Zn (Zbt (gNm 2) (Zb (Zh bLen (Zb (Zd 0) aNil)) aNil) Za1)
 (Z1 (Zd 0)))
noncomputable def F_law_put:List D->Sto->Out D:=fnF Zck 2 4
theorem Zbh:FnScope ["_law_rays","_law_at","_law_turn","_law_here","_law_after","_law_new"] ["_law_rays","_law_at"] (Zi Zbg):=⟨rfl,rfl,rfl,by decide +kernel,rfl,by decide +kernel,by decide +kernel⟩
theorem Zgu {f:Addr} {fd:FuncData} (F:Fun K "_law_put" "_law_put" Zbg f fd) (T:Txt K mg):FnOk P w K mg base (CXE P w) 101 f fd ["_law_rays","_law_at"] (spD K F_law_put):=
 Zaz F Zbh rfl rfl fun cdv A outer s H E hr θ=>(Zg (Zca θ.own T.b_range (Za (Zt Zw ZaY T.b_len PySem.boot_len (Za (Zc 0) Ze)) Ze) (Zp 2 Zbh.nd) (Zg (Zo 3 Zbh.nd (ZbB (ZJ (Zc 1) (Zc 2)) (Zt Zw ZaY T.b_len PySem.boot_len (Za (Zc 0) Ze))))
  (Zg (Zo 4 Zbh.nd (ZC (Zc 0) (ZbB (ZJ (Zc 3) Zf) (Zt Zw ZaY T.b_len PySem.boot_len (Za (Zc 0) Ze)))))
  (Zg (Zo 5 Zbh.nd (ZH (Za (ZJ (ZC (ZC (Zc 0) (Zc 3)) Zf) (ZC (Zc 4) Zf)) (Za (ZJ (ZC (ZC (Zc 0) (Zc 3)) Zf) (ZC (Zc 4) Zf)) Ze))))
  (Zk (Zbv (ZU ZlZ Zmm (Zt (ZcK (ZD hr (by decide))) Zhe T.b_max ZfK (Za (Zt ZbM Zdq T.b_abs Zdr (Za (ZC (Zc 5) Zf) Ze)) (Za (Zt ZbM Zdq T.b_abs Zdr (Za (ZC (Zc 5) Zf) Ze)) Ze))) Zf) (Zk (ZG (ZJ (ZJ (Zb2 (Zc 0) Zb0 (Zb1 (ZJ (Zc 3) Zf))) (ZaH (Za (Zc 5) Ze))) (Zb2 (Zc 0) (Zb1 (ZJ (Zc 3) Zf)) Zb0)))) ZT))))))
  (Zk (ZG (Zc 0))))
noncomputable abbrev ZO:Stmt:=top 31
noncomputable def ZaM:Sv:=(Zn (ZB (gNm 3) (ZaW (iSq (Zd 0)) 2 [1,2] (gTp (gCs (gNm 0) (gCs (gNm 1) gNl))) (fun _ M=> .ok true M) (e2 dIx (ZbR (Zb (Z5 (Zb (e2 dAdd (Zd 0) (e2 dMul (Zd 2) (Zd 1))) (Zb (Zd 1) aNil))) (Zb (Z5 (Zb (Zd 0) (Zb (e2 dAdd (Zd 1) (e2 dMul (Zd 2) (Zd 0))) aNil))) aNil))) (Zd 3))))
 (Zn (sIf (tv (e2 dGt (Zh F_law_greatest (Zb (Zd 3) aNil)) (eC (.int 200)))) (Z1 (Zd 0)) sNil)
 (Z1 (Zd 3))))
noncomputable def F_law_sheared:List D->Sto->Out D:=fnF ZaM 3 1
theorem ZbX:FnScope ["_law_rays","_law_many","_law_way","_law_found"] ["_law_rays","_law_many","_law_way"] (Zi ZO):=⟨rfl,rfl,rfl,by decide +kernel,rfl,by decide +kernel,by decide +kernel⟩
theorem Zdn {f:Addr} {fd:FuncData} (F:Fun K "_law_sheared" "_law_sheared" ZO f fd) (T:Txt K mg) (C_law_greatest:Cal P w K mg base "_law_greatest" 101 1 F_law_greatest):FnOk P w K mg base (CXE P w) 102 f fd ["_law_rays","_law_many","_law_way"] (spD K F_law_sheared):=
 Zaz F ZbX rfl rfl fun cdv A outer s H E hr θ=>(Zg (Zfc 3 ZbX.nd (ZoK (XN:=["_law_rays","_law_many","_law_way","_law_found"]) (dn:=(Zi ZO).names) (N:=["_law_x","_law_y","_law_many","_law_way"]) (k:=2) (fr:=[1,2]) rfl rfl rfl rfl (by decide +kernel)) (Zeo (Zc 0)) (fun _ _ _ _=>(Zbs (ZD hr (by decide)) (Zy (Zp 0 (show List.Nodup (["_law_x","_law_y","_law_many","_law_way"]:List Str) by decide +kernel)) (Zy (Zp 1 (show List.Nodup (["_law_x","_law_y","_law_many","_law_way"]:List Str) by decide +kernel)) ZaF)) (hlen:=(ZF (ZF (fun _ _ _ h=>ZaG h)))))) (fun _ _ _ _=>(Or.inl ⟨rfl,rfl⟩)) (fun _ _ _ _=>(ZC (ZaH (Za (ZH (Za (ZJ (Zc 0) (ZK (Zc 2) (Zc 1))) (Za (Zc 1) Ze))) (Za (ZH (Za (Zc 0) (Za (ZJ (Zc 1) (ZK (Zc 2) (Zc 0))) Ze))) Ze))) (Zc 3))))
  (Zg (Zbv (ZU Zeb Zel (Zj C_law_greatest θ (hr.mono (by decide)) (Za (Zc 3) Ze)) Zf) (Zk (ZG (Zc 0))) ZT)
  (Zk (ZG (Zc 3)))))
noncomputable abbrev Zad:Stmt:=top 32
noncomputable def Zag:Sv:=(ZB (gNm 3) (Zh F_law_put (Zb (Zd 3) (Zb (Zh F_law_take (Zb (Zd 0) (Zb (Zh bLen (Zb (Zd 3) aNil)) aNil))) aNil))))
noncomputable def Zah:Sv:=(Zn (ZB (gNm 7) (e2 dSub (Zh F_law_take (Zb (Zd 0) (Zb (Zd 6) aNil))) (e2 dDiv (Zd 6) (eC (.int 2)))))
 (ZB (gNm 3) (Zh F_law_sheared (Zb (Zd 3) (Zb (Zd 7) (Zb (Zh F_law_take (Zb (Zd 0) (Zb (eC (.int 2)) aNil))) aNil))))))
noncomputable def Za2:Sv:=(Zn (ZB (gNm 2) (Zh F_law_take (Zb (Zd 0) (Zb (eC (.int 7)) aNil))))
 (Zn (ZB (gNm 3) (e2 dIx (ZbR (Zb (ZbR (Zb (Z5 (Zb (eC (.int 1)) (Zb (eC (.int 0)) aNil))) (Zb (Z5 (Zb (eC (.int 0)) (Zb (eC (.int 1)) aNil))) (Zb (Z5 (Zb (Zdf (eC (.int 1))) (Zb (Zdf (eC (.int 1))) aNil))) aNil)))) (Zb (ZbR (Zb (Z5 (Zb (eC (.int 1)) (Zb (eC (.int 0)) aNil))) (Zb (Z5 (Zb (eC (.int 0)) (Zb (eC (.int 1)) aNil))) (Zb (Z5 (Zb (Zdf (eC (.int 1))) (Zb (e2 dSub (Zd 2) (eC (.int 1))) aNil))) (Zb (Z5 (Zb (eC (.int 0)) (Zb (Zdf (eC (.int 1))) aNil))) aNil))))) aNil))) (Zh bInt (Zb (e2 dGt (Zd 2) (eC (.int 0))) aNil))))
 (Zn (ZB (gNm 4) (e2 dIx (ZbR (Zb (e2 dAdd (eC (.int 3)) (Zh F_law_take (Zb (Zd 0) (Zb (e2 dSub (Zd 1) (eC (.int 2))) aNil)))) (Zb (Zd 1) aNil))) (Zh bInt (Zb (e2 dEq (Zh F_law_take (Zb (Zd 0) (Zb (eC (.int 6)) aNil))) (eC (.int 3))) aNil))))
 (Zn (Zbt (gNm 5) (Zb (e2 dSub (Zd 4) (Zh bLen (Zb (Zd 3) aNil))) aNil) Zag)
 (Zn (ZB (gNm 6) (e2 dIx (ZbR (Zb (eC (.int 3)) (Zb (eC (.int 41)) aNil))) (Zh bInt (Zb (e2 dEq (Zh F_law_take (Zb (Zd 0) (Zb (eC (.int 8)) aNil))) (eC (.int 5))) aNil))))
 (Zn (Zbt (gNm 5) (Zb (Zh F_law_take (Zb (Zd 0) (Zb (eC (.int 4)) aNil))) aNil) Zah)
 (Zn (sIf (tv (e2 dEq (Zh F_law_take (Zb (Zd 0) (Zb (eC (.int 4)) aNil))) (eC (.int 0)))) (ZB (gNm 3) (ZaW (iRv (Zb (Zd 3) aNil)) 2 [] (gTp (gCs (gNm 0) (gCs (gNm 1) gNl))) (fun _ M=> .ok true M) (Z5 (Zb (Zd 1) (Zb (Zd 0) aNil))))) sNil)
 (Zn (ZB (gNm 8) (Zh F_law_take (Zb (Zd 0) (Zb (Zh bLen (Zb (Zd 3) aNil)) aNil))))
 (Z1 (e2 dAdd (eSl (Zd 3) (oSo (Zd 8)) oNo) (eSl (Zd 3) oNo (oSo (Zd 8)))))))))))))
noncomputable def F_law_smooth:List D->Sto->Out D:=fnF Za2 2 7
theorem Zz:FnScope ["_law_purse_here","_law_most","_law_lean","_law_rays","_law_many","_law_turn","_law_width","_law_often","_law_at"] ["_law_purse_here","_law_most"] (Zi Zad):=⟨rfl,rfl,rfl,by decide +kernel,rfl,by decide +kernel,by decide +kernel⟩
theorem Zd0 {f:Addr} {fd:FuncData} (F:Fun K "_law_smooth" "_law_smooth" Zad f fd) (T:Txt K mg) (C_law_take:Cal P w K mg base "_law_take" 1 2 F_law_take) (C_law_put:Cal P w K mg base "_law_put" 101 2 F_law_put) (C_law_sheared:Cal P w K mg base "_law_sheared" 102 3 F_law_sheared):FnOk P w K mg base (CXE P w) 103 f fd ["_law_purse_here","_law_most"] (spD K F_law_smooth):=
 Zaz F Zz rfl rfl fun cdv A outer s H E hr θ=>(Zg (Zo 2 Zz.nd (Zj C_law_take θ (hr.mono (by decide)) (Za (Zc 0) (Za Zf Ze))))
  (Zg (Zo 3 Zz.nd (ZC (ZaH (Za (ZaH (Za (ZH (Za Zf (Za Zf Ze))) (Za (ZH (Za Zf (Za Zf Ze))) (Za (ZH (Za (ZbC Zf) (Za (ZbC Zf) Ze))) Ze)))) (Za (ZaH (Za (ZH (Za Zf (Za Zf Ze))) (Za (ZH (Za Zf (Za Zf Ze))) (Za (ZH (Za (ZbC Zf) (Za (Z9 (Zc 2) Zf) Ze))) (Za (ZH (Za Zf (Za (ZbC Zf) Ze))) Ze))))) Ze))) (ZX ZaQ ZcP T.b_int ZcS (Za (ZcO Zeb Zel (Zc 2) Zf) Ze))))
  (Zg (Zo 4 Zz.nd (ZC (ZaH (Za (ZJ Zf (Zj C_law_take θ (hr.mono (by decide)) (Za (Zc 0) (Za (Z9 (Zc 1) Zf) Ze)))) (Za (Zc 1) Ze))) (ZX ZaQ ZcP T.b_int ZcS (Za (ZcO (Zdo hr.units) Zgb (Zj C_law_take θ (hr.mono (by decide)) (Za (Zc 0) (Za Zf Ze))) Zf) Ze))))
  (Zg (Zca θ.own T.b_range (Za (Z9 (Zc 4) (Zt Zw ZaY T.b_len PySem.boot_len (Za (Zc 3) Ze))) Ze) (Zp 5 Zz.nd) (Zk (Zo 3 Zz.nd (Zj C_law_put θ (hr.mono (by decide)) (Za (Zc 3) (Za (Zj C_law_take θ (hr.mono (by decide)) (Za (Zc 0) (Za (Zt Zw ZaY T.b_len PySem.boot_len (Za (Zc 3) Ze)) Ze))) Ze))))))
  (Zg (Zo 6 Zz.nd (ZC (ZaH (Za Zf (Za Zf Ze))) (ZX ZaQ ZcP T.b_int ZcS (Za (ZcO (Zdo hr.units) Zgb (Zj C_law_take θ (hr.mono (by decide)) (Za (Zc 0) (Za Zf Ze))) Zf) Ze))))
  (Zg (Zca θ.own T.b_range (Za (Zj C_law_take θ (hr.mono (by decide)) (Za (Zc 0) (Za Zf Ze))) Ze) (Zp 5 Zz.nd) (Zg (Zo 7 Zz.nd (Z9 (Zj C_law_take θ (hr.mono (by decide)) (Za (Zc 0) (Za (Zc 6) Ze))) (Zcv (Zc 6) Zf)))
  (Zk (Zo 3 Zz.nd (Zj C_law_sheared θ (hr.mono (by decide)) (Za (Zc 3) (Za (Zc 7) (Za (Zj C_law_take θ (hr.mono (by decide)) (Za (Zc 0) (Za Zf Ze))) Ze))))))))
  (Zg (Zbv (ZU (Zdo hr.units) Zgb (Zj C_law_take θ (hr.mono (by decide)) (Za (Zc 0) (Za Zf Ze))) Zf) (Zk (Zfc 3 Zz.nd (ZoJ (N:=["_law_x","_law_y"]) (k:=2) (by decide +kernel) rfl (by decide +kernel) rfl) (ZmO (hr.hd (by decide)) T.b_reversed (Za (Zc 3) Ze)) (fun _ _ _ _=>(Zbs (ZD hr (by decide)) (Zy (Zp 0 (show List.Nodup (["_law_x","_law_y"]:List Str) by decide +kernel)) (Zy (Zp 1 (show List.Nodup (["_law_x","_law_y"]:List Str) by decide +kernel)) ZaF)) (hlen:=(ZF (ZF (fun _ _ _ h=>ZaG h)))))) (fun _ _ _ _=>(Or.inl ⟨rfl,rfl⟩)) (fun _ _ _ _=>(ZH (Za (Zc 1) (Za (Zc 0) Ze)))))) ZT)
  (Zg (Zo 8 Zz.nd (Zj C_law_take θ (hr.mono (by decide)) (Za (Zc 0) (Za (Zt Zw ZaY T.b_len PySem.boot_len (Za (Zc 3) Ze)) Ze))))
  (Zk (ZG (ZJ (Zb2 (Zc 3) (Zb1 (Zc 8)) Zb0) (Zb2 (Zc 3) Zb0 (Zb1 (Zc 8))))))))))))))
noncomputable abbrev Z6:Stmt:=top 33
noncomputable def Zax:Sv:=(Zn (ZB (gNm 10) (Zer mIdx (Zd 2) (Zb (Zd 9) aNil)))
 (Zn (ZB (gNm 11) (e2 dAdd (eSl (Zd 2) oNo (oSo (Zd 10))) (eSl (Zd 2) (oSo (e2 dAdd (Zd 10) (eC (.int 1)))) oNo)))
 (sIf (Zg8 (tv (e2 dGt (Zh bLen (Zb (Zd 11) aNil)) (eC (.int 2)))) (tv (e2 dEq (Zh F_law_take (Zb (Zd 0) (Zb (eC (.int 3)) aNil))) (eC (.int 0))))) (sIf (tv (e2 dGt (Zh F_law_crossed (Zb (e2 dIx (Zd 11) (e2 dSub (Zd 10) (eC (.int 1)))) (Zb (e2 dIx (Zd 11) (e2 dMod (Zd 10) (Zh bLen (Zb (Zd 11) aNil)))) aNil))) (eC (.int 0)))) (ZB (gNm 2) (Zd 11)) sNil) sNil)))
noncomputable def Zbo:Sv:=(Zn (ZB (gNm 2) (Zh F_law_smooth (Zb (Zd 0) (Zb (Zd 1) aNil))))
 (Zn (ZB (gNm 3) (e2 dIx (ZbR (Zb (eC (.int 5)) (Zb (eC (.int 40)) aNil))) (Zh bInt (Zb (e2 dEq (Zh F_law_take (Zb (Zd 0) (Zb (eC (.int 8)) aNil))) (eC (.int 5))) aNil))))
 (Zn (ZB (gTp (gCs (gNm 4) (gCs (gNm 5) gNl))) (Z5 (Zb (e2 dAdd (eC (.int 1)) (Zh F_law_take (Zb (Zd 0) (Zb (Zd 3) aNil)))) (Zb (e2 dAdd (eC (.int 1)) (Zh F_law_take (Zb (Zd 0) (Zb (eC (.int 5)) aNil)))) aNil))))
 (Zn (ZB (gNm 6) (e2 dSub (Zh F_law_take (Zb (Zd 0) (Zb (eC (.int 3)) aNil))) (eC (.int 1))))
 (Zn (ZB (gNm 7) (e2 dMul (e2 dSub (Zh F_law_take (Zb (Zd 0) (Zb (eC (.int 3)) aNil))) (eC (.int 1))) (Zh bInt (Zb (e2 dGt (e2 dMul (Zd 4) (Zd 5)) (eC (.int 1))) aNil))))
 (Zn (ZB (gNm 8) (ZaW (iSq (Zd 2)) 2 [4,5,6,7] (gTp (gCs (gNm 0) (gCs (gNm 1) gNl))) (fun _ M=> .ok true M) (Zh F_law_short (Zb (Z5 (Zb (e2 dAdd (e2 dMul (Zd 2) (Zd 0)) (e2 dMul (Zd 4) (Zd 1))) (Zb (e2 dAdd (e2 dMul (Zd 5) (Zd 0)) (e2 dMul (Zd 3) (Zd 1))) aNil))) aNil))))
 (Zn (sIf (tv (e2 dLe (Zh F_law_greatest (Zb (Zd 8) aNil)) (eC (.int 200)))) (ZB (gNm 2) (Zd 8)) sNil)
 (Zn (Zif (gNm 9) (Zh bList (Zb (Zd 2) aNil)) Zax)
 (Z1 (Zd 2))))))))))
noncomputable def F_law_round:List D->Sto->Out D:=fnF Zbo 2 10
theorem ZA:FnScope ["_law_purse_here","_law_most","_law_rays","_law_width","_law_a","_law_d","_law_b","_law_c","_law_found","_law_ray","_law_at","_law_without"] ["_law_purse_here","_law_most"] (Zi Z6):=⟨rfl,rfl,rfl,by decide +kernel,rfl,by decide +kernel,by decide +kernel⟩
theorem ZeO {f:Addr} {fd:FuncData} (F:Fun K "_law_round" "_law_round" Z6 f fd) (T:Txt K mg) (C_law_smooth:Cal P w K mg base "_law_smooth" 103 2 F_law_smooth) (C_law_take:Cal P w K mg base "_law_take" 1 2 F_law_take) (C_law_short:Cal P w K mg base "_law_short" 101 1 F_law_short) (C_law_greatest:Cal P w K mg base "_law_greatest" 101 1 F_law_greatest) (C_law_crossed:Cal P w K mg base "_law_crossed" 1 2 F_law_crossed):FnOk P w K mg base (CXE P w) 104 f fd ["_law_purse_here","_law_most"] (spD K F_law_round):=
 Zaz F ZA rfl rfl fun cdv A outer s H E hr θ=>(Zg (Zo 2 ZA.nd (Zj C_law_smooth θ (hr.mono (by decide)) (Za (Zc 0) (Za (Zc 1) Ze))))
  (Zg (Zo 3 ZA.nd (ZC (ZaH (Za Zf (Za Zf Ze))) (ZX ZaQ ZcP T.b_int ZcS (Za (ZcO (Zdo hr.units) Zgb (Zj C_law_take θ (hr.mono (by decide)) (Za (Zc 0) (Za Zf Ze))) Zf) Ze))))
  (Zg (Zhh (ZH (Za (ZJ Zf (Zj C_law_take θ (hr.mono (by decide)) (Za (Zc 0) (Za (Zc 3) Ze)))) (Za (ZJ Zf (Zj C_law_take θ (hr.mono (by decide)) (Za (Zc 0) (Za Zf Ze)))) Ze))) (Zbs (ZD hr (by decide)) (Zy (Zp 4 ZA.nd) (Zy (Zp 5 ZA.nd) ZaF)) (hlen:=(ZF (ZF (fun _ _ _ h=>ZaG h))))))
  (Zg (Zo 6 ZA.nd (Z9 (Zj C_law_take θ (hr.mono (by decide)) (Za (Zc 0) (Za Zf Ze))) Zf))
  (Zg (Zo 7 ZA.nd (ZK (Z9 (Zj C_law_take θ (hr.mono (by decide)) (Za (Zc 0) (Za Zf Ze))) Zf) (ZX ZaQ ZcP T.b_int ZcS (Za (ZcO Zeb Zel (ZK (Zc 4) (Zc 5)) Zf) Ze))))
  (Zg (Zfc 8 ZA.nd (ZoK (XN:=["_law_purse_here","_law_most","_law_rays","_law_width","_law_a","_law_d","_law_b","_law_c","_law_found","_law_ray","_law_at","_law_without"]) (dn:=(Zi Z6).names) (N:=["_law_x","_law_y","_law_a","_law_d","_law_b","_law_c"]) (k:=2) (fr:=[4,5,6,7]) rfl rfl rfl rfl (by decide +kernel)) (Zeo (Zc 2)) (fun _ _ _ _=>(Zbs (ZD hr (by decide)) (Zy (Zp 0 (show List.Nodup (["_law_x","_law_y","_law_a","_law_d","_law_b","_law_c"]:List Str) by decide +kernel)) (Zy (Zp 1 (show List.Nodup (["_law_x","_law_y","_law_a","_law_d","_law_b","_law_c"]:List Str) by decide +kernel)) ZaF)) (hlen:=(ZF (ZF (fun _ _ _ h=>ZaG h)))))) (fun _ _ _ _=>(Or.inl ⟨rfl,rfl⟩)) (fun _ _ _ _=>(Zj C_law_short Ze3 (hr.mono (by decide)) (Za (ZH (Za (ZJ (ZK (Zc 2) (Zc 0)) (ZK (Zc 4) (Zc 1))) (Za (ZJ (ZK (Zc 5) (Zc 0)) (ZK (Zc 3) (Zc 1))) Ze))) Ze))))
  (Zg (Zbv (ZU Zl0 Zmn (Zj C_law_greatest θ (hr.mono (by decide)) (Za (Zc 8) Ze)) Zf) (Zk (Zo 2 ZA.nd (Zc 8))) ZT)
  (Zg (ZfJ θ.own (ZX ZaX ZdG T.b_list ZcT (Za (Zc 2) Ze)) (Zp 9 ZA.nd) (Zg (Zo 10 ZA.nd (ZkA PySem.F.slot_list_index PySem.F.type_list_index (ZmG hr.units) ZmH (Zc 2) (Za (Zc 9) Ze)))
  (Zg (Zo 11 ZA.nd (ZJ (Zb2 (Zc 2) Zb0 (Zb1 (Zc 10))) (Zb2 (Zc 2) (Zb1 (ZJ (Zc 10) Zf)) Zb0)))
  (Zk (Zbv (Zo9 (Zmd (ZU Zeb Zel (Zt Zw ZaY T.b_len PySem.boot_len (Za (Zc 11) Ze)) Zf) (Zkm (ZU (Zdo hr.units) Zgb (Zj C_law_take θ (hr.mono (by decide)) (Za (Zc 0) (Za Zf Ze))) Zf)))) (Zk (Zbv (ZU Zeb Zel (Zj C_law_crossed θ (hr.mono (by decide)) (Za (ZC (Zc 11) (Z9 (Zc 10) Zf)) (Za (ZC (Zc 11) (ZbB (Zc 10) (Zt Zw ZaY T.b_len PySem.boot_len (Za (Zc 11) Ze)))) Ze))) Zf) (Zk (Zo 2 ZA.nd (Zc 11))) ZT)) ZT)))))
  (Zk (ZG (Zc 2)))))))))))
noncomputable abbrev Zae:Stmt:=top 34
noncomputable def ZbL:Sv:=(ZbY (Zer mApp (Zd 2) (Zb (Z5 (Zb (e2 dSub (eC (.int 0)) (Zh F_law_crossed (Zb (Zd 3) (Zb (Zd 5) aNil)))) (Zb (Zh bInt (Zb (e2 dInE (Zd 4) (Zd 0)) aNil)) aNil))) aNil)))
noncomputable def Zcz:Sv:=(Zn (ZB (gNm 2) (ZbR aNil))
 (Zn (ZcU (gTp (gCs (gNm 3) (gCs (gNm 4) (gCs (gNm 5) gNl)))) (DL3.iZs (Zb (e2 dAdd (eSl (Zd 1) (oSo (Zdf (eC (.int 1)))) oNo) (eSl (Zd 1) oNo (oSo (Zdf (eC (.int 1)))))) (Zb (Zd 1) (Zb (e2 dAdd (eSl (Zd 1) (oSo (eC (.int 1))) oNo) (eSl (Zd 1) oNo (oSo (eC (.int 1))))) aNil)))) ZbL)
 (Z1 (Zd 2))))
noncomputable def F_law_marked:List D->Sto->Out D:=fnF Zcz 2 4
theorem Zaj:FnScope ["_law_rays","_law_least_here","_law_found","_law_ahead","_law_ray","_law_behind"] ["_law_rays","_law_least_here"] (Zi Zae):=⟨rfl,rfl,rfl,by decide +kernel,rfl,by decide +kernel,by decide +kernel⟩
theorem Zd1 {f:Addr} {fd:FuncData} (F:Fun K "_law_marked" "_law_marked" Zae f fd) (T:Txt K mg) (C_law_crossed:Cal P w K mg base "_law_crossed" 1 2 F_law_crossed):FnOk P w K mg base (CXE P w) 101 f fd ["_law_rays","_law_least_here"] (spD K F_law_marked):=
 Zaz F Zaj rfl rfl fun cdv A outer s H E hr θ=>(Zg (Zo 2 Zaj.nd (ZaH Ze))
  (Zg (ZdL θ.own (DL3.Zhs (hr.hd (by decide)) T.b_zip (Za (ZJ (Zb2 (Zc 1) (Zb1 (ZbC Zf)) Zb0) (Zb2 (Zc 1) Zb0 (Zb1 (ZbC Zf)))) (Za (Zc 1) (Za (ZJ (Zb2 (Zc 1) (Zb1 Zf) Zb0) (Zb2 (Zc 1) Zb0 (Zb1 Zf))) Ze)))) (Zbs (ZD hr (by decide)) (Zy (Zp 3 Zaj.nd) (Zy (Zp 4 Zaj.nd) (Zy (Zp 5 Zaj.nd) ZaF))) (hlen:=(ZF (ZF (ZF (fun _ _ _ h=>ZaG h)))))) (Zk (ZbZ (ZbE (Zc 2) (ZH (Za (Z9 Zf (Zj C_law_crossed θ (hr.mono (by decide)) (Za (Zc 3) (Za (Zc 5) Ze)))) (Za (ZX ZaQ ZcP T.b_int ZcS (Za (ZcO (ZmD hr.units) ZmE (Zc 4) (Zc 0)) Ze)) Ze)))))))
  (Zk (ZG (Zc 2)))))
noncomputable abbrev Zas:Stmt:=top 35
noncomputable def Za7:Sv:=(sIf (tv (e2 dLeT (e2 dIx (Zd 2) (Zd 3)) (e2 dIx (Zd 1) (eC (.int 0))))) (ZB (gNm 1) (Zh bMinL (Zb (Zd 1) (Zb (e2 dAdd (eSl (Zd 2) (oSo (Zd 3)) oNo) (eSl (Zd 2) oNo (oSo (Zd 3)))) aNil)))) sNil)
noncomputable def Za8:Sv:=(Zbt (gNm 3) (Zb (Zh bLen (Zb (Zd 2) aNil)) aNil) Za7)
noncomputable def Zdb:Sv:=(Zn (ZB (gNm 1) (Zd 0))
 (Zn (Zif (gNm 2) (ZbR (Zb (Zd 0) (Zb (eRv (Zd 0)) aNil))) Za8)
 (Z1 (Zd 1))))
noncomputable def F_law_least:List D->Sto->Out D:=fnF Zdb 1 3
theorem ZaD:FnScope ["_law_marked_here","_law_due","_law_some","_law_k"] ["_law_marked_here"] (Zi Zas):=⟨rfl,rfl,rfl,by decide +kernel,rfl,by decide +kernel,by decide +kernel⟩
theorem ZeP {f:Addr} {fd:FuncData} (F:Fun K "_law_least" "_law_least" Zas f fd) (T:Txt K mg):FnOk P w K mg base (CXE P w) 101 f fd ["_law_marked_here"] (spD K F_law_least):=
 Zaz F ZaD rfl rfl fun cdv A outer s H E hr θ=>(Zg (Zo 1 ZaD.nd (Zc 0))
  (Zg (ZfJ θ.own (ZaH (Za (Zc 0) (Za (Zpg (Zc 0)) Ze))) (Zp 2 ZaD.nd) (Zk (Zca θ.own T.b_range (Za (Zt Zw ZaY T.b_len PySem.boot_len (Za (Zc 2) Ze)) Ze) (Zp 3 ZaD.nd) (Zk (Zbv (ZU (ZmX hr.units) ZmY (ZC (Zc 2) (Zc 3)) (ZC (Zc 1) Zf)) (Zk (Zo 1 ZaD.nd (Zt (Zgk (ZD hr (by decide)) hr.units) ZiU T.b_min Zjz (Za (Zc 1) (Za (ZJ (Zb2 (Zc 2) (Zb1 (Zc 3)) Zb0) (Zb2 (Zc 2) Zb0 (Zb1 (Zc 3)))) Ze))))) ZT)))))
  (Zk (ZG (Zc 1)))))
noncomputable abbrev Zd2:Stmt:=top 36
noncomputable def Zd3:Sv:=(Zn (ZB (gNm 2) (Zh F_law_round (Zb (Zh F_law_purse (Zb (Zd 0) (Zb (Zd 1) aNil))) (Zb (eC (.int 8)) aNil))))
 (Zn (ZB (gNm 3) (Zh F_least_round (Zb (Zh bList (Zb (Zd 2) aNil)) aNil)))
 (Zn (sIf (tv (e2 dGt (Zh bLen (Zb (Zd 3) aNil)) (eC (.int 300)))) (Zn (ZB (gNm 2) (ZbR (Zb (Z5 (Zb (eC (.int 1)) (Zb (eC (.int 0)) aNil))) (Zb (Z5 (Zb (eC (.int 0)) (Zb (eC (.int 1)) aNil))) (Zb (Z5 (Zb (Zdf (eC (.int 1))) (Zb (Zdf (eC (.int 1))) aNil))) aNil)))))
 (ZB (gNm 3) (Zh bList (Zb (Zd 2) aNil)))) sNil)
 (Zn (ZB (gNm 4) (Zh F_law_least (Zb (Zh F_law_marked (Zb (Zd 2) (Zb (Zd 3) aNil))) aNil)))
 (Zn (ZB (gNm 5) (Zh bList (Zb (Zd 2) aNil)))
 (Zn (ZB (gNm 6) (Zh F_least_row (Zb (Zd 5) aNil)))
 (Zn (sIf (Zkl (Zf9 (tv (Zms "list" (Zd 6)))) (Zkl (tv (e2 dNe (Zd 6) (Zd 4))) (tv (e2 dNe (Zd 5) (Zd 2))))) (Z1 (eC (.bl false))) sNil)
 (Zn (sIf (Zf9 (tv (Zh bAll (Zb (ZaW (iSq (Zd 6)) 1 [] (gNm 0) (fun _ M=> .ok true M) (Zms "tuple" (Zd 0))) aNil)))) (Z1 (eC (.bl false))) sNil)
 (Zn (ZbY (Zer mApp (Zd 6) (Zb (Z5 (Zb (eC (.int 0)) (Zb (eC (.int 0)) aNil))) aNil)))
 (sIf (tv (e2 dNe (Zh F_least_row (Zb (Zd 5) aNil)) (Zd 4))) (Z1 (eC (.bl false))) sNil))))))))))
noncomputable def Zoz:Sv:=(Zn (Zbt (gNm 1) (Zb (Zh bMax (Zb (eC (.int 1)) (Zb (Zh bMin (Zb (eC (.int 2)) (Zb (Zh bLen (Zb (Zd 0) aNil)) aNil))) aNil))) aNil) Zd3)
 (Z1 (eC (.bl true))))
noncomputable def Zfw:List D->Sto->Out D:=fnF Zoz 1 6
theorem Zcn:FnScope ["_law_script","_law_k","_law_rays","_law_least_here","_law_due","_law_handed","_law_found"] ["_law_script"] (Zi Zd2):=⟨rfl,rfl,rfl,by decide +kernel,rfl,by decide +kernel,by decide +kernel⟩
theorem ZoA {f:Addr} {fd:FuncData} (F:Fun K "law" "law" Zd2 f fd) (T:Txt K mg) (C_law_purse:Cal P w K mg base "_law_purse" 1 2 F_law_purse) (C_law_round:Cal P w K mg base "_law_round" 104 2 F_law_round) (C_least_round:Cal P w K mg base "least_round" 105 1 F_least_round) (C_law_marked:Cal P w K mg base "_law_marked" 101 2 F_law_marked) (C_law_least:Cal P w K mg base "_law_least" 101 1 F_law_least) (C_least_row:Cal P w K mg base "least_row" 107 1 F_least_row):FnOk P w K mg base (CXE P w) 108 f fd ["_law_script"] (spD K Zfw):=
 Zaz F Zcn rfl rfl fun cdv A outer s H E hr θ=>(Zg (Zca θ.own T.b_range (Za (Zt (ZcK (ZD hr (by decide))) Zhe T.b_max ZfK (Za Zf (Za (Zt (ZgM (ZD hr (by decide))) Zmr T.b_min Zjz (Za Zf (Za (Zt Zw ZaY T.b_len PySem.boot_len (Za (Zc 0) Ze)) Ze))) Ze))) Ze) (Zp 1 Zcn.nd) (Zg (Zo 2 Zcn.nd (Zj C_law_round θ (hr.mono (by decide)) (Za (Zj C_law_purse θ (hr.mono (by decide)) (Za (Zc 0) (Za (Zc 1) Ze))) (Za Zf Ze))))
  (Zg (Zo 3 Zcn.nd (Zj C_least_round θ (hr.mono (by decide)) (Za (ZX ZaX ZdG T.b_list ZcT (Za (Zc 2) Ze)) Ze)))
  (Zg (Zbv (ZU Zeb Zel (Zt Zw ZaY T.b_len PySem.boot_len (Za (Zc 3) Ze)) Zf) (Zg (Zo 2 Zcn.nd (ZaH (Za (ZH (Za Zf (Za Zf Ze))) (Za (ZH (Za Zf (Za Zf Ze))) (Za (ZH (Za (ZbC Zf) (Za (ZbC Zf) Ze))) Ze)))))
  (Zk (Zo 3 Zcn.nd (ZX ZaX ZdG T.b_list ZcT (Za (Zc 2) Ze))))) ZT)
  (Zg (Zo 4 Zcn.nd (Zj C_law_least θ (hr.mono (by decide)) (Za (Zj C_law_marked θ (hr.mono (by decide)) (Za (Zc 2) (Za (Zc 3) Ze))) Ze)))
  (Zg (Zo 5 Zcn.nd (ZX ZaX ZdG T.b_list ZcT (Za (Zc 2) Ze)))
  (Zg (Zo 6 Zcn.nd (Zj C_least_row θ (hr.mono (by decide)) (Za (Zc 5) Ze)))
  (Zg (Zbv (Zo9 (Zkn (Zjq (Zjo (Zjt ZiE T.b_isinstance T.b_list ZcT (Zc 6)))) (Zkn (ZU (Zdp hr.units) Zgc (Zc 6) (Zc 4)) (Zjp (ZU (Zdp hr.units) Zgc (Zc 5) (Zc 2)))))) (Zk (ZG Zg6)) ZT)
  (Zg (Zbv (Zjq (Zjo (Zt (ZiL (ZD hr (by decide))) Zmz T.b_all Zmv (Za (ZdJ (ZoJ (N:=["_law_one"]) (k:=1) (by decide +kernel) rfl (by decide +kernel) rfl) (Zeo (Zc 6)) (fun _ _ _ _=>(Zp 0 (show List.Nodup (["_law_one"]:List Str) by decide +kernel))) (fun _ _ _ _=>(Or.inl ⟨rfl,rfl⟩)) (fun _ _ _ _=>(Zjt Zhf T.b_isinstance T.b_tuple ZiJ (Zc 0)))) Ze)))) (Zk (ZG Zg6)) ZT)
  (Zg (ZbZ (ZbE (Zc 6) (ZH (Za Zf (Za Zf Ze)))))
  (Zk (Zbv (ZU (Zdp hr.units) Zgc (Zj C_least_row θ (hr.mono (by decide)) (Za (Zc 5) Ze)) (Zc 4)) (Zk (ZG Zg6)) ZT))))))))))))
  (Zk (ZG Zg6)))
end
theorem ZoB {l:PySem.W.OpenLaw} {w:World} {K:PySem.W.Frag} {h:Heap} {mg:Str->Option Value} {fa f1 f2 f3 f4 f5 f6 f7 f8 f9 f10 f11 f12 f13 f14 f15 f16 f17 f18 f19 f20 f21 f22 f23 f24 f25 f26:Addr} (X:K.In h) (G:h.Ns mainGlobals mg) (hfa:mg "law"=some (.ref fa))
  {od1 an1 od2 an2 od3 an3 od4 an4 od5 an5 od6 an6 od7 an7 od8 an8 od9 an9 od10 an10 od11 an11 od12 an12 od13 an13 od14 an14 od15 an15 od16 an16 od17 an17 od18 an18 od19 an19 od20 an20 od21 an21 od22 an22 od23 an23 od24 an24 od25 an25 od26 an26:Option Addr} {sl1 sl2 sl3 sl4 sl5 sl6 sl7 sl8 sl9 sl10 sl11 sl12 sl13 sl14 sl15 sl16 sl17 sl18 sl19 sl20 sl21 sl22 sl23 sl24 sl25 sl26:Array (Option Value)} {oc1 kV1 dc1 pm1 cd1 ct1 oc2 kV2 dc2 pm2 cd2 ct2 oc3 kV3 dc3 pm3 cd3 ct3 oc4 kV4 dc4 pm4 cd4 ct4 oc5 kV5 dc5 pm5 cd5 ct5 oc6 kV6 dc6 pm6 cd6 ct6 oc7 kV7 dc7 pm7 cd7 ct7 oc8 kV8 dc8 pm8 cd8 ct8 oc9 kV9 dc9 pm9 cd9 ct9 oc10 kV10 dc10 pm10 cd10 ct10 oc11 kV11 dc11 pm11 cd11 ct11 oc12 kV12 dc12 pm12 cd12 ct12 oc13 kV13 dc13 pm13 cd13 ct13 oc14 kV14 dc14 pm14 cd14 ct14 oc15 kV15 dc15 pm15 cd15 ct15 oc16 kV16 dc16 pm16 cd16 ct16 oc17 kV17 dc17 pm17 cd17 ct17 oc18 kV18 dc18 pm18 cd18 ct18 oc19 kV19 dc19 pm19 cd19 ct19 oc20 kV20 dc20 pm20 cd20 ct20 oc21 kV21 dc21 pm21 cd21 ct21 oc22 kV22 dc22 pm22 cd22 ct22 oc23 kV23 dc23 pm23 cd23 ct23 oc24 kV24 dc24 pm24 cd24 ct24 oc25 kV25 dc25 pm25 cd25 ct25 oc26 kV26 dc26 pm26 cd26 ct26:Value}
  (a1:PySem.W.nsIn K mainGlobals "crossed"=some (some (.ref f1))) (l1:K.lookup f1=some ⟨oc1,od1,.func (PySem.W.fnOf "crossed" "crossed" (Zx Zbd) (Zv Zbd) (Zi Zbd) .none kV1 dc1 pm1 an1 cd1 ct1),sl1⟩) (c1:PySem.W.codeIn K cd1 "crossed"=true) (k1:PySem.W.keepIn K (.ref f1)=true)
  (a2:PySem.W.nsIn K mainGlobals "following"=some (some (.ref f2))) (l2:K.lookup f2=some ⟨oc2,od2,.func (PySem.W.fnOf "following" "following" (Zx Zan) (Zv Zan) (Zi Zan) .none kV2 dc2 pm2 an2 cd2 ct2),sl2⟩) (c2:PySem.W.codeIn K cd2 "following"=true) (k2:PySem.W.keepIn K (.ref f2)=true)
  (a3:PySem.W.nsIn K mainGlobals "unspanned"=some (some (.ref f3))) (l3:K.lookup f3=some ⟨oc3,od3,.func (PySem.W.fnOf "unspanned" "unspanned" (Zx Zao) (Zv Zao) (Zi Zao) .none kV3 dc3 pm3 an3 cd3 ct3),sl3⟩) (c3:PySem.W.codeIn K cd3 "unspanned"=true) (k3:PySem.W.keepIn K (.ref f3)=true)
  (a4:PySem.W.nsIn K mainGlobals "ask_smooth"=some (some (.ref f4))) (l4:K.lookup f4=some ⟨oc4,od4,.func (PySem.W.fnOf "ask_smooth" "ask_smooth" (Zx Zab) (Zv Zab) (Zi Zab) .none kV4 dc4 pm4 an4 cd4 ct4),sl4⟩) (c4:PySem.W.codeIn K cd4 "ask_smooth"=true) (k4:PySem.W.keepIn K (.ref f4)=true)
  (a5:PySem.W.nsIn K mainGlobals "partner"=some (some (.ref f5))) (l5:K.lookup f5=some ⟨oc5,od5,.func (PySem.W.fnOf "partner" "partner" (Zx Zbe) (Zv Zbe) (Zi Zbe) .none kV5 dc5 pm5 an5 cd5 ct5),sl5⟩) (c5:PySem.W.codeIn K cd5 "partner"=true) (k5:PySem.W.keepIn K (.ref f5)=true)
  (a6:PySem.W.nsIn K mainGlobals "first_behind"=some (some (.ref f6))) (l6:K.lookup f6=some ⟨oc6,od6,.func (PySem.W.fnOf "first_behind" "first_behind" (Zx ZQ) (Zv ZQ) (Zi ZQ) .none kV6 dc6 pm6 an6 cd6 ct6),sl6⟩) (c6:PySem.W.codeIn K cd6 "first_behind"=true) (k6:PySem.W.keepIn K (.ref f6)=true)
  (a7:PySem.W.nsIn K mainGlobals "expanded"=some (some (.ref f7))) (l7:K.lookup f7=some ⟨oc7,od7,.func (PySem.W.fnOf "expanded" "expanded" (Zx ZaN) (Zv ZaN) (Zi ZaN) .none kV7 dc7 pm7 an7 cd7 ct7),sl7⟩) (c7:PySem.W.codeIn K cd7 "expanded"=true) (k7:PySem.W.keepIn K (.ref f7)=true)
  (a8:PySem.W.nsIn K mainGlobals "row"=some (some (.ref f8))) (l8:K.lookup f8=some ⟨oc8,od8,.func (PySem.W.fnOf "row" "row" (Zx Zgq) (Zv Zgq) (Zi Zgq) .none kV8 dc8 pm8 an8 cd8 ct8),sl8⟩) (c8:PySem.W.codeIn K cd8 "row"=true) (k8:PySem.W.keepIn K (.ref f8)=true)
  (a9:PySem.W.nsIn K mainGlobals "between"=some (some (.ref f9))) (l9:K.lookup f9=some ⟨oc9,od9,.func (PySem.W.fnOf "between" "between" (Zx Zbf) (Zv Zbf) (Zi Zbf) .none kV9 dc9 pm9 an9 cd9 ct9),sl9⟩) (c9:PySem.W.codeIn K cd9 "between"=true) (k9:PySem.W.keepIn K (.ref f9)=true)
  (a10:PySem.W.nsIn K mainGlobals "least_round"=some (some (.ref f10))) (l10:K.lookup f10=some ⟨oc10,od10,.func (PySem.W.fnOf "least_round" "least_round" (Zx ZZ) (Zv ZZ) (Zi ZZ) .none kV10 dc10 pm10 an10 cd10 ct10),sl10⟩) (c10:PySem.W.codeIn K cd10 "least_round"=true) (k10:PySem.W.keepIn K (.ref f10)=true)
  (a11:PySem.W.nsIn K mainGlobals "numbers"=some (some (.ref f11))) (l11:K.lookup f11=some ⟨oc11,od11,.func (PySem.W.fnOf "numbers" "numbers" (Zx ZaV) (Zv ZaV) (Zi ZaV) .none kV11 dc11 pm11 an11 cd11 ct11),sl11⟩) (c11:PySem.W.codeIn K cd11 "numbers"=true) (k11:PySem.W.keepIn K (.ref f11)=true)
  (a12:PySem.W.nsIn K mainGlobals "marked_row"=some (some (.ref f12))) (l12:K.lookup f12=some ⟨oc12,od12,.func (PySem.W.fnOf "marked_row" "marked_row" (Zx ZY) (Zv ZY) (Zi ZY) .none kV12 dc12 pm12 an12 cd12 ct12),sl12⟩) (c12:PySem.W.codeIn K cd12 "marked_row"=true) (k12:PySem.W.keepIn K (.ref f12)=true)
  (a13:PySem.W.nsIn K mainGlobals "first_reading"=some (some (.ref f13))) (l13:K.lookup f13=some ⟨oc13,od13,.func (PySem.W.fnOf "first_reading" "first_reading" (Zx ZL) (Zv ZL) (Zi ZL) .none kV13 dc13 pm13 an13 cd13 ct13),sl13⟩) (c13:PySem.W.codeIn K cd13 "first_reading"=true) (k13:PySem.W.keepIn K (.ref f13)=true)
  (a14:PySem.W.nsIn K mainGlobals "least_row"=some (some (.ref f14))) (l14:K.lookup f14=some ⟨oc14,od14,.func (PySem.W.fnOf "least_row" "least_row" (Zx Zap) (Zv Zap) (Zi Zap) .none kV14 dc14 pm14 an14 cd14 ct14),sl14⟩) (c14:PySem.W.codeIn K cd14 "least_row"=true) (k14:PySem.W.keepIn K (.ref f14)=true)
  (a15:PySem.W.nsIn K mainGlobals "_law_purse"=some (some (.ref f15))) (l15:K.lookup f15=some ⟨oc15,od15,.func (PySem.W.fnOf "_law_purse" "_law_purse" (Zx Zaq) (Zv Zaq) (Zi Zaq) .none kV15 dc15 pm15 an15 cd15 ct15),sl15⟩) (c15:PySem.W.codeIn K cd15 "_law_purse"=true) (k15:PySem.W.keepIn K (.ref f15)=true)
  (a16:PySem.W.nsIn K mainGlobals "_law_take"=some (some (.ref f16))) (l16:K.lookup f16=some ⟨oc16,od16,.func (PySem.W.fnOf "_law_take" "_law_take" (Zx ZaP) (Zv ZaP) (Zi ZaP) .none kV16 dc16 pm16 an16 cd16 ct16),sl16⟩) (c16:PySem.W.codeIn K cd16 "_law_take"=true) (k16:PySem.W.keepIn K (.ref f16)=true)
  (a17:PySem.W.nsIn K mainGlobals "_law_crossed"=some (some (.ref f17))) (l17:K.lookup f17=some ⟨oc17,od17,.func (PySem.W.fnOf "_law_crossed" "_law_crossed" (Zx Z0) (Zv Z0) (Zi Z0) .none kV17 dc17 pm17 an17 cd17 ct17),sl17⟩) (c17:PySem.W.codeIn K cd17 "_law_crossed"=true) (k17:PySem.W.keepIn K (.ref f17)=true)
  (a18:PySem.W.nsIn K mainGlobals "_law_short"=some (some (.ref f18))) (l18:K.lookup f18=some ⟨oc18,od18,.func (PySem.W.fnOf "_law_short" "_law_short" (Zx Zar) (Zv Zar) (Zi Zar) .none kV18 dc18 pm18 an18 cd18 ct18),sl18⟩) (c18:PySem.W.codeIn K cd18 "_law_short"=true) (k18:PySem.W.keepIn K (.ref f18)=true)
  (a19:PySem.W.nsIn K mainGlobals "_law_greatest"=some (some (.ref f19))) (l19:K.lookup f19=some ⟨oc19,od19,.func (PySem.W.fnOf "_law_greatest" "_law_greatest" (Zx ZR) (Zv ZR) (Zi ZR) .none kV19 dc19 pm19 an19 cd19 ct19),sl19⟩) (c19:PySem.W.codeIn K cd19 "_law_greatest"=true) (k19:PySem.W.keepIn K (.ref f19)=true)
  (a20:PySem.W.nsIn K mainGlobals "_law_put"=some (some (.ref f20))) (l20:K.lookup f20=some ⟨oc20,od20,.func (PySem.W.fnOf "_law_put" "_law_put" (Zx Zbg) (Zv Zbg) (Zi Zbg) .none kV20 dc20 pm20 an20 cd20 ct20),sl20⟩) (c20:PySem.W.codeIn K cd20 "_law_put"=true) (k20:PySem.W.keepIn K (.ref f20)=true)
  (a21:PySem.W.nsIn K mainGlobals "_law_sheared"=some (some (.ref f21))) (l21:K.lookup f21=some ⟨oc21,od21,.func (PySem.W.fnOf "_law_sheared" "_law_sheared" (Zx ZO) (Zv ZO) (Zi ZO) .none kV21 dc21 pm21 an21 cd21 ct21),sl21⟩) (c21:PySem.W.codeIn K cd21 "_law_sheared"=true) (k21:PySem.W.keepIn K (.ref f21)=true)
  (a22:PySem.W.nsIn K mainGlobals "_law_smooth"=some (some (.ref f22))) (l22:K.lookup f22=some ⟨oc22,od22,.func (PySem.W.fnOf "_law_smooth" "_law_smooth" (Zx Zad) (Zv Zad) (Zi Zad) .none kV22 dc22 pm22 an22 cd22 ct22),sl22⟩) (c22:PySem.W.codeIn K cd22 "_law_smooth"=true) (k22:PySem.W.keepIn K (.ref f22)=true)
  (a23:PySem.W.nsIn K mainGlobals "_law_round"=some (some (.ref f23))) (l23:K.lookup f23=some ⟨oc23,od23,.func (PySem.W.fnOf "_law_round" "_law_round" (Zx Z6) (Zv Z6) (Zi Z6) .none kV23 dc23 pm23 an23 cd23 ct23),sl23⟩) (c23:PySem.W.codeIn K cd23 "_law_round"=true) (k23:PySem.W.keepIn K (.ref f23)=true)
  (a24:PySem.W.nsIn K mainGlobals "_law_marked"=some (some (.ref f24))) (l24:K.lookup f24=some ⟨oc24,od24,.func (PySem.W.fnOf "_law_marked" "_law_marked" (Zx Zae) (Zv Zae) (Zi Zae) .none kV24 dc24 pm24 an24 cd24 ct24),sl24⟩) (c24:PySem.W.codeIn K cd24 "_law_marked"=true) (k24:PySem.W.keepIn K (.ref f24)=true)
  (a25:PySem.W.nsIn K mainGlobals "_law_least"=some (some (.ref f25))) (l25:K.lookup f25=some ⟨oc25,od25,.func (PySem.W.fnOf "_law_least" "_law_least" (Zx Zas) (Zv Zas) (Zi Zas) .none kV25 dc25 pm25 an25 cd25 ct25),sl25⟩) (c25:PySem.W.codeIn K cd25 "_law_least"=true) (k25:PySem.W.keepIn K (.ref f25)=true)
  (a26:PySem.W.nsIn K mainGlobals "law"=some (some (.ref f26))) (l26:K.lookup f26=some ⟨oc26,od26,.func (PySem.W.fnOf "law" "law" (Zx Zd2) (Zv Zd2) (Zi Zd2) .none kV26 dc26 pm26 an26 cd26 ct26),sl26⟩) (c26:PySem.W.codeIn K cd26 "law"=true) (k26:PySem.W.keepIn K (.ref f26)=true)
  (z_len:PySem.W.nsIn K mainGlobals "len"=some none)
  (z_enumerate:PySem.W.nsIn K mainGlobals "enumerate"=some none)
  (z_range:PySem.W.nsIn K mainGlobals "range"=some none)
  (z_zip:PySem.W.nsIn K mainGlobals "zip"=some none)
  (z_int:PySem.W.nsIn K mainGlobals "int"=some none)
  (z_abs:PySem.W.nsIn K mainGlobals "abs"=some none)
  (z_max:PySem.W.nsIn K mainGlobals "max"=some none)
  (z_reversed:PySem.W.nsIn K mainGlobals "reversed"=some none)
  (z_list:PySem.W.nsIn K mainGlobals "list"=some none)
  (z_min:PySem.W.nsIn K mainGlobals "min"=some none)
  (z_isinstance:PySem.W.nsIn K mainGlobals "isinstance"=some none)
  (z_tuple:PySem.W.nsIn K mainGlobals "tuple"=some none)
  (z_all:PySem.W.nsIn K mainGlobals "all"=some none)
  (q_ex_NotSmooth:Zkv K "NotSmooth"=true)
  (q_ex_NoWedge:Zkv K "NoWedge"=true)
  : ∃ fd:FuncData,(∀ (s:Shared) (v:Value),BindsTo s fd ⟨[v],[]⟩ [("_law_script",v)])/\ ∀ base:Heap,K.In base->base.Ns mainGlobals mg->FnOk l.prog w K mg base (CXE l.prog w) 108 fa fd ["_law_script"] (spD K Zfw):=by
 have e:=hfa.symm.trans (PySem.W.mg_of X G a26)
 cases e
 have T:Txt K mg:=⟨fun c v e=>PySem.W.mg_of X G e,PySem.W.mg_none_of X G z_len,PySem.W.mg_none_of X G z_enumerate,PySem.W.mg_none_of X G z_range,PySem.W.mg_none_of X G z_zip,PySem.W.mg_none_of X G z_int,PySem.W.mg_none_of X G z_abs,PySem.W.mg_none_of X G z_max,PySem.W.mg_none_of X G z_reversed,PySem.W.mg_none_of X G z_list,PySem.W.mg_none_of X G z_min,PySem.W.mg_none_of X G z_isinstance,PySem.W.mg_none_of X G z_tuple,PySem.W.mg_none_of X G z_all,q_ex_NotSmooth,q_ex_NoWedge⟩
 have R1:=ZM (st:=Zbd) l1 c1 k1
 have R2:=ZM (st:=Zan) l2 c2 k2
 have R3:=ZM (st:=Zao) l3 c3 k3
 have R4:=ZM (st:=Zab) l4 c4 k4
 have R5:=ZM (st:=Zbe) l5 c5 k5
 have R6:=ZM (st:=ZQ) l6 c6 k6
 have R7:=ZM (st:=ZaN) l7 c7 k7
 have R8:=ZM (st:=Zgq) l8 c8 k8
 have R9:=ZM (st:=Zbf) l9 c9 k9
 have R10:=ZM (st:=ZZ) l10 c10 k10
 have R11:=ZM (st:=ZaV) l11 c11 k11
 have R12:=ZM (st:=ZY) l12 c12 k12
 have R13:=ZM (st:=ZL) l13 c13 k13
 have R14:=ZM (st:=Zap) l14 c14 k14
 have R15:=ZM (st:=Zaq) l15 c15 k15
 have R16:=ZM (st:=ZaP) l16 c16 k16
 have R17:=ZM (st:=Z0) l17 c17 k17
 have R18:=ZM (st:=Zar) l18 c18 k18
 have R19:=ZM (st:=ZR) l19 c19 k19
 have R20:=ZM (st:=Zbg) l20 c20 k20
 have R21:=ZM (st:=ZO) l21 c21 k21
 have R22:=ZM (st:=Zad) l22 c22 k22
 have R23:=ZM (st:=Z6) l23 c23 k23
 have R24:=ZM (st:=Zae) l24 c24 k24
 have R25:=ZM (st:=Zas) l25 c25 k25
 have R26:=ZM (st:=Zd2) l26 c26 k26
 refine ⟨PySem.W.fnOf "law" "law" (Zx Zd2) (Zv Zd2) (Zi Zd2) .none kV26 dc26 pm26 an26 cd26 ct26,fun s v=> .of_eq rfl,fun base _ _=> ?_⟩
 have C1:Cal l.prog w K mg base "crossed" 1 2 F_crossed:=⟨f1,_,["one","other"],Zgo R1 T,PySem.W.mg_of X G a1,k1,rfl,R1.binds (ps:=["one","other"]) fun _ _ _ _ _ _ us hl=>match us,hl with | [_,_],_=>rfl⟩
 have C2:Cal l.prog w K mg base "following" 1 2 F_following:=⟨f2,_,["things","at"],ZeI R2 T,PySem.W.mg_of X G a2,k2,rfl,R2.binds (ps:=["things","at"]) fun _ _ _ _ _ _ us hl=>match us,hl with | [_,_],_=>rfl⟩
 have C3:Cal l.prog w K mg base "unspanned" 101 1 F_unspanned:=⟨f3,_,["rays"],ZeJ R3 T C2 C1,PySem.W.mg_of X G a3,k3,rfl,R3.binds (ps:=["rays"]) fun _ _ _ _ _ _ us hl=>match us,hl with | [_],_=>rfl⟩
 have C4:Cal l.prog w K mg base "ask_smooth" 102 1 F_ask_smooth:=⟨f4,_,["rays"],ZdY R4 T C3,PySem.W.mg_of X G a4,k4,rfl,R4.binds (ps:=["rays"]) fun _ _ _ _ _ _ us hl=>match us,hl with | [_],_=>rfl⟩
 have C5:Cal l.prog w K mg base "partner" 101 1 F_partner:=⟨f5,_,["ray"],Zgp R5 T,PySem.W.mg_of X G a5,k5,rfl,R5.binds (ps:=["ray"]) fun _ _ _ _ _ _ us hl=>match us,hl with | [_],_=>rfl⟩
 have C6:Cal l.prog w K mg base "first_behind" 102 2 F_first_behind:=⟨f6,_,["u","v"],Zc7 R6 T C5 C1,PySem.W.mg_of X G a6,k6,rfl,R6.binds (ps:=["u","v"]) fun _ _ _ _ _ _ us hl=>match us,hl with | [_,_],_=>rfl⟩
 have C7:Cal l.prog w K mg base "expanded" 101 2 F_expanded:=⟨f7,_,["top","bottom"],Zfu R7 T,PySem.W.mg_of X G a7,k7,rfl,R7.binds (ps:=["top","bottom"]) fun _ _ _ _ _ _ us hl=>match us,hl with | [_,_],_=>rfl⟩
 have C8:Cal l.prog w K mg base "row" 103 2 F_row:=⟨f8,_,["u","v"],Zoy R8 T C1 C6 C7,PySem.W.mg_of X G a8,k8,rfl,R8.binds (ps:=["u","v"]) fun _ _ _ _ _ _ us hl=>match us,hl with | [_,_],_=>rfl⟩
 have C9:Cal l.prog w K mg base "between" 104 2 F_between:=⟨f9,_,["u","v"],Zgr R9 T C8 C6,PySem.W.mg_of X G a9,k9,rfl,R9.binds (ps:=["u","v"]) fun _ _ _ _ _ _ us hl=>match us,hl with | [_,_],_=>rfl⟩
 have C10:Cal l.prog w K mg base "least_round" 105 1 F_least_round:=⟨f10,_,["rays"],Zdk R10 T C2 C9,PySem.W.mg_of X G a10,k10,rfl,R10.binds (ps:=["rays"]) fun _ _ _ _ _ _ us hl=>match us,hl with | [_],_=>rfl⟩
 have C11:Cal l.prog w K mg base "numbers" 103 1 F_numbers:=⟨f11,_,["rays"],Zgt R11 T C4 C2 C1,PySem.W.mg_of X G a11,k11,rfl,R11.binds (ps:=["rays"]) fun _ _ _ _ _ _ us hl=>match us,hl with | [_],_=>rfl⟩
 have C12:Cal l.prog w K mg base "marked_row" 104 2 F_marked_row:=⟨f12,_,["rays","least"],ZdZ R12 T C11,PySem.W.mg_of X G a12,k12,rfl,R12.binds (ps:=["rays","least"]) fun _ _ _ _ _ _ us hl=>match us,hl with | [_,_],_=>rfl⟩
 have C13:Cal l.prog w K mg base "first_reading" 106 1 F_first_reading:=⟨f13,_,["rays"],ZcD R13 T C10 C12 C2,PySem.W.mg_of X G a13,k13,rfl,R13.binds (ps:=["rays"]) fun _ _ _ _ _ _ us hl=>match us,hl with | [_],_=>rfl⟩
 have C14:Cal l.prog w K mg base "least_row" 107 1 F_least_row:=⟨f14,_,["rays"],ZeL R14 T C13,PySem.W.mg_of X G a14,k14,rfl,R14.binds (ps:=["rays"]) fun _ _ _ _ _ _ us hl=>match us,hl with | [_],_=>rfl⟩
 have C15:Cal l.prog w K mg base "_law_purse" 1 2 F_law_purse:=⟨f15,_,["_law_script","_law_k"],ZeM R15 T,PySem.W.mg_of X G a15,k15,rfl,R15.binds (ps:=["_law_script","_law_k"]) fun _ _ _ _ _ _ us hl=>match us,hl with | [_,_],_=>rfl⟩
 have C16:Cal l.prog w K mg base "_law_take" 1 2 F_law_take:=⟨f16,_,["_law_purse_here","_law_many"],Zfv R16 T,PySem.W.mg_of X G a16,k16,rfl,R16.binds (ps:=["_law_purse_here","_law_many"]) fun _ _ _ _ _ _ us hl=>match us,hl with | [_,_],_=>rfl⟩
 have C17:Cal l.prog w K mg base "_law_crossed" 1 2 F_law_crossed:=⟨f17,_,["_law_one","_law_other"],Zdm R17 T,PySem.W.mg_of X G a17,k17,rfl,R17.binds (ps:=["_law_one","_law_other"]) fun _ _ _ _ _ _ us hl=>match us,hl with | [_,_],_=>rfl⟩
 have C18:Cal l.prog w K mg base "_law_short" 101 1 F_law_short:=⟨f18,_,["_law_pair"],ZeN R18 T,PySem.W.mg_of X G a18,k18,rfl,R18.binds (ps:=["_law_pair"]) fun _ _ _ _ _ _ us hl=>match us,hl with | [_],_=>rfl⟩
 have C19:Cal l.prog w K mg base "_law_greatest" 101 1 F_law_greatest:=⟨f19,_,["_law_rays"],Zda R19 T,PySem.W.mg_of X G a19,k19,rfl,R19.binds (ps:=["_law_rays"]) fun _ _ _ _ _ _ us hl=>match us,hl with | [_],_=>rfl⟩
 have C20:Cal l.prog w K mg base "_law_put" 101 2 F_law_put:=⟨f20,_,["_law_rays","_law_at"],Zgu R20 T,PySem.W.mg_of X G a20,k20,rfl,R20.binds (ps:=["_law_rays","_law_at"]) fun _ _ _ _ _ _ us hl=>match us,hl with | [_,_],_=>rfl⟩
 have C21:Cal l.prog w K mg base "_law_sheared" 102 3 F_law_sheared:=⟨f21,_,["_law_rays","_law_many","_law_way"],Zdn R21 T C19,PySem.W.mg_of X G a21,k21,rfl,R21.binds (ps:=["_law_rays","_law_many","_law_way"]) fun _ _ _ _ _ _ us hl=>match us,hl with | [_,_,_],_=>rfl⟩
 have C22:Cal l.prog w K mg base "_law_smooth" 103 2 F_law_smooth:=⟨f22,_,["_law_purse_here","_law_most"],Zd0 R22 T C16 C20 C21,PySem.W.mg_of X G a22,k22,rfl,R22.binds (ps:=["_law_purse_here","_law_most"]) fun _ _ _ _ _ _ us hl=>match us,hl with | [_,_],_=>rfl⟩
 have C23:Cal l.prog w K mg base "_law_round" 104 2 F_law_round:=⟨f23,_,["_law_purse_here","_law_most"],ZeO R23 T C22 C16 C18 C19 C17,PySem.W.mg_of X G a23,k23,rfl,R23.binds (ps:=["_law_purse_here","_law_most"]) fun _ _ _ _ _ _ us hl=>match us,hl with | [_,_],_=>rfl⟩
 have C24:Cal l.prog w K mg base "_law_marked" 101 2 F_law_marked:=⟨f24,_,["_law_rays","_law_least_here"],Zd1 R24 T C17,PySem.W.mg_of X G a24,k24,rfl,R24.binds (ps:=["_law_rays","_law_least_here"]) fun _ _ _ _ _ _ us hl=>match us,hl with | [_,_],_=>rfl⟩
 have C25:Cal l.prog w K mg base "_law_least" 101 1 F_law_least:=⟨f25,_,["_law_marked_here"],ZeP R25 T,PySem.W.mg_of X G a25,k25,rfl,R25.binds (ps:=["_law_marked_here"]) fun _ _ _ _ _ _ us hl=>match us,hl with | [_],_=>rfl⟩
 exact ZoA R26 T C15 C23 C10 C24 C25 C14
end K33
end
section
namespace K33
open PySem PySem.Spec L2 DL
open CB (Bd lrd)
open CV CX
theorem Zc4:F_law_crossed=CB.F_law_crossed:=rfl
section
variable {Q:D->Sto->Prop} {E:Str->Sto->Prop} {M:Sto} {n m p:Nat} {rs ls L:List Pt} {N B C:Ro->Sto->Prop} {R:D->Sto->Prop}
theorem ZjV {A:List Pt} (h:A≠[]):Zd7 (prs A) (some (-1)) none=prs (A.drop (A.length - 1))/\Zd7 (prs A) none (some (-1))=prs (A.take (A.length - 1)):=by
 have l:(prs A).length=A.length:=Zq
 have p:=List.length_pos_iff.mpr h
 unfold Zd7
 simp only[HT.sIx]
 rw[l]
 constructor
 ·rw[if_pos (by decide),show (-1 + (A.length:Int)).toNat=A.length - 1 by omega,ZfT]
  rw[List.take_of_length_le (by rw[Zq,List.length_drop];omega)]
 ·rw[if_pos (by decide),show (-1 + (A.length:Int)).toNat=A.length - 1 by omega]
  simp[ZfS]
theorem Zic {x:Pt}: ∀ {l:List Pt},(l.map fun y=>decide (y=x)).any id=decide (x∈l)
 | []=>by simp
 |y :: l=>by
  rw[List.map_cons,List.any_cons,Zic (l:=l)]
  by_cases c:y=x
  ·subst c;simp
  ·have: ¬ x=y:=fun z=>c z.symm
   simp[c,this]
theorem Zd4 {A:List Pt} {i:Nat} (h:i < A.length):(prs A).getD i .non=pr (cy A i).1 (cy A i).2:=by
 rw[List.getD_eq_getElem?_getD,List.getElem?_eq_getElem (by rw[Zq];exact h)]
 exact CC.ZaT (by rw[Zq];exact h)
theorem ZdW (h1:M[n]?=some (.lst (prs rs))) (h2:M[m]?=some (.lst (prs ls))) (hl3:3<=ls.length) (hl2:ls.length<=1000000) (hb:Nr 1000 ls) (q: ∀ o M',Kp M M'->M.length<=o->M'[o]?=some (.lst (prs (mkr rs ls)))->Q (.ref o) M'):wO (F_law_marked [.ref n,.ref m] M) Q E:=by
 have hn:=Zs h1
 have hm:=Zs h2
 have ne:ls≠[]:=fun z=>by rw[z] at hl3;simp at hl3
 simp![F_law_marked,Zcz]
 refine ZqI ?_
 simp![h2,(ZjV ne).1,(ZjV ne).2]
 refine ⟨by rw[List.length_drop,List.length_take];omega,by rw[List.length_drop,List.length_take];omega,?_⟩
 generalize hM2:M ++ [SO.lst [],SO.lst (prs (ls.drop (ls.length - 1))),SO.lst (prs (ls.take (ls.length - 1))),SO.lst (prs (ls.drop (ls.length - 1) ++ ls.take (ls.length - 1))),SO.lst (prs (ls.drop 1)),SO.lst (prs (ls.take 1)),SO.lst (prs (ls.drop 1 ++ ls.take 1))]=M2
 have K2:Kp M M2:=by rw[<- hM2];exact Kp.app
 have rf:M2[M.length]?=some (.lst (prs ((mkr rs ls).take 0))):=by rw[<- hM2,Zdj];rfl
 have ra:M2[M.length + 3]?=some (.lst (prs (ls.drop (ls.length - 1) ++ ls.take (ls.length - 1)))):=by rw[<- hM2,Zgw];rfl
 have rc:M2[M.length + 6]?=some (.lst (prs (ls.drop 1 ++ ls.take 1))):=by rw[<- hM2,Zgw];rfl
 have la:(ls.drop (ls.length - 1) ++ ls.take (ls.length - 1)).length=ls.length:=by rw[List.length_append,List.length_drop,List.length_take];omega
 have lc:(ls.drop 1 ++ ls.take 1).length=ls.length:=by rw[List.length_append,List.length_drop,List.length_take];omega
 have ca: ∀ i:Int,cy (ls.drop (ls.length - 1) ++ ls.take (ls.length - 1)) i=cy ls (i - 1):=fun i=>by
  rw[ZcZ (by omega),<- Zcy (i:=i + ((ls.length - 1:Nat):Int))]
  congr 1
  omega
 have cc': ∀ i:Int,cy (ls.drop 1 ++ ls.take 1) i=cy ls (i + 1):=fun i=>by
  rw[ZcZ (by omega)]
  rfl
 generalize ls.drop (ls.length - 1) ++ ls.take (ls.length - 1)=A at *
 generalize ls.drop 1 ++ ls.take 1=A3 at *
 clear hM2
 obtain ⟨fd,hfd⟩: ∃ fd,fd=M.length:=⟨_,rfl⟩
 obtain ⟨oa,hoa⟩: ∃ oa,oa=M.length + 3:=⟨_,rfl⟩
 obtain ⟨oc,hoc⟩: ∃ oc,oc=M.length + 6:=⟨_,rfl⟩
 rw[<- hoa,<- hoc,<- hfd]
 rw[<- hfd] at rf
 rw[<- hoa] at ra
 rw[<- hoc] at rc
 have h1':=K2.get h1
 have h2':=K2.get h2
 rw[Zoc]
 simp![Zl]
 refine Zlc (xs:=prs A) (ys:=prs ls) (zs:=prs A3) (L:=ls.length) (fun i ρ M'=>(M'[oa]?=some (.lst (prs A))/\M'[m]?=some (.lst (prs ls))/\M'[oc]?=some (.lst (prs A3)))/\M'[n]?=some (.lst (prs rs))/\Kp M M'/\M'[fd]?=some (.lst (prs ((mkr rs ls).take i)))/\ ∃ x3 x4 x5,ρ=[some (.ref n),some (.ref m),some (.ref fd),x3,x4,x5]) (by rw[Zq,la];exact Nat.le_refl _) (by rw[Zq];exact Nat.le_refl _) (by rw[Zq,lc]) ⟨⟨ra,h2',rc⟩,h1',K2,rf,_,_,_,rfl⟩ (fun i ρ M' hI=>hI.1) ?_ ?_
 ·rintro i ρ M3 hi ⟨⟨a1,a2,a3⟩,a4,K3,a5,x3,x4,x5,rfl⟩
  have b1:=Nr.cy hb ne ((i:Int) - 1)
  have b2:=Nr.cy hb ne ((i:Int) + 1)
  have ml:((mkr rs ls).take i).length<=ls.length:=by rw[List.length_take,ZbI];omega
  have nx:(mkr rs ls).take (i + 1)=(mkr rs ls).take i ++ [(T ls i,if cy ls i∈rs then 1 else 0)]:=by
   rw[List.take_succ_eq_append_getElem (by rw[ZbI];exact hi)]
   unfold mkr
   simp
  have ie:inE (pr (cy ls i).1 (cy ls i).2) (.ref n) M3=some (decide (cy ls i∈rs)):=by
   have e0:ZeR M3 (.ref n)=some (prs rs):=by simp[ZeR,a4]
   simp only[inE,e0,CQ.Zfq,Zic]
  rw[Zd4 (by omega),Zd4 hi,Zd4 (by omega),ca,cc']
  simp![ZbL,Zc4,a5]
  rw[CB.Zdz (.inl ⟨by omega,by omega⟩)]
  simp![ie,a5]
  have l5:=Zs a5
  have k1:=K3.1
  have eT:(0:Int) - X (cy ls ((i:Int) - 1)) (cy ls ((i:Int) + 1))=T ls i:=rfl
  rw[eT,nx]
  refine ⟨by omega,⟨a1,a2,a3⟩,a4,K3.set (by omega),?_⟩
  rw[List.getElem?_set_self l5]
  refine ⟨?_,_,_,_,rfl⟩
  by_cases c:cy ls i∈rs
  ·rw[decide_eq_true c,if_pos c];rfl
  ·rw[decide_eq_false c,if_neg c];rfl
 ·rintro ρ M3 ⟨-,-,K3,a5,x3,x4,x5,rfl⟩
  simp![Zl]
  rw[List.take_of_length_le (by rw[ZbI];exact Nat.le_refl _)] at a5
  exact q _ _ K3 (by omega) a5
theorem ZoC {x y:Pt}:HT.Zbw [x.1,x.2] [y.1,y.2]=decide (x.1 < y.1\/(x.1=y.1/\x.2<=y.2)):=by
 rw[HT.Zcs,HT.Zcs,HT.Zcf]
 by_cases c1:x.1=y.1
 ·rw[if_pos c1]
  by_cases c2:x.2=y.2
  ·rw[if_pos c2]
   exact (decide_eq_true (by omega)).symm
  ·rw[if_neg c2]
   exact decide_eq_decide.mpr (by omega)
 ·rw[if_neg c1]
  exact decide_eq_decide.mpr (by omega)
theorem Zjg {x y:Pt} {xs ys:List Pt} (h:HT.Zbw [x.1,x.2] [y.1,y.2]=false):ltP (x :: xs) (y :: ys)=false:=by
 rw[ZoC] at h
 have h:=of_decide_eq_false h
 have c:x≠y:=fun e=>by subst e;omega
 rw[ZfX,if_neg c,Zlw]
 exact decide_eq_false (by omega)
theorem Zq0 {x y:Pt}:wO (dLeT (pr x.1 x.2) (pr y.1 y.2) M) Q E=Q (.bl (HT.Zbw [x.1,x.2] [y.1,y.2])) M:=rfl
theorem ZoD {xs ys:List Pt} (h1:M[n]?=some (.lst (prs xs))) (h2:M[m]?=some (.lst (prs ys))):wO (bMinL [.ref n,.ref m] M) Q E=Q (if ltP ys xs=true then .ref m else .ref n) M:=by
 have:bMinL [.ref n,.ref m] M= .ok (if ltP ys xs=true then .ref m else .ref n) M:=by
  simp only[bMinL,h1,h2,Zft,if_true,Zfs]
 rw[this]
 rfl
theorem Zlz {i:Nat} (hi:i < L.length):rdg L i true=onw L.reverse (L.length - 1 - i):=by
 have d:L.drop i=L[i] :: L.drop (i + 1):=List.drop_eq_getElem_cons hi
 have e:(L.take (i + 1)).reverse ++ (L.drop (i + 1)).reverse=rdg L i true:=by
  show _=(onw L i).take 1 ++ ((onw L i).drop 1).reverse
  unfold onw
  rw[d,List.take_succ_eq_append_getElem hi]
  simp only[List.cons_append,List.take_succ_cons,List.take_zero,List.drop_succ_cons,List.drop_zero,List.reverse_append,List.reverse_cons,List.reverse_nil,List.nil_append,List.append_assoc]
 rw[<- e]
 unfold onw
 rw[List.reverse_take,List.reverse_drop]
 rw[show L.length - (i + 1)=L.length - 1 - i by omega]
noncomputable def Due (L:List Pt) (S:Nat->Bool->Prop) (v:D) (M:Sto):Prop:= ∃ i b o,v= .ref o/\i < L.length/\M[o]?=some (.lst (prs (rdg L i b)))/\ ∀ i' b',i' < L.length->S i' b'->ltP (rdg L i' b') (rdg L i b)=false
theorem Due.kp {S:Nat->Bool->Prop} {v:D} {M':Sto} (h:Due L S v M) (K:Kp M M'):Due L S v M':=by
 obtain ⟨i,b,o,h1,h2,h3,h4⟩:=h
 exact ⟨i,b,o,h1,h2,K.get h3,h4⟩
theorem Due.imp {S S':Nat->Bool->Prop} {v:D} (h:Due L S v M) (k: ∀ i b,i < L.length->S' i b->S i b):Due L S' v M:=by
 obtain ⟨i,b,o,h1,h2,h3,h4⟩:=h
 exact ⟨i,b,o,h1,h2,h3,fun i' b' z1 z2=>h4 i' b' z1 (k i' b' z1 z2)⟩
theorem ZfZ {A:List Pt} {S:Nat->Bool->Prop} {v:D} {r k i:Nat} {b:Bool} {x0:Option D} (hr:M[r]?=some (.lst (prs A))) (hA:A.length<=1000000) (hk:k < A.length) (he:onw A k=rdg L i b) (hi:i < L.length) (hD:Due L S v M)
  (hN: ∀ v M',Kp M M'->Due L (fun i' b'=>S i' b'\/(i'=i/\b'=b)) v M'->N [x0,some v,some (.ref r),some (.int k)] M'):wS (Za7 [x0,some v,some (.ref r),some (.int k)] M) N R B C E:=by
 obtain ⟨i0,b0,o,rfl,hi0,ho,hm⟩:=hD
 have hrn:=Zs hr
 have hon:=Zs ho
 have l0:0 < (rdg L i0 b0).length:=by rw[ZdX.length_eq];omega
 have e0:cy (rdg L i b) 0=cy A k:=by
  rw[<- he]
  unfold onw
  rw[ZcZ (by omega)]
  congr 1
  omega
 simp![Za7,hr,ho,Zdx,Zq0]
 refine Zqd (fun z=> ?_) (fun z=> ?_)
 ·simp![hr]
  have ek:((k:Nat):Int).toNat=k:=by omega
  rw[ek]
  refine ⟨by rw[List.length_drop,List.length_take];omega,?_⟩
  generalize hM1:M ++ [SO.lst (prs (A.drop k)),SO.lst (prs (A.take k)),SO.lst (prs (A.drop k ++ A.take k))]=M1
  have K1:Kp M M1:=by rw[<- hM1];exact Kp.app
  have r1:M1[M.length + 2]?=some (.lst (prs (rdg L i b))):=by rw[<- hM1,Zgw,<- he];rfl
  have o1:=K1.get ho
  rw[ZoD o1 r1]
  by_cases c:ltP (rdg L i b) (rdg L i0 b0)=true
  ·rw[if_pos c]
   simp![Zl]
   refine hN _ _ K1 ⟨i,b,_,rfl,hi,r1,fun i' b' z1 z2=> ?_⟩
   rcases z2 with z2 | ⟨rfl,rfl⟩
   ·cases e:ltP (rdg L i' b') (rdg L i b) with
    |false=>rfl
    |true=>rw[<- hm i' b' z1 z2,Zc6 e c]
   ·exact ZdV
  ·rw[if_neg c]
   simp![Zl]
   refine hN _ _ K1 ⟨i0,b0,_,rfl,hi0,o1,fun i' b' z1 z2=> ?_⟩
   rcases z2 with z2 | ⟨rfl,rfl⟩
   ·exact hm i' b' z1 z2
   ·exact Bool.eq_false_iff.mpr c
 ·simp![Zl]
  refine hN _ _ Kp.refl ⟨i0,b0,_,rfl,hi0,ho,fun i' b' z1 z2=> ?_⟩
  rcases z2 with z2 | ⟨rfl,rfl⟩
  ·exact hm i' b' z1 z2
  ·rw[<- e0] at z
   have l1:0 < (rdg L i' b').length:=by rw[ZdX.length_eq];omega
   generalize rdg L i' b'=a1 at *
   generalize rdg L i0 b0=a2 at *
   obtain ⟨x,xs,rfl⟩:=List.exists_cons_of_ne_nil (List.length_pos_iff.mp l1)
   obtain ⟨y,ys,rfl⟩:=List.exists_cons_of_ne_nil (List.length_pos_iff.mp l0)
   exact Zjg z
noncomputable def Sx (n t k:Nat) (i:Nat) (b:Bool):Prop:=(b=false/\(1<=t\/i < k))\/(b=true/\1<=t/\(2<=t\/n - 1 - i < k))
theorem ZdT {L:List Pt} (h:M[m]?=some (.lst (prs L))) (h3:3<=L.length) (hl:L.length<=1000000)
  (q: ∀ i b o M',Kp M M'->i < L.length->(∀ i' b',i' < L.length->ltP (rdg L i' b') (rdg L i b)=false)->M'[o]?=some (.lst (prs (rdg L i b)))->Q (.ref o) M'):wO (F_law_least [.ref m] M) Q E:=by
 have hm:=Zs h
 simp![F_law_least,Zdb,h]
 generalize hM1:M ++ [SO.lst (prs L).reverse,SO.lst [D.ref m,D.ref M.length]]=M1
 have K1:Kp M M1:=by rw[<- hM1];exact Kp.app
 have m1:=K1.get h
 have r1:M1[M.length]?=some (.lst (prs L.reverse)):=by rw[<- hM1,Zdj];unfold prs;rw[List.map_reverse];rfl
 have l1:M1[M.length + 1]?=some (.lst [D.ref m,D.ref M.length]):=by rw[<- hM1,Zgw];rfl
 refine ZdR (fun t ρ M'=>Kp M1 M'/\ ∃ v x2 x3,ρ=[some (.ref m),some v,x2,x3]/\Due L (Sx L.length t 0) v M') l1 ⟨Kp.refl,_,_,_,rfl,0,false,m,rfl,by omega,by rw[show rdg L 0 false=L by simp[rdg,onw]];exact m1,fun i' b' _ z=>by unfold Sx at z;omega⟩ (fun t ρ M' hI=>hI.1.get l1) ?_ ?_
 ·rintro t ρ M2 ht ⟨K2,v,x2,x3,rfl,hD⟩
  have m2:=K2.get m1
  have r2:=K2.get r1
  have:t=0\/t=1:=by simp at ht;omega
  rcases this with rfl | rfl
  ·simp only[List.getElem_cons_zero]
   simp![Za8,m2]
   refine ⟨by omega,?_⟩
   refine Zdw (fun k ρ M'=>Kp M1 M'/\ ∃ v x3,ρ=[some (.ref m),some v,some (.ref m),x3]/\Due L (Sx L.length 0 k) v M') ⟨K2,_,_,rfl,hD⟩ ?_ ?_
   ·rintro k ρ M3 hk ⟨K3,v,x3,rfl,hD⟩
    rw[show (0:Int) + (k:Int)=k by omega]
    simp![Zl]
    exact ZfZ (A:=L) (i:=k) (b:=false) (K3.get m1) hl (by omega) rfl (by omega) hD fun v M4 K4 hD=>⟨K3.trans K4,_,_,rfl,hD.imp fun i b _ z=>by unfold Sx at z ⊢;cases b<;>simp at z ⊢;omega⟩
   ·rintro ρ M3 ⟨K3,v,x3,rfl,hD⟩
    exact ⟨K3,_,_,_,rfl,hD.imp fun i b _ z=>by unfold Sx at z ⊢;cases b<;>simp at z ⊢;omega⟩
  ·simp only[List.getElem_cons_succ,List.getElem_cons_zero]
   simp![Za8,r2]
   refine ⟨by rw[List.length_reverse];omega,?_⟩
   refine Zdw (fun k ρ M'=>Kp M1 M'/\ ∃ v x3,ρ=[some (.ref m),some v,some (.ref M.length),x3]/\Due L (Sx L.length 1 k) v M') ⟨K2,_,_,rfl,hD⟩ ?_ ?_
   ·rintro k ρ M3 hk ⟨K3,v,x3,rfl,hD⟩
    rw[List.length_reverse] at hk
    rw[show (0:Int) + (k:Int)=k by omega]
    simp![Zl]
    refine ZfZ (A:=L.reverse) (i:=L.length - 1 - k) (b:=true) (K3.get r1) (by rw[List.length_reverse];exact hl) (by rw[List.length_reverse];exact hk) (by rw[Zlz (by omega)];congr 1;omega) (by omega) hD fun v M4 K4 hD=>⟨K3.trans K4,_,_,rfl,hD.imp fun i b hi z=> ?_⟩
    unfold Sx at z ⊢
    cases b<;>simp at z ⊢
    omega
   ·rintro ρ M3 ⟨K3,v,x3,rfl,hD⟩
    refine ⟨K3,_,_,_,rfl,hD.imp fun i b hi z=> ?_⟩
    unfold Sx at z ⊢
    rw[List.length_reverse]
    cases b<;>simp at z ⊢
    omega
 ·rintro ρ M2 ⟨K2,v,x2,x3,rfl,hD⟩
  obtain ⟨i,b,o,rfl,hi,ho,hb⟩:=hD
  simp![Zl]
  exact q i b o M2 (K1.trans K2) hi (fun i' b' hi'=>hb i' b' hi' (by unfold Sx;cases b'<;>simp)) ho
theorem ZlA:F_law_purse=CB.F_law_purse:=rfl
theorem ZlB:F_law_round=CQ.F_law_round:=rfl
theorem ZlC:F_least_round=CL.F_least_round:=rfl
theorem ZoE:F_least_row=CX.F_least_row:=rfl
theorem ZjW (h:M[n]?=some (.lst (prs rs))) (hr:Rn rs) (hb:Nr 200 rs) (hl:rs.length<=61) (hll:(lrd rs).length<=1000000)
  (q: ∀ i b o M',Kp M M'->i < (lrd rs).length->(∀ i' b',i' < (lrd rs).length->ltP (rdg (mkr rs (lrd rs)) i' b') (rdg (mkr rs (lrd rs)) i b)=false)->M.length<=o->M'[o]?=some (.lst (prs (rdg (mkr rs (lrd rs)) i b)))->Q (.ref o) M'):wO (CX.F_least_row [.ref n] M) Q E:=by
 simp![CX.F_least_row,CX.Zbp]
 refine Zib h hr hb hl hll fun i b o M' K hi hm hlo r=> ?_
 simp![Zl]
 exact q i b o M' K hi hm hlo r
theorem Zq1 {u v:Pt} (h:CB.Wg u v) (e:X u v=1):CB.seg u v=[u]:=by
 have f:=CB.ZdA h
 obtain ⟨f1,f2,f3⟩:=f
 have:X (CB.fbv u v) v=0:=by omega
 unfold CB.seg
 rw[this]
 unfold hj
 rw[dif_neg (by omega)]
 rfl
theorem Zr5:lrd [(1,0),(0,1),(-1,-1)]=[(1,0),(0,1),(-1,-1)]:=by
 have w:=CC.ZqM.rn.wgs (fun x hx=>by simp at hx;rcases hx with rfl | rfl | rfl<;>simp)
 show CB.seg (1,0) (0,1) ++ (CB.seg (0,1) (-1,-1) ++ (CB.seg (-1,-1) (1,0) ++ []))=_
 obtain ⟨w1,w2,w3,-⟩:=w
 rw[Zq1 w1 rfl,Zq1 w2 rfl,Zq1 w3 rfl]
 rfl
theorem ZlD {ns:List Int} {i:Nat} {x2 x3 x4 x5 x6:Option D} (hi0:i < 1000) (hN: ∀ x2 x3 x4 x5 x6 M',N [some (.rol (ns.map D.int)),some (.int i),x2,x3,x4,x5,x6] M'):wS (Zd3 [some (.rol (ns.map D.int)),some (.int i),x2,x3,x4,x5,x6] M) N R B C E:=by
 simp![Zd3,ZlA]
 refine CB.Zlk hi0 fun a b ha=> ?_
 have B0:Bag M.length (M ++ [.lst [.int a,.int b]]):=⟨a,b,ha,by simp⟩
 generalize M ++ [SO.lst [.int a,.int b]]=M0 at *
 generalize M.length=n at *
 simp![ZlB]
 refine CQ.Zlv (by decide) B0 fun ss m M1 s1 s2 s3 s4 s5 G=> ?_
 have hm:=Zs s5
 simp![s5,ZlC]
 have r2:(M1 ++ [SO.lst (prs ss)])[M1.length]?=some (.lst (prs ss)):=by simp
 have v2:(M1 ++ [SO.lst (prs ss)])[m]?=some (.lst (prs ss)):=by rw[Zbx hm];exact s5
 generalize M1 ++ [SO.lst (prs ss)]=M2 at *
 refine CL.ZdT r2 s1.ne (s1.wgs s2) (by omega) (fun x hx=>s2 x hx) fun M3 K3 r3=> ?_
 have v3:=K3.get v2
 simp![r3]
 refine Zqe (fun ρ M'=> ∃ ss o p,ρ=[some (.rol (ns.map D.int)),some (.int i),some (.ref o),some (.ref p),x4,x5,x6]/\Rn ss/\Nr 200 ss/\ss.length<=44/\(lrd ss).length<=1000000/\M'[o]?=some (.lst (prs ss))/\M'[p]?=some (.lst (prs (lrd ss)))) ?_ ?_
 ·refine brS (fun z=> ?_) (fun z=> ?_)
  ·simp![Zl]
   have e3:prs [(1,0),(0,1),(-1,-1)]=[pr 1 0,pr 0 1,pr (-1) (-1)]:=rfl
   exact ⟨[(1,0),(0,1),(-1,-1)],_,_,rfl,CC.ZqM.rn,fun x hx=>by simp at hx;rcases hx with rfl | rfl | rfl<;>simp,by simp,by rw[Zr5];simp,by rw[e3,Zdj];rfl,by rw[Zr5,e3,Zgw];rfl⟩
  ·simp![Zl]
   exact ⟨ss,m,_,rfl,s1,s2,s3,by omega,v3,r3⟩
 clear v3 K3 r3 r2 v2 s1 s2 s3 s4 s5 G hm B0
 rintro _ M4 ⟨ss,o,p,rfl,s1,s2,s3,sl,s5,s6⟩
 have ho:=Zs s5
 have s1l:=s1.len
 have hs:=s1.least s2
 have hlr:=hs.len
 have W:=s1.wgs s2
 have lb:Nr 1000 (lrd ss):=fun x hx=>by
  have:=CB.Zfm (B:=200) (by decide) _ W (fun y hy=>s2 y (by
   rcases List.mem_append.mp hy with hy | hy
   ·exact hy
   ·exact List.mem_of_mem_take hy)) x hx
  obtain ⟨⟨a1,a2⟩,a3,a4⟩:=this
  omega
 simp![Zl]
 refine ZdW s5 s6 hlr sl lb fun k M5 K5 k5 r5=> ?_
 have s7:=K5.get s5
 simp![Zl]
 refine ZdT r5 (by rw[ZbI];exact hlr) (by rw[ZbI];exact sl) fun i1 b1 o1 M6 K6 hi1 min1 r6=> ?_
 rw[ZbI] at hi1 min1
 have v6:=K6.get s7
 have hv6:=Zs v6
 simp![v6,ZoE]
 have r7:(M6 ++ [SO.lst (prs ss)])[M6.length]?=some (.lst (prs ss)):=by simp
 have K7:Kp M6 (M6 ++ [SO.lst (prs ss)]):=Kp.app
 have o7:=K7.get r6
 have v7:=K7.get v6
 generalize M6 ++ [SO.lst (prs ss)]=M7 at *
 generalize M6.length=c at *
 refine ZjW r7 s1 s2 (by omega) sl fun i2 b2 o2 M8 K8 hi2 min2 h2 r8=> ?_
 have be:rdg (mkr ss (lrd ss)) i2 b2=rdg (mkr ss (lrd ss)) i1 b1:=Zfr (min1 i2 b2 hi2) (min2 i1 b1 hi1)
 have lo:=Zs o7
 have o8:=K8.get o7
 have v8:=K8.get v7
 have c8:=K8.get r7
 rw[be] at r8
 have e8:eqF 12 M8 (.ref o2) (.ref o1)=some (decide (rdg (mkr ss (lrd ss)) i1 b1=rdg (mkr ss (lrd ss)) i1 b1)):=CU.Zln (k:=9) r8 o8
 have e9:eqF 12 M8 (.ref c) (.ref o)=some (decide (ss=ss)):=CU.Zln (k:=9) c8 v8
 rw[decide_eq_true rfl] at e8 e9
 have l8:=Zs r8
 generalize hL:rdg (mkr ss (lrd ss)) i1 b1=due at *
 have dl:due.length=(lrd ss).length:=by rw[<- hL,ZdX.length_eq,ZbI]
 simp![Znv r8,e8,e9]
 refine ZqG (fun ρ=> ∃ x,ρ=[x]) (fun _=> .bl true) r8 (by rw[Zq];omega) ⟨_,rfl⟩ ?_ ?_
 ·rintro j hj ρ L ⟨x,rfl⟩
  rw[CC.ZaT]
  simp![Zl]
  exact ⟨_,rfl⟩
 show wO (bAll [D.ref M8.length] (M8 ++ [SO.lst (List.map (fun x=>D.bl true) (List.range (prs due).length))])) _ E
 rw[Zn6,Zdj]
 show wG (ZaB _) _
 rw[CF.Zfk]
 have K9:Kp M8 (M8 ++ [SO.lst (List.map (fun x=>D.bl true) (List.range (prs due).length))]):=Kp.app
 have r9:=K9.get r8
 have o9:=K9.get o8
 have c9:=K9.get c8
 generalize M8 ++ [SO.lst (List.map (fun x=>D.bl true) (List.range (prs due).length))]=M9 at *
 have l9:=Zs r9
 simp![CF.Zi9,r9]
 refine ⟨by omega,?_⟩
 have lc:=Zs r7
 have c10:(List.set M9 o2 (SO.lst (prs (due ++ [(0,0)]))))[c]?=some (.lst (prs ss)):=by rw[List.getElem?_set_ne (by omega)];exact c9
 have o10:(List.set M9 o2 (SO.lst (prs (due ++ [(0,0)]))))[o1]?=some (.lst (prs due)):=by rw[List.getElem?_set_ne (by omega)];exact o9
 generalize List.set M9 o2 (SO.lst (prs (due ++ [(0,0)])))=M10 at *
 refine ZjW c10 s1 s2 (by omega) sl fun i3 b3 o3 M11 K11 hi3 min3 h3 r11=> ?_
 have be2:rdg (mkr ss (lrd ss)) i3 b3=due:=by rw[<- hL];exact Zfr (by rw[hL];exact min1 i3 b3 hi3) (min3 i1 b1 hi1)
 rw[be2] at r11
 have e11:eqF 12 M11 (.ref o3) (.ref o1)=some (decide (due=due)):=CU.Zln (k:=9) r11 (K11.get o10)
 rw[decide_eq_true rfl] at e11
 simp![e11]
 exact hN _ _ _ _ _ _
theorem law_true (ns:List Int) (h:ns.length<=63): ∃ M',Zfw [.rol (ns.map D.int)] []= .ok (.bl true) M':=by
 have w:wO (Zfw [.rol (ns.map D.int)] []) (fun d _=>d= .bl true) (fun _ _=>False):=by
  simp![Zfw,Zoz]
  refine ⟨by omega,?_⟩
  refine Zdw (fun _ ρ _=> ∃ x1 x2 x3 x4 x5 x6,ρ=[some (.rol (ns.map D.int)),x1,x2,x3,x4,x5,x6]) ⟨_,_,_,_,_,_,rfl⟩ ?_ ?_
  ·rintro i ρ M hi ⟨x1,x2,x3,x4,x5,x6,rfl⟩
   rw[show (0:Int) + (i:Int)=i by omega]
   simp![Zl]
   exact ZlD (by omega) fun _ _ _ _ _ _=>⟨_,_,_,_,_,_,rfl⟩
  ·rintro ρ M ⟨x1,x2,x3,x4,x5,x6,rfl⟩
   simp![Zl]
 obtain ⟨d,M',e,rfl⟩:=ZhN w
 exact ⟨M',e⟩
end
end K33
end
namespace K33
open PySem PySem.Spec L2 DL
noncomputable abbrev zz1 (P:Params) (s:String) (n:Nat) (v:Value):DictEntry:={ hash:=PyData.keyHash P (Str.ofString s),key:=Value.str (Str.ofString s) n,val:=v }
noncomputable abbrev zz2 (x:Array Value):Obj:={ cls:=Value.type "code",data:=Data.fields x }
noncomputable abbrev zz3 (s:String) (n:Nat):Value:=Value.str (Str.ofString s) n
noncomputable abbrev zz4 (n:Int):Value:=Value.int n 0
noncomputable def fO (n:Str) (st:Stmt) (cd:Nat) (m:Str) (t:Nat):Obj:=⟨.type "function",none,.func (PySem.W.fnOf n n (Zx st) (Zv st) (Zi st) .none .none .none (.str m t) none (.ref cd) .none),#[]⟩
noncomputable def Zct (p:Program) (i:Nat):Stmt:=p.main.body.getD i (.Pass ⟨0,0,0,0⟩)
noncomputable def Kf (p:Program) (P:Params):PySem.W.Frag:=[(3,{ cls:=Value.type "dict",data:=Data.dict #[zz1 P "__name__" 165 (zz3 "law_rayround_k33_least_rows" 383),zz1 P "__doc__" 166 (Value.none),zz1 P "__package__" 167 (Value.none),zz1 P "__loader__" 168 (Value.builtin "__main__.__loader__#opaque"),zz1 P "__spec__" 169 (Value.none),zz1 P "__annotations__" 170 (Value.ref 6),zz1 P "__builtins__" 171 (Value.ref 4),zz1 P "__file__" 173 (zz3 "/claim/cut.py" 172),zz1 P "__cached__" 174 (Value.none),zz1 P "RayError" 206 (Value.ref 24),zz1 P "NotSmooth" 222 (Value.ref 37),zz1 P "NoWedge" 238 (Value.ref 49),zz1 P "crossed" 248 (Value.ref 58),zz1 P "following" 258 (Value.ref 65),zz1 P "unspanned" 267 (Value.ref 72),zz1 P "ask_smooth" 275 (Value.ref 79),zz1 P "partner" 289 (Value.ref 86),zz1 P "first_behind" 299 (Value.ref 93),zz1 P "expanded" 309 (Value.ref 100),zz1 P "row" 317 (Value.ref 107),zz1 P "between" 330 (Value.ref 114),zz1 P "least_round" 342 (Value.ref 121),zz1 P "numbers" 350 (Value.ref 126),zz1 P "marked_row" 358 (Value.ref 131),zz1 P "first_reading" 375 (Value.ref 138),zz1 P "least_row" 382 (Value.ref 145),zz1 P "_law_purse" 394 (Value.ref 152),zz1 P "_law_take" 403 (Value.ref 159),zz1 P "_law_crossed" 411 (Value.ref 166),zz1 P "_law_short" 420 (Value.ref 173),zz1 P "_law_greatest" 426 (Value.ref 178),zz1 P "_law_put" 438 (Value.ref 185),zz1 P "_law_sheared" 444 (Value.ref 190),zz1 P "_law_smooth" 450 (Value.ref 195),zz1 P "_law_round" 456 (Value.ref 200),zz1 P "_law_marked" 468 (Value.ref 207),zz1 P "_law_least" 478 (Value.ref 214),zz1 P "law" 484 (Value.ref 219)] 38 }),
 (58,fO "crossed" (Zct p 5) 57 "rayround.pairs" 239),
 (57,zz2 #[zz3 "crossed" 241,zz3 "crossed" 242,zz3 "/claim/cut.py" 243,zz4 9,zz4 2,zz4 0,zz4 0,zz4 3,Value.ref 52,Value.bool true,zz4 181,Value.ref 53,Value.none,Value.ref 54,Value.ref 55,Value.ref 56,zz4 246,zz4 9,zz3 "/claim/cut.py" 247]),
 (65,fO "following" (Zct p 7) 64 "rayround.rounds" 249),
 (64,zz2 #[zz3 "following" 251,zz3 "following" 252,zz3 "/claim/cut.py" 253,zz4 12,zz4 2,zz4 0,zz4 0,zz4 3,Value.ref 59,Value.bool true,zz4 181,Value.ref 60,Value.none,Value.ref 61,Value.ref 62,Value.ref 63,zz4 256,zz4 12,zz3 "/claim/cut.py" 257]),
 (72,fO "unspanned" (Zct p 8) 71 "rayround.rounds" 249),
 (71,zz2 #[zz3 "unspanned" 259,zz3 "unspanned" 260,zz3 "/claim/cut.py" 261,zz4 14,zz4 1,zz4 0,zz4 0,zz4 3,Value.ref 66,Value.bool true,zz4 181,Value.ref 67,Value.none,Value.ref 68,Value.ref 69,Value.ref 70,zz4 265,zz4 14,zz3 "/claim/cut.py" 266]),
 (79,fO "ask_smooth" (Zct p 9) 78 "rayround.rounds" 249),
 (78,zz2 #[zz3 "ask_smooth" 268,zz3 "ask_smooth" 269,zz3 "/claim/cut.py" 270,zz4 19,zz4 1,zz4 0,zz4 0,zz4 3,Value.ref 73,Value.bool true,zz4 181,Value.ref 74,Value.none,Value.ref 75,Value.ref 76,Value.ref 77,zz4 273,zz4 19,zz3 "/claim/cut.py" 274]),
 (86,fO "partner" (Zct p 11) 85 "rayround.wedges" 276),
 (85,zz2 #[zz3 "partner" 278,zz3 "partner" 279,zz3 "/claim/cut.py" 280,zz4 24,zz4 1,zz4 0,zz4 0,zz4 3,Value.ref 80,Value.bool true,zz4 181,Value.ref 81,Value.none,Value.ref 82,Value.ref 83,Value.ref 84,zz4 287,zz4 24,zz3 "/claim/cut.py" 288]),
 (93,fO "first_behind" (Zct p 12) 92 "rayround.wedges" 276),
 (92,zz2 #[zz3 "first_behind" 290,zz3 "first_behind" 291,zz3 "/claim/cut.py" 292,zz4 32,zz4 2,zz4 0,zz4 0,zz4 3,Value.ref 87,Value.bool true,zz4 181,Value.ref 88,Value.none,Value.ref 89,Value.ref 90,Value.ref 91,zz4 297,zz4 32,zz3 "/claim/cut.py" 298]),
 (100,fO "expanded" (Zct p 13) 99 "rayround.wedges" 276),
 (99,zz2 #[zz3 "expanded" 300,zz3 "expanded" 301,zz3 "/claim/cut.py" 302,zz4 36,zz4 2,zz4 0,zz4 0,zz4 3,Value.ref 94,Value.bool true,zz4 181,Value.ref 95,Value.none,Value.ref 96,Value.ref 97,Value.ref 98,zz4 307,zz4 36,zz3 "/claim/cut.py" 308]),
 (107,fO "row" (Zct p 14) 106 "rayround.wedges" 276),
 (106,zz2 #[zz3 "row" 310,zz3 "row" 311,zz3 "/claim/cut.py" 312,zz4 43,zz4 2,zz4 0,zz4 0,zz4 3,Value.ref 101,Value.bool true,zz4 181,Value.ref 102,Value.none,Value.ref 103,Value.ref 104,Value.ref 105,zz4 315,zz4 43,zz3 "/claim/cut.py" 316]),
 (114,fO "between" (Zct p 15) 113 "rayround.wedges" 276),
 (113,zz2 #[zz3 "between" 318,zz3 "between" 319,zz3 "/claim/cut.py" 320,zz4 47,zz4 2,zz4 0,zz4 0,zz4 3,Value.ref 108,Value.bool true,zz4 181,Value.ref 109,Value.none,Value.ref 110,Value.ref 111,Value.ref 112,zz4 328,zz4 47,zz3 "/claim/cut.py" 329]),
 (121,fO "least_round" (Zct p 17) 120 "rayround.leastrounds" 331),
 (120,zz2 #[zz3 "least_round" 333,zz3 "least_round" 334,zz3 "/claim/cut.py" 335,zz4 56,zz4 1,zz4 0,zz4 0,zz4 3,Value.ref 115,Value.bool true,zz4 181,Value.ref 116,Value.none,Value.ref 117,Value.ref 118,Value.ref 119,zz4 340,zz4 56,zz3 "/claim/cut.py" 341]),
 (126,fO "numbers" (Zct p 19) 125 "rayround.numbers" 343),
 (125,zz2 #[zz3 "numbers" 345,zz3 "numbers" 346,zz3 "/claim/cut.py" 347,zz4 63,zz4 1,zz4 0,zz4 0,zz4 3,Value.ref 122,Value.bool true,zz4 181,Value.ref 123,Value.none,Value.none,Value.none,Value.ref 124,zz4 348,zz4 63,zz3 "/claim/cut.py" 349]),
 (131,fO "marked_row" (Zct p 21) 130 "rayround.likeness" 351),
 (130,zz2 #[zz3 "marked_row" 353,zz3 "marked_row" 354,zz3 "/claim/cut.py" 355,zz4 67,zz4 2,zz4 0,zz4 0,zz4 3,Value.ref 127,Value.bool true,zz4 181,Value.ref 128,Value.none,Value.none,Value.none,Value.ref 129,zz4 356,zz4 67,zz3 "/claim/cut.py" 357]),
 (138,fO "first_reading" (Zct p 22) 137 "rayround.likeness" 351),
 (137,zz2 #[zz3 "first_reading" 359,zz3 "first_reading" 360,zz3 "/claim/cut.py" 361,zz4 70,zz4 1,zz4 0,zz4 0,zz4 3,Value.ref 132,Value.bool true,zz4 181,Value.ref 133,Value.none,Value.ref 134,Value.ref 135,Value.ref 136,zz4 373,zz4 70,zz3 "/claim/cut.py" 374]),
 (145,fO "least_row" (Zct p 23) 144 "rayround.likeness" 351),
 (144,zz2 #[zz3 "least_row" 376,zz3 "least_row" 377,zz3 "/claim/cut.py" 378,zz4 83,zz4 1,zz4 0,zz4 0,zz4 3,Value.ref 139,Value.bool true,zz4 181,Value.ref 140,Value.none,Value.ref 141,Value.ref 142,Value.ref 143,zz4 380,zz4 83,zz3 "/claim/cut.py" 381]),
 (152,fO "_law_purse" (Zct p 25) 151 "law_rayround_k33_least_rows" 383),
 (151,zz2 #[zz3 "_law_purse" 385,zz3 "_law_purse" 386,zz3 "/claim/cut.py" 387,zz4 86,zz4 2,zz4 0,zz4 0,zz4 3,Value.ref 146,Value.bool true,zz4 181,Value.ref 147,Value.none,Value.ref 148,Value.ref 149,Value.ref 150,zz4 392,zz4 86,zz3 "/claim/cut.py" 393]),
 (159,fO "_law_take" (Zct p 26) 158 "law_rayround_k33_least_rows" 383),
 (158,zz2 #[zz3 "_law_take" 395,zz3 "_law_take" 396,zz3 "/claim/cut.py" 397,zz4 92,zz4 2,zz4 0,zz4 0,zz4 3,Value.ref 153,Value.bool true,zz4 181,Value.ref 154,Value.none,Value.ref 155,Value.ref 156,Value.ref 157,zz4 401,zz4 92,zz3 "/claim/cut.py" 402]),
 (166,fO "_law_crossed" (Zct p 27) 165 "law_rayround_k33_least_rows" 383),
 (165,zz2 #[zz3 "_law_crossed" 404,zz3 "_law_crossed" 405,zz3 "/claim/cut.py" 406,zz4 99,zz4 2,zz4 0,zz4 0,zz4 3,Value.ref 160,Value.bool true,zz4 181,Value.ref 161,Value.none,Value.ref 162,Value.ref 163,Value.ref 164,zz4 409,zz4 99,zz3 "/claim/cut.py" 410]),
 (173,fO "_law_short" (Zct p 28) 172 "law_rayround_k33_least_rows" 383),
 (172,zz2 #[zz3 "_law_short" 412,zz3 "_law_short" 413,zz3 "/claim/cut.py" 414,zz4 101,zz4 1,zz4 0,zz4 0,zz4 3,Value.ref 167,Value.bool true,zz4 181,Value.ref 168,Value.none,Value.ref 169,Value.ref 170,Value.ref 171,zz4 418,zz4 101,zz3 "/claim/cut.py" 419]),
 (178,fO "_law_greatest" (Zct p 29) 177 "law_rayround_k33_least_rows" 383),
 (177,zz2 #[zz3 "_law_greatest" 421,zz3 "_law_greatest" 422,zz3 "/claim/cut.py" 423,zz4 108,zz4 1,zz4 0,zz4 0,zz4 3,Value.ref 174,Value.bool true,zz4 181,Value.ref 175,Value.none,Value.none,Value.none,Value.ref 176,zz4 424,zz4 108,zz3 "/claim/cut.py" 425]),
 (185,fO "_law_put" (Zct p 30) 184 "law_rayround_k33_least_rows" 383),
 (184,zz2 #[zz3 "_law_put" 427,zz3 "_law_put" 428,zz3 "/claim/cut.py" 429,zz4 110,zz4 2,zz4 0,zz4 0,zz4 3,Value.ref 179,Value.bool true,zz4 181,Value.ref 180,Value.none,Value.ref 181,Value.ref 182,Value.ref 183,zz4 436,zz4 110,zz3 "/claim/cut.py" 437]),
 (190,fO "_law_sheared" (Zct p 31) 189 "law_rayround_k33_least_rows" 383),
 (189,zz2 #[zz3 "_law_sheared" 439,zz3 "_law_sheared" 440,zz3 "/claim/cut.py" 441,zz4 118,zz4 3,zz4 0,zz4 0,zz4 3,Value.ref 186,Value.bool true,zz4 181,Value.ref 187,Value.none,Value.none,Value.none,Value.ref 188,zz4 442,zz4 118,zz3 "/claim/cut.py" 443]),
 (195,fO "_law_smooth" (Zct p 32) 194 "law_rayround_k33_least_rows" 383),
 (194,zz2 #[zz3 "_law_smooth" 445,zz3 "_law_smooth" 446,zz3 "/claim/cut.py" 447,zz4 123,zz4 2,zz4 0,zz4 0,zz4 3,Value.ref 191,Value.bool true,zz4 181,Value.ref 192,Value.none,Value.none,Value.none,Value.ref 193,zz4 448,zz4 123,zz3 "/claim/cut.py" 449]),
 (200,fO "_law_round" (Zct p 33) 199 "law_rayround_k33_least_rows" 383),
 (199,zz2 #[zz3 "_law_round" 451,zz3 "_law_round" 452,zz3 "/claim/cut.py" 453,zz4 137,zz4 2,zz4 0,zz4 0,zz4 3,Value.ref 196,Value.bool true,zz4 181,Value.ref 197,Value.none,Value.none,Value.none,Value.ref 198,zz4 454,zz4 137,zz3 "/claim/cut.py" 455]),
 (207,fO "_law_marked" (Zct p 34) 206 "law_rayround_k33_least_rows" 383),
 (206,zz2 #[zz3 "_law_marked" 457,zz3 "_law_marked" 458,zz3 "/claim/cut.py" 459,zz4 153,zz4 2,zz4 0,zz4 0,zz4 3,Value.ref 201,Value.bool true,zz4 181,Value.ref 202,Value.none,Value.ref 203,Value.ref 204,Value.ref 205,zz4 466,zz4 153,zz3 "/claim/cut.py" 467]),
 (214,fO "_law_least" (Zct p 35) 213 "law_rayround_k33_least_rows" 383),
 (213,zz2 #[zz3 "_law_least" 469,zz3 "_law_least" 470,zz3 "/claim/cut.py" 471,zz4 158,zz4 1,zz4 0,zz4 0,zz4 3,Value.ref 208,Value.bool true,zz4 181,Value.ref 209,Value.none,Value.ref 210,Value.ref 211,Value.ref 212,zz4 476,zz4 158,zz3 "/claim/cut.py" 477]),
 (219,fO "law" (Zct p 36) 218 "law_rayround_k33_least_rows" 383),
 (218,zz2 #[zz3 "law" 479,zz3 "law" 480,zz3 "/claim/cut.py" 481,zz4 165,zz4 1,zz4 0,zz4 0,zz4 3,Value.ref 215,Value.bool true,zz4 181,Value.ref 216,Value.none,Value.none,Value.none,Value.ref 217,zz4 482,zz4 165,zz3 "/claim/cut.py" 483]),
 (23,{ cls:=Value.type "dict",data:=Data.dict #[zz1 P "__module__" 196 (zz3 "rayround.errors" 187),zz1 P "__firstlineno__" 200 (Value.int 2 199),zz1 P "__static_attributes__" 201 (Value.ref 22),zz1 P "__weakref__" 203 (Value.ref 25),zz1 P "__doc__" 204 (Value.none)] 3 }),
 (24,{ cls:=Value.type "type",data:=Data.cls { name:=Str.ofString "RayError",bases:=[Value.type "ValueError"],mro:=[Value.ref 24,Value.type "ValueError",Value.type "Exception",Value.type "BaseException",Value.type "object"],ns:=23,qualname:=Str.ofString "RayError",subclasses:=[Value.ref 37,Value.ref 49] },slots:= #[some (Value.ref 15),none,some (zz3 "RayError" 189),some (zz3 "RayError" 197),some (Value.builtin "ValueError.__new__"),some (Value.bool true)] }),
 (36,{ cls:=Value.type "dict",data:=Data.dict #[zz1 P "__module__" 214 (zz3 "rayround.errors" 187),zz1 P "__firstlineno__" 218 (Value.int 4 217),zz1 P "__static_attributes__" 219 (Value.ref 35),zz1 P "__doc__" 220 (Value.none)] 2 }),
 (37,{ cls:=Value.type "type",data:=Data.cls { name:=Str.ofString "NotSmooth",bases:=[Value.ref 24],mro:=[Value.ref 37,Value.ref 24,Value.type "ValueError",Value.type "Exception",Value.type "BaseException",Value.type "object"],ns:=36,qualname:=Str.ofString "NotSmooth" },slots:= #[some (Value.ref 28),none,some (zz3 "NotSmooth" 207),some (zz3 "NotSmooth" 215),some (Value.builtin "ValueError.__new__"),some (Value.bool true)] }),
 (48,{ cls:=Value.type "dict",data:=Data.dict #[zz1 P "__module__" 230 (zz3 "rayround.errors" 187),zz1 P "__firstlineno__" 234 (Value.int 6 233),zz1 P "__static_attributes__" 235 (Value.ref 47),zz1 P "__doc__" 236 (Value.none)] 2 }),
 (49,{ cls:=Value.type "type",data:=Data.cls { name:=Str.ofString "NoWedge",bases:=[Value.ref 24],mro:=[Value.ref 49,Value.ref 24,Value.type "ValueError",Value.type "Exception",Value.type "BaseException",Value.type "object"],ns:=48,qualname:=Str.ofString "NoWedge" },slots:= #[some (Value.ref 40),none,some (zz3 "NoWedge" 223),some (zz3 "NoWedge" 231),some (Value.builtin "ValueError.__new__"),some (Value.bool true)] })]
noncomputable def asK:List Addr:=[3,58,57,65,64,72,71,79,78,86,85,93,92,100,99,107,106,114,113,121,120,126,125,131,130,138,137,145,144,152,151,159,158,166,165,173,172,178,177,185,184,190,189,195,194,200,199,207,206,214,213,219,218,23,24,36,37,48,49]
theorem ZoF (p:Program) (P:Params):asK=(Kf p P).map (·.1):=rfl
noncomputable def qf (p:Program):Program:={ p with main:={ p.main with body:=[Zct p 36] } }
noncomputable def lo:List Str:=[("__name__":Str),("RayError":Str),("NotSmooth":Str),("NoWedge":Str),("crossed":Str),("following":Str),("unspanned":Str),("ask_smooth":Str),("partner":Str),("first_behind":Str),("expanded":Str),("row":Str),("between":Str),("least_round":Str),("numbers":Str),("marked_row":Str),("first_reading":Str),("least_row":Str),("_law_purse":Str),("_law_take":Str),("_law_crossed":Str),("_law_short":Str),("_law_greatest":Str),("_law_put":Str),("_law_sheared":Str),("_law_smooth":Str),("_law_round":Str),("_law_marked":Str),("_law_least":Str)]
theorem Ztp {l:PySem.W.OpenLaw} {q:Program} {loose:List Str} {XP:(Str->Option Value)->Heap->Prop} {YP:World->Heap->Prop} {d:DefRec} {K:Params->PySem.W.Frag} (hn:l.most=some 63) (hdf:d.params.defaults=[])
  (hY: ∀ (w:World) (h:Heap),YP w h->(K w.params).In h)
  (F: ∀ (w:World) (mg:Str->Option Value) (fa:Addr) (h:Heap),(K w.params).In h->h.Ns mainGlobals mg->mg d.name=some (.ref fa)->
   ∃ fd:FuncData,(∀ (s:Shared) (u:Value),BindsTo s fd ⟨[u],[]⟩ [("_law_script",u)])/\ ∀ base:Heap,(K w.params).In base->base.Ns mainGlobals mg->FnOk l.prog w (K w.params) mg base (CXE l.prog w) 108 fa fd ["_law_script"] (spD (K w.params) Zfw)):
  PySem.W.WalkO q loose XP YP l.row.toRowW d [] (fun f vs=>PySem.call f vs):=
 L2.Zki (n:=63) (k:=108) (x:="_law_script") (CX:=fun w=>CXE l.prog w) (sp:=fun w=>spD (K w.params) Zfw) hn (by decide) hdf ⟨fun _=>rfl,by decide,by decide⟩ hY F (fun _ _ a ns hl hO hS=>DL.Zmw hl hO hS (law_true ns hl)) fun _ _ _ _ _ ⟨_,_,_,_,_,_,_,_,_,_,_,_,_,q⟩=>q
end K33
open PySem PySem.W PyProof.Rows
lay_quick PySem.Challenge.pw_rayround_k33_least_rows
namespace K33
noncomputable abbrev Hk:Hook:=kHook (Kf PySem.Challenge.pw_rayround_k33_least_rows) asK (ZoF PySem.Challenge.pw_rayround_k33_least_rows)
noncomputable def Xs (s:Shared):Bool:=xlAt (qf PySem.Challenge.pw_rayround_k33_least_rows) [] s && recOk (RowW.records (OpenRow.toRowW (OpenLaw.row PySem.Challenge.rw_rayround_k33_least_rows))) s
set_option maxRecDepth 1000000 in
set_option maxHeartbeats 0 in
theorem Zpr (w:World) (os:OsState):(HD.ZoM through (HD.ZiY (stepOk 11 (some (.ref 6))) (stepT (denote treeTable) PySem.Challenge.pw_rayround_k33_least_rows w)) 1517 (HD.T0 w os) (topStub PySem.Challenge.pw_rayround_k33_least_rows)).map (fun s=>((staticsOk (importedModules PySem.Challenge.pw_rayround_k33_least_rows.main.body) (boot_heap w.params) s.abs.heap && namesBound PySem.Challenge.pw_rayround_k33_least_rows s.abs.heap && gensDone s.abs && laidKept (boot_heap w.params) s.abs.heap),
  openSeen (qf PySem.Challenge.pw_rayround_k33_least_rows) lo (importedModules PySem.Challenge.pw_rayround_k33_least_rows.main.body) (fun s=>xlAt (qf PySem.Challenge.pw_rayround_k33_least_rows) [] s && recOk [] s) true s.abs,asK.map s.abs.heap.get?))=some (true,openGood (qf PySem.Challenge.pw_rayround_k33_least_rows) lo,(Kf PySem.Challenge.pw_rayround_k33_least_rows w.params).map fun x=>some x.2):=by
 rw[HD.Zps,HD.ZkL,HD.Zm1,HD.Zm2,HD.ZkM,HD.Zm3,PySem.W.Fast.te16209333418973160645]
 kernel_rfl
end K33
set_option maxRecDepth 1000000 in
set_option maxHeartbeats 0 in
theorem PySem.Challenge.cw_rayround_k33_least_rows_holds : PySem.Challenge.rw_rayround_k33_least_rows.Holds := by
 w_on;o_law
 refine holds_open (q:=K33.qf PySem.Challenge.pw_rayround_k33_least_rows) (loose:=K33.lo) (Xt:=fun s=>xlAt (K33.qf PySem.Challenge.pw_rayround_k33_least_rows) [] s && recOk [] s) (XP:=XL (K33.qf PySem.Challenge.pw_rayround_k33_least_rows) []) (Yf:=Hook.obs K33.Hk) (Ya:=Hook.val K33.Hk) (YP:=Hook.says K33.Hk) (N:=2117) ?hl (Hook.of K33.Hk) (Hook.keeps K33.Hk) (fun s e=>xl_of s (Bool.and_eq_true_iff.mp e).1) XL.keeps (by rfl) (by rfl) (by rfl) (fun s e=>recFacts_of (Bool.and_eq_true_iff.mp e).2) (by rfl) (by first | assumption | decide +kernel) (by decide +kernel) ⟨rfl,rfl,rfl,rfl,rfl,by decide +kernel⟩ ?hw ?hc
 case hl=>exact HD.ZhM rfl (by decide) (fun s=>rfl) (by decide) K33.Zpr
 case hw=>w_witness2
 case hc=>
  refine K33.Ztp (l:=PySem.Challenge.rw_rayround_k33_least_rows) rfl rfl (fun w h Y=>PySem.W.kIn_of Y) ?F
  intro w mg fa h KX G hmg
  refine K33.ZoB (f1:=58) (od1:=none) (an1:=none) (sl1:= #[]) (oc1:= .type "function") (kV1:= .none) (dc1:= .none) (pm1:= .str "rayround.pairs" 239) (cd1:= .ref 57) (ct1:= .none) (f2:=65) (od2:=none) (an2:=none) (sl2:= #[]) (oc2:= .type "function") (kV2:= .none) (dc2:= .none) (pm2:= .str "rayround.rounds" 249) (cd2:= .ref 64) (ct2:= .none) (f3:=72) (od3:=none) (an3:=none) (sl3:= #[]) (oc3:= .type "function") (kV3:= .none) (dc3:= .none) (pm3:= .str "rayround.rounds" 249) (cd3:= .ref 71) (ct3:= .none) (f4:=79) (od4:=none) (an4:=none) (sl4:= #[]) (oc4:= .type "function") (kV4:= .none) (dc4:= .none) (pm4:= .str "rayround.rounds" 249) (cd4:= .ref 78) (ct4:= .none) (f5:=86) (od5:=none) (an5:=none) (sl5:= #[]) (oc5:= .type "function") (kV5:= .none) (dc5:= .none) (pm5:= .str "rayround.wedges" 276) (cd5:= .ref 85) (ct5:= .none) (f6:=93) (od6:=none) (an6:=none) (sl6:= #[]) (oc6:= .type "function") (kV6:= .none) (dc6:= .none) (pm6:= .str "rayround.wedges" 276) (cd6:= .ref 92) (ct6:= .none) (f7:=100) (od7:=none) (an7:=none) (sl7:= #[]) (oc7:= .type "function") (kV7:= .none) (dc7:= .none) (pm7:= .str "rayround.wedges" 276) (cd7:= .ref 99) (ct7:= .none) (f8:=107) (od8:=none) (an8:=none) (sl8:= #[]) (oc8:= .type "function") (kV8:= .none) (dc8:= .none) (pm8:= .str "rayround.wedges" 276) (cd8:= .ref 106) (ct8:= .none) (f9:=114) (od9:=none) (an9:=none) (sl9:= #[]) (oc9:= .type "function") (kV9:= .none) (dc9:= .none) (pm9:= .str "rayround.wedges" 276) (cd9:= .ref 113) (ct9:= .none) (f10:=121) (od10:=none) (an10:=none) (sl10:= #[]) (oc10:= .type "function") (kV10:= .none) (dc10:= .none) (pm10:= .str "rayround.leastrounds" 331) (cd10:= .ref 120) (ct10:= .none) (f11:=126) (od11:=none) (an11:=none) (sl11:= #[]) (oc11:= .type "function") (kV11:= .none) (dc11:= .none) (pm11:= .str "rayround.numbers" 343) (cd11:= .ref 125) (ct11:= .none) (f12:=131) (od12:=none) (an12:=none) (sl12:= #[]) (oc12:= .type "function") (kV12:= .none) (dc12:= .none) (pm12:= .str "rayround.likeness" 351) (cd12:= .ref 130) (ct12:= .none) (f13:=138) (od13:=none) (an13:=none) (sl13:= #[]) (oc13:= .type "function") (kV13:= .none) (dc13:= .none) (pm13:= .str "rayround.likeness" 351) (cd13:= .ref 137) (ct13:= .none) (f14:=145) (od14:=none) (an14:=none) (sl14:= #[]) (oc14:= .type "function") (kV14:= .none) (dc14:= .none) (pm14:= .str "rayround.likeness" 351) (cd14:= .ref 144) (ct14:= .none) (f15:=152) (od15:=none) (an15:=none) (sl15:= #[]) (oc15:= .type "function") (kV15:= .none) (dc15:= .none) (pm15:= .str "law_rayround_k33_least_rows" 383) (cd15:= .ref 151) (ct15:= .none) (f16:=159) (od16:=none) (an16:=none) (sl16:= #[]) (oc16:= .type "function") (kV16:= .none) (dc16:= .none) (pm16:= .str "law_rayround_k33_least_rows" 383) (cd16:= .ref 158) (ct16:= .none) (f17:=166) (od17:=none) (an17:=none) (sl17:= #[]) (oc17:= .type "function") (kV17:= .none) (dc17:= .none) (pm17:= .str "law_rayround_k33_least_rows" 383) (cd17:= .ref 165) (ct17:= .none) (f18:=173) (od18:=none) (an18:=none) (sl18:= #[]) (oc18:= .type "function") (kV18:= .none) (dc18:= .none) (pm18:= .str "law_rayround_k33_least_rows" 383) (cd18:= .ref 172) (ct18:= .none) (f19:=178) (od19:=none) (an19:=none) (sl19:= #[]) (oc19:= .type "function") (kV19:= .none) (dc19:= .none) (pm19:= .str "law_rayround_k33_least_rows" 383) (cd19:= .ref 177) (ct19:= .none) (f20:=185) (od20:=none) (an20:=none) (sl20:= #[]) (oc20:= .type "function") (kV20:= .none) (dc20:= .none) (pm20:= .str "law_rayround_k33_least_rows" 383) (cd20:= .ref 184) (ct20:= .none) (f21:=190) (od21:=none) (an21:=none) (sl21:= #[]) (oc21:= .type "function") (kV21:= .none) (dc21:= .none) (pm21:= .str "law_rayround_k33_least_rows" 383) (cd21:= .ref 189) (ct21:= .none) (f22:=195) (od22:=none) (an22:=none) (sl22:= #[]) (oc22:= .type "function") (kV22:= .none) (dc22:= .none) (pm22:= .str "law_rayround_k33_least_rows" 383) (cd22:= .ref 194) (ct22:= .none) (f23:=200) (od23:=none) (an23:=none) (sl23:= #[]) (oc23:= .type "function") (kV23:= .none) (dc23:= .none) (pm23:= .str "law_rayround_k33_least_rows" 383) (cd23:= .ref 199) (ct23:= .none) (f24:=207) (od24:=none) (an24:=none) (sl24:= #[]) (oc24:= .type "function") (kV24:= .none) (dc24:= .none) (pm24:= .str "law_rayround_k33_least_rows" 383) (cd24:= .ref 206) (ct24:= .none) (f25:=214) (od25:=none) (an25:=none) (sl25:= #[]) (oc25:= .type "function") (kV25:= .none) (dc25:= .none) (pm25:= .str "law_rayround_k33_least_rows" 383) (cd25:= .ref 213) (ct25:= .none) (f26:=219) (od26:=none) (an26:=none) (sl26:= #[]) (oc26:= .type "function") (kV26:= .none) (dc26:= .none) (pm26:= .str "law_rayround_k33_least_rows" 383) (cd26:= .ref 218) (ct26:= .none) KX G hmg ?a1 ?l1 ?c1 ?k1 ?a2 ?l2 ?c2 ?k2 ?a3 ?l3 ?c3 ?k3 ?a4 ?l4 ?c4 ?k4 ?a5 ?l5 ?c5 ?k5 ?a6 ?l6 ?c6 ?k6 ?a7 ?l7 ?c7 ?k7 ?a8 ?l8 ?c8 ?k8 ?a9 ?l9 ?c9 ?k9 ?a10 ?l10 ?c10 ?k10 ?a11 ?l11 ?c11 ?k11 ?a12 ?l12 ?c12 ?k12 ?a13 ?l13 ?c13 ?k13 ?a14 ?l14 ?c14 ?k14 ?a15 ?l15 ?c15 ?k15 ?a16 ?l16 ?c16 ?k16 ?a17 ?l17 ?c17 ?k17 ?a18 ?l18 ?c18 ?k18 ?a19 ?l19 ?c19 ?k19 ?a20 ?l20 ?c20 ?k20 ?a21 ?l21 ?c21 ?k21 ?a22 ?l22 ?c22 ?k22 ?a23 ?l23 ?c23 ?k23 ?a24 ?l24 ?c24 ?k24 ?a25 ?l25 ?c25 ?k25 ?a26 ?l26 ?c26 ?k26 ?z_len ?z_enumerate ?z_range ?z_zip ?z_int ?z_abs ?z_max ?z_reversed ?z_list ?z_min ?z_isinstance ?z_tuple ?z_all ?q_ex_NotSmooth ?q_ex_NoWedge
  all_goals kernel_rfl
