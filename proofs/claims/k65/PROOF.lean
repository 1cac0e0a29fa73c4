import PyProof.Rows.All
import Wide.All
import OpenK.AllK
import Wide.FinOn
import Lean
import PyProof.EqAt
import PyProof.EqKinds
import PyProof.TupleCall
import PySem.Challenge.RW_rayround_k65_ones_refused
set_option maxRecDepth 100000
set_option linter.all false
set_option Elab.async false
set_option maxHeartbeats 4000000
noncomputable section
set_option bootstrap.genMatcherCode false
set_option genSizeOf false
set_option genSizeOfSpec false
set_option compiler.extract_closed false
section
namespace DQ
open PySem PySem.Spec PyProof.Rows
noncomputable def ZbT (A:Around) (h:Heap):Prop:=A.handled=none\/ ∃ ea oe vs,A.handled=some (.ref ea)/\h.get? ea=some oe/\oe.data= .fields vs/\vs[2]?=some .none
theorem ZbT.keeps {A:Around} {h h':Heap} (q:ZbT A h) (k: ∀ b o,h.get? b=some o->h'.get? b=some o):ZbT A h':=by
 rcases q with q | ⟨ea,oe,vs,e1,e2,e3,e4⟩
 ·exact .inl q
 ·exact .inr ⟨ea,oe,vs,e1,k _ _ e2,e3,e4⟩
theorem Zd8:entryFor table "proto.unchain"=some Builtin.«proto.unchain» :=entryFor_of_fast (by kernel_rfl)
section
variable {prog:Program} {w:World} {A:Around} {E:Value->Shared->Prop} {s:Shared}
theorem ZfH {α:Type} {Q:α->Shared->Prop} {e:Addr} {oe:Obj} {vs:Array Value} (q:ZbT A s.heap) (he:s.heap.get? e=some oe) (hd:oe.data= .fields vs) (hz:2 < vs.size)
  (h: ∀ h',(∀ b o,b≠e->s.heap.get? b=some o->h'.get? b=some o)->(∃ o,h'.get? e=some o/\o.cls=oe.cls)->E (.ref e) { s with heap:=h' }):wpAny (model prog w) A (raiseNew (.ref e):Sem α) Q E s:=by
 have same:E (.ref e) s:=h s.heap (fun _ _ _ x=>x) ⟨oe,he,rfl⟩
 unfold raiseNew
 refine wpAny_bind (wpAny_handled ?_)
 rcases q with q | ⟨ea,oa,ws,q1,q2,q3,q4⟩
 ·rw[q]
  exact wpAny_bind (wpAny_pure (wpAny_throw same))
 ·rw[q1]
  dsimp only
  by_cases c:(Value.ref ea != Value.ref e)=true
  ·rw[if_pos c]
   refine wpAny_bind (wpAny_holding (wpAny_runValue (codeAny_builtin Zd8 ?_)))
   unfold Builtin.«proto.unchain»
   refine wpAny_bind (wpAny_field q2 q3 q4 ?_)
   refine wpAny_bind (wpAny_pure ?_)
   have sf:wpAny (model prog w) A (setField (.ref e) 2 (.ref ea)) (fun _ s'=>wpAny (model prog w) A (throw (Value.ref e):Sem α) Q E s') E s:=by
    refine wpAny_setField he hd hz (wpAny_throw (h _ (fun b o hb x=> ?_) ⟨_,Heap.get?_update_self _ he (Obj.isFreed_of_fields (Obj.data_mapFields hd _)),Obj.cls_mapFields _ _⟩))
    rw[Heap.get?_update_other _ _ (Ne.symm hb)]
    exact x
   exact wpAny_pure (wpAny_bind sf)
  ·rw[if_neg c]
   exact wpAny_throw same
theorem Zcw {α:Type} {Q:α->Shared->Prop} (q:ZbT A s.heap)
  (h: ∀ h' e,(∀ b o,s.heap.get? b=some o->h'.get? b=some o)->(∃ o,h'.get? e=some o/\o.cls= .type "StopIteration")->E (.ref e) { s with heap:=h' }):
  wpAny (model prog w) A (newExc (.type "StopIteration") [] >>= fun x=>(raiseNew x:Sem α)) Q E s:=by
 refine wpAny_bind ?_
 simp only[newExc,newTuple]
 refine wpAny_bind (wpAny_newObj_type ?_ (by size_fits))
 refine wpAny_bind (m:=firstArgMember _ _) (wpAny_of_eq (a:=Value.none) (by first | rfl | (simp only[firstArgMember];rfl)) ?_)
 refine wpAny_newObj_type ?_ (by size_fits)
 refine ZfH (q.keeps fun b o x=>Heap.get?_push_of_some _ (Heap.get?_push_of_some _ x)) (Heap.get?_push_size _ rfl) rfl (by rw[Array.size_append];exact Nat.lt_of_lt_of_le (by decide:2 < 6) (Nat.le_add_right _ _)) fun h' k he=> ?_
 exact h h' _ (fun b o x=>k b o (Nat.ne_of_lt (Nat.lt_of_lt_of_le (Heap.lt_size x) (by rw[Heap.size_push];exact Nat.le_succ _))) (Heap.get?_push_of_some _ (Heap.get?_push_of_some _ x))) he
theorem Zk2 {e:Addr} {Q:Bool->Shared->Prop} (he: ∃ o,s.heap.get? e=some o/\o.cls= .type "StopIteration") (h:Q true s):wpAny (model prog w) A (isInstance (.ref e) (.type "StopIteration")) Q E s:=
 let ⟨o,e1,e2⟩:=he
 wpAny_isInstance (T:="StopIteration") (b:=true) ⟨o,e1,e2⟩ isSubtype_stop h
theorem ZbT.in1 {h:Heap} (q:ZbT A h):ZbT A.in1 h:=q
noncomputable def ZhE (it:Addr) (s:Shared) (e:Value) (s':Shared):Prop:= ∃ a,e= .ref a/\(∃ o,s'.heap.get? a=some o/\o.cls= .type "StopIteration")/\ ∃ h',Heap.ExtBut it s.heap h'/\s'={ s with heap:=h' }
theorem ZhF {it:Addr} {T id:String} {b:Builtin} {Q:Option Value->Shared->Prop} (hT:s.TypeIs (.ref it) T) (sl:Slot T (Str.ofString "__next__") id) (hb:entryFor table id=some b) (ha:argsOk id ⟨[.ref it],[]⟩)
  (h:wpAny (model prog w) A.in1 (b ⟨[.ref it],[]⟩) (fun _ _=>False) (ZhE it s) s) (hQ: ∀ h',Heap.ExtBut it s.heap h'->Q none { s with heap:=h' }):wpAny (model prog w) A (pyNext (.ref it)) Q E s:=by
 unfold pyNext
 refine wpAny_bind (wpAny_attempt (wpAny_callSpecial?_slot (name:=Str.ofString "__next__") hT sl (wpAny_call_entry sl hT hb (wpAny_mono h (fun _ _ z=>z.elim) fun e s' z=> ?_) ha)))
 obtain ⟨a,rfl,ho,h',eb,rfl⟩:=z
 exact wpAny_bind (Zk2 ho (wpAny_pure (hQ h' eb)))
theorem ZhG {it:Addr} {x left step:Int} {Q:Option Value->Shared->Prop} (q:ZbT A s.heap) (hit:IsRangeIter s.heap it x left step) (hl:left<=0)
  (hQ: ∀ h',Heap.ExtBut it s.heap h'->Q none { s with heap:=h' }):wpAny (model prog w) A (pyNext (.ref it)) Q E s:=by
 refine ZhF ⟨_,hit,rfl⟩ F.slot_range_iterator_next F.entry_range_iterator_next (F.args_range_iterator_next_1 _) ?_ hQ
 refine wpAny_bind (m:=field (.ref it) 0) (wpAny_field hit rfl (x:=rawInt x) rfl ?_)
 refine wpAny_bind (m:=field (.ref it) 1) (wpAny_field hit rfl (x:=rawInt left) rfl ?_)
 refine wpAny_bind (m:=field (.ref it) 2) (wpAny_field hit rfl (x:=rawInt step) rfl ?_)
 dsimp only[rawInt]
 rw[if_pos hl]
 refine wpAny_bind (wpAny_rule (wpAny_bind ?_))
 exact Zcw q.in1 fun h' e k ho=>⟨e,rfl,ho,h',fun b o _ z=>k b o z,rfl⟩
theorem ZmE {it l:Addr} {i:Nat} {o ol:Obj} {items:Array Value} {n:Nat} (q:ZbT A s.heap) (ho:s.heap.get? it=some o) (hd:o.data= .fields #[.ref l,.int i 0]) (hol:s.heap.get? l=some ol) (hdl:ol.data= .seq items n) (hx:items[i]?=none):
  wpAny (model prog w) A.in1 (Builtin.«list_iterator.__next__» ⟨[.ref it],[]⟩) (fun _ _=>False) (ZhE it s) s:=by
 refine wpAny_bind (m:=field (.ref it) 0) (wpAny_field ho hd (x:= .ref l) rfl ?_)
 dsimp only
 rw[if_neg (show ¬ ((Value.ref l == Value.none)=true) from Bool.false_ne_true)]
 refine wpAny_bind (m:=field (.ref it) 1) (wpAny_field ho hd (x:= .int i 0) rfl ?_)
 refine wpAny_bind (m:=seqItems? (.ref l)) (wpAny_seqItems hol hdl ?_)
 simp only[Int.toNat_natCast,hx]
 refine wpAny_bind (wpAny_rule (wpAny_bind (wpAny_setField ho hd (by simp) ?_)))
 have q2:ZbT A.in1 (s.heap.update it (Obj.mapFields (·.setIfInBounds 0 Value.none))):=by
  rcases q with q | ⟨ea,oe,vs,e1,e2,e3,e4⟩
  ·exact .inl q
  ·refine .inr ⟨ea,oe,vs,e1,?_,e3,e4⟩
   rw[Heap.get?_update_other _ _ (fun z=> ?_)]
   ·exact e2
   ·rw[<- z,ho] at e2
    cases e2
    rw[hd] at e3
    cases e3
    simp at e4
 refine Zcw q2 fun h' e k ho=>⟨e,rfl,ho,h',fun b o hb z=>k b o ?_,rfl⟩
 rw[Heap.get?_update_other _ _ (Ne.symm hb)]
 exact z
theorem ZmF {it l:Addr} {i:Nat} {o ol:Obj} {items:Array Value} {n:Nat} (q:ZbT A s.heap) (ho:s.heap.get? it=some o) (hd:o.data= .fields #[.ref l,.int i 0]) (hol:s.heap.get? l=some ol) (hdl:ol.data= .seq items n) (hx:items[i]?=none):
  wpAny (model prog w) A.in1 (Builtin.«tuple_iterator.__next__» ⟨[.ref it],[]⟩) (fun _ _=>False) (ZhE it s) s:=by
 refine wpAny_bind (m:=field (.ref it) 0) (wpAny_field ho hd (x:= .ref l) rfl ?_)
 dsimp only
 rw[if_neg (show ¬ ((Value.ref l == Value.none)=true) from Bool.false_ne_true)]
 refine wpAny_bind (m:=field (.ref it) 1) (wpAny_field ho hd (x:= .int i 0) rfl ?_)
 refine wpAny_bind (m:=seqItems? (.ref l)) (wpAny_seqItems hol hdl ?_)
 simp only[Int.toNat_natCast,hx]
 refine wpAny_bind (wpAny_rule (wpAny_bind (wpAny_setField ho hd (by simp) ?_)))
 have q2:ZbT A.in1 (s.heap.update it (Obj.mapFields (·.setIfInBounds 0 Value.none))):=by
  rcases q with q | ⟨ea,oe,vs,e1,e2,e3,e4⟩
  ·exact .inl q
  ·refine .inr ⟨ea,oe,vs,e1,?_,e3,e4⟩
   rw[Heap.get?_update_other _ _ (fun z=> ?_)]
   ·exact e2
   ·rw[<- z,ho] at e2
    cases e2
    rw[hd] at e3
    cases e3
    simp at e4
 refine Zcw q2 fun h' e k ho=>⟨e,rfl,ho,h',fun b o hb z=>k b o ?_,rfl⟩
 rw[Heap.get?_update_other _ _ (Ne.symm hb)]
 exact z
theorem Zjq {it l:Addr} {i:Nat} {items} {Q:Option Value->Shared->Prop} (q:ZbT A s.heap) (hit:s.heap.IsListIter it l i) (hl:s.heap.IsList l items) (hx:items[i]?=none)
  (hQ: ∀ h',Heap.ExtBut it s.heap h'->Q none { s with heap:=h' }):wpAny (model prog w) A (pyNext (.ref it)) Q E s:=by
 obtain ⟨o,ho,hc,hd⟩:=id hit
 obtain ⟨ol,hol,_,nl,hdl⟩:=hl
 exact ZhF hit.typeIs slot_listiter_next entry_listiter_next (args_listiter_next _) (ZmE q ho hd hol hdl hx) hQ
theorem ZhH {it l:Addr} {i:Nat} {items} {Q:Option Value->Shared->Prop} (q:ZbT A s.heap) (hit:s.heap.IsTupleIter it l i) (hl:s.heap.IsTuple l items) (hx:items[i]?=none)
  (hQ: ∀ h',Heap.ExtBut it s.heap h'->Q none { s with heap:=h' }):wpAny (model prog w) A (pyNext (.ref it)) Q E s:=by
 obtain ⟨o,ho,hc,hd⟩:=id hit
 obtain ⟨ol,hol,_,nl,hdl⟩:=hl
 exact ZhF hit.typeIs F.slot_tuple_iterator_next F.entry_tuple_iterator_next (F.args_tuple_iterator_next_1 _) (ZmF q ho hd hol hdl hx) hQ
end
end DQ
end
section
namespace L2
open PySem PySem.Spec PyProof.Rows
noncomputable abbrev Key:=Sum Int Str
noncomputable def ZgX:Key->Value->Bool
 | .inl k,v=>Value.isInt k v
 | .inr x,v=>Value.isStrOf x v
noncomputable def Zs2 (w:World):Key->Int
 | .inl k=>hashInt k
 | .inr x=>hashStr w x
theorem Z0: ∀ {k:Key} {v:Value},ZgX k v=true->(∃ i t,k=Sum.inl i/\v=Value.int i t)\/(∃ x t,k=Sum.inr x/\v=Value.str x t)
 | .inl i,v,h=>by
  obtain ⟨t,e⟩:=Value.isInt_shape (k:=i) (v:=v) h
  exact .inl ⟨i,t,rfl,e⟩
 | .inr x,v,h=>by
  obtain ⟨t,e⟩:=Value.isStrOf_shape (x:=x) (v:=v) h
  exact .inr ⟨x,t,rfl,e⟩
theorem ZhI (i:Int) (t:Tok):ZgX (.inl i) (.int i t)=true:=by simp[ZgX,Value.isInt]
theorem ZhJ (x:Str) (t:Tok):ZgX (.inr x) (.str x t)=true:=by simp[ZgX,Value.isStrOf]
theorem ZmG (a b:Int):decide ((Sum.inl a:Key)=Sum.inl b)=(a == b):=by
 by_cases e:a=b
 ·subst e;simp
 ·have h: ¬ (Sum.inl a:Key)=Sum.inl b:=fun q=>e (Sum.inl.inj q)
  rw[decide_eq_false h]
  exact (beq_eq_false_iff_ne.mpr e).symm
theorem ZmH (a b:Str):decide ((Sum.inr a:Key)=Sum.inr b)=decide (a=b):=by
 by_cases e:a=b
 ·subst e;simp
 ·have h: ¬ (Sum.inr a:Key)=Sum.inr b:=fun q=>e (Sum.inr.inj q)
  rw[decide_eq_false h,decide_eq_false e]
theorem ZmI (a:Int) (b:Str):decide ((Sum.inl a:Key)=Sum.inr b)=false:=decide_eq_false (fun q=>nomatch q)
theorem ZmJ (a:Str) (b:Int):decide ((Sum.inr a:Key)=Sum.inl b)=false:=decide_eq_false (fun q=>nomatch q)
noncomputable def ZaQ (prog:Program) (w:World):PySem.KeyKind prog w Key where
 is:=ZgX
 hash:=Zs2 w
 inj:=fun v a b ha hb=>by
  rcases Z0 ha with ⟨i,t,rfl,rfl⟩ | ⟨x,t,rfl,rfl⟩
  ·rcases Z0 hb with ⟨j,u,rfl,e⟩ | ⟨y,u,rfl,e⟩
   ·injection e with e1 _;rw[e1]
   ·exact nomatch e
  ·rcases Z0 hb with ⟨j,u,rfl,e⟩ | ⟨y,u,rfl,e⟩
   ·exact nomatch e
   ·injection e with e1 _;rw[e1]
 byValue:=fun k v h=>by
  rcases Z0 h with ⟨i,t,rfl,rfl⟩ | ⟨x,t,rfl,rfl⟩<;>rfl
 pyHash:=fun hv h=>by
  rcases Z0 hv with ⟨i,t,rfl,rfl⟩ | ⟨x,t,rfl,rfl⟩
  ·exact wpAny_pyHash_int h
  ·exact wpAny_pyHash_str h
 eqBool:=fun hu hv h=>by
  rcases Z0 hu with ⟨i,t,rfl,rfl⟩ | ⟨x,t,rfl,rfl⟩
  ·rcases Z0 hv with ⟨j,u,rfl,rfl⟩ | ⟨y,u,rfl,rfl⟩
   ·rw[ZmG] at h;exact wpAny_eqBool_int h
   ·rw[ZmI] at h;exact SeqAt.EqAt.int_str i t y u _ _ _ _ h
  ·rcases Z0 hv with ⟨j,u,rfl,rfl⟩ | ⟨y,u,rfl,rfl⟩
   ·rw[ZmJ] at h;exact SeqAt.EqAt.str_int x t j u _ _ _ _ h
   ·rw[ZmH] at h;exact wpAny_eqBool_str h
 «strs» :=fun k x t v h=>by
  rcases Z0 h with ⟨i,u,rfl,e⟩ | ⟨y,u,rfl,e⟩
  ·exact nomatch e
  ·injection e with e1 _
   subst e1
   cases v<;>rfl
theorem ZfI (prog:Program) (w:World) (i:Int) (t:Tok):(ZaQ prog w).is (.inl i) (.int i t)=true:=ZhI i t
theorem ZfJ (prog:Program) (w:World) (x:Str) (t:Tok):(ZaQ prog w).is (.inr x) (.str x t)=true:=ZhJ x t
end L2
namespace L2
open PySem PySem.Spec PyProof.Rows
inductive V where
 |non | bl (b:Bool) | int (i:Int) | str (x:Str) | byt (b:Array UInt8) | flt (b:UInt64) | ref (a:Addr) | ty (n:String)
 deriving DecidableEq
noncomputable def Z4:V->Value->Prop
 | .non,u=>u=Value.none
 | .bl b,u=>u=Value.bool b
 | .int i,u=> ∃ t,u=Value.int i t
 | .str x,u=> ∃ t,u=Value.str x t
 | .byt b,u=> ∃ t,u=Value.bytes b t
 | .flt b,u=> ∃ t,u=Value.float b t
 | .ref a,u=>u=Value.ref a
 | .ty n,u=>u=Value.type n
noncomputable abbrev Z8:List V->List Value->Prop:=Paired Z4
theorem Z8.length {xs:List V} {us:List Value} (r:Z8 xs us):xs.length=us.length:=Paired.length r
theorem Z8.get: ∀ {xs:List V} {us:List Value} {i:Nat} {x:V},Z8 xs us->xs[i]?=some x-> ∃ u,us[i]?=some u/\Z4 x u
 |_,_,_,_,.nil,e=>by simp at e
 |_,_,0,_,.cons r _,e=>by simp at e;subst e;exact ⟨_,rfl,r⟩
 |_,_,i + 1,x,.cons _ t,e=>by
  obtain ⟨u,h1,h2⟩:=Z8.get (i:=i) (x:=x) t (by simpa using e)
  exact ⟨u,by simpa using h1,h2⟩
theorem Z8.set {x:V} {u:Value} (r:Z4 x u): ∀ {xs:List V} {us:List Value} (i:Nat),Z8 xs us->Z8 (xs.set i x) (us.set i u)
 |_,_,_,.nil=> .nil
 |_,_,0,.cons _ t=> .cons r t
 |_,_,i + 1,.cons q t=> .cons q (Z8.set r i t)
theorem Z8.append: ∀ {xs ys:List V} {us ws:List Value},Z8 xs us->Z8 ys ws->Z8 (xs ++ ys) (us ++ ws)
 |_,_,_,_,.nil,s=>s
 |_,_,_,_,.cons r t,s=> .cons r (Z8.append t s)
theorem Z8.take: ∀ {xs:List V} {us:List Value} (n:Nat),Z8 xs us->Z8 (xs.take n) (us.take n)
 |_,_,0,_=> .nil
 |_,_,_ + 1,.nil=> .nil
 |_,_,n + 1,.cons r t=> .cons r (Z8.take n t)
theorem Z8.drop: ∀ {xs:List V} {us:List Value} (n:Nat),Z8 xs us->Z8 (xs.drop n) (us.drop n)
 |_,_,0,r=>r
 |_,_,_ + 1,.nil=> .nil
 |_,_,n + 1,.cons _ t=>Z8.drop n t
noncomputable def ZmD:Option V->Option Value->Prop
 |some v,some u=>Z4 v u
 |none,none=>True
 |_,_=>False
noncomputable def KV {κ:Type}:List (κ × V)->List (κ × Value)->Prop:=Paired fun (p:κ × V) (q:κ × Value)=>p.1=q.1/\Z4 p.2 q.2
noncomputable def kV:Key->V
 | .inl i=> .int i
 | .inr x=> .str x
inductive HO where
 |lst (xs:List V)
 |tup (xs:List V)
 |dK (kvs:List (Key × V)) | dT (kvs:List (List Key × V))
 |set (S:Int->Bool) (n:Nat)
 |ins (C dx:Addr) (fs:List (Str × V))
 |own (x:Addr)
 |xd (fs:List (Str × V))
 |met (f x:Addr)
 |rng (lo hi:Int)
 |frz (o:Obj) (u:HO)
 |tbl (ps:Array Value)
 |ext (φ:Heap->Prop)
noncomputable abbrev Hp:=Addr->Option HO
noncomputable def upd (H:Hp) (a:Addr) (o:HO):Hp:=fun b=>if b=a then some o else H b
theorem ZC {H:Hp} {a:Addr} {o:HO}:upd H a o a=some o:=by unfold upd;rw[if_pos rfl]
theorem ZI {H:Hp} {a b:Addr} {o:HO} (h:b≠a):upd H a o b=H b:=by unfold upd;rw[if_neg h]
theorem ZpT {H:Hp} {a b:Addr} {o u:HO} (h:H a=some o) (h':H b=some u) (d:o≠u):a≠b:=by
 intro e;subst e;rw[h] at h';exact d (Option.some.inj h')
theorem Zao {H:Hp} {a b:Addr} {o:HO} (h:H a=some o) (h':H b=none):a≠b:=by
 intro e;subst e;rw[h] at h';cases h'
section
variable (P:Program) (w:World)
noncomputable def Zbg (H:Hp) (h:Heap) (a:Addr):HO->Prop
 | .lst xs=>xs.length<=sizeLine/\ ∃ (its:List Value) (n:Nat),Z8 xs its/\h.get? a=some { cls:= .type "list",data:= .seq its.toArray n }
 | .tup xs=>xs.length<=sizeLine/\ ∃ its:List Value,Z8 xs its/\IsTup h a its.toArray
 | .dK kvs=>kvs.length<=sizeLine/\(a == sysModules)=false/\ ∃ vs,KV kvs vs/\h.DictOf (ZaQ P w) a vs
 | .dT kvs=>kvs.length<=sizeLine/\(a == sysModules)=false/\ ∃ xs:List (List Key × Addr × Value),
   Paired (fun (p:List Key × V) (q:List Key × Addr × Value)=>p.1=q.1/\H q.2.1=some (.tup (p.1.map kV))/\Z4 p.2 q.2.2) kvs xs/\
   ∃ o es ep,h.get? a=some o/\o.ExactDict/\o.data= .dict es ep/\es.toList=xs.map (entryOfKey (tupleKind (ZaQ P w)))/\(xs.map (·.1)).Nodup
 | .set S n=>h.SetOf (intKind P w) a S n
 | .ins C dx fs=>H dx=some (.own a)/\fs.length<=1000/\dx≠a/\h.get? a=some (PySem.W.instObj C dx)/\
   ∃ mA,h.Ns1 dx mA/\(∀ f,ZmD (fs.lookup f) (mA f))/\PySem.Within mA (fs.map (·.1))
 | .own _=> ∃ o,h.get? a=some o
 | .xd fs=> ∃ mA,h.Ns1 a mA/\ ∀ f,ZmD (fs.lookup f) (mA f)
 | .rng lo hi=> ∃ t u v,h.get? a=some { cls:= .type "range",data:= .fields #[.int lo t,.int hi u,.int 1 v] }
 | .frz o u=>h.get? a=some o/\Zbg H h a u
 | .tbl ps=>h.get? a=some { cls:= .none,data:= .fields ps }
 | .met f x=>h.get? a=some (PySem.W.methodObj (.ref f) (.ref x))
 | .ext φ=>φ h/\(∃ o,h.get? a=some o)/\ ∀ h1 h2:Heap,φ h1->(∀ o,h1.get? a=some o->h2.get? a=some o)->φ h2
noncomputable def HOk (H:Hp) (h:Heap):Prop:= ∀ a o,H a=some o->Zbg P w H h a o
end
section
variable {P:Program} {w:World} {H H':Hp} {h h':Heap} {a:Addr} {o:HO}
theorem Zbg.lt (x:Zbg P w H h a o):a < h.objs.size:=by
 cases o with
 |lst xs=>obtain ⟨_,_,_,_,e⟩:=x;exact Heap.lt_size e
 |tup xs=>obtain ⟨_,_,_,p⟩:=x;exact p.lt
 |dK kvs=>obtain ⟨_,_,_,_,o,_,_,e,_⟩:=x;exact Heap.lt_size e
 |dT kvs=>obtain ⟨_,_,_,_,o,_,_,e,_⟩:=x;exact Heap.lt_size e
 |set S n=>obtain ⟨o,_,_,_,e,_⟩:=x;exact Heap.lt_size e
 |ins C dx fs=>obtain ⟨_,_,_,e,_⟩:=x;exact Heap.lt_size e
 |own y=>obtain ⟨_,e⟩:=x;exact Heap.lt_size e
 |xd fs=>obtain ⟨_,⟨_,_,_,e,_⟩,_⟩:=x;exact Heap.lt_size e
 |rng lo hi=>obtain ⟨_,_,_,e⟩:=x;exact Heap.lt_size e
 |frz ob u=>obtain ⟨e,_⟩:=x;exact Heap.lt_size e
 |tbl ps=>exact Heap.lt_size (show h.get? a=some _ from x)
 |met f y=>exact Heap.lt_size (show h.get? a=some _ from x)
 |ext φ=>obtain ⟨_,⟨_,e⟩,_⟩:=x;exact Heap.lt_size e
theorem Paired.mapP {α β:Type} {F G:α->β->Prop}: ∀ {l₁:List α} {l₂:List β},Paired F l₁ l₂->(∀ a b,F a b->G a b)->Paired G l₁ l₂
 |_,_,.nil,_=> .nil
 |_,_,.cons r t,f=> .cons (f _ _ r) (Paired.mapP t f)
theorem Zbg.stay (x:Zbg P w H h a o) (k: ∀ b u,(b=a\/H b=some (.own a))->h.get? b=some u->h'.get? b=some u)
  (ho: ∀ b,H b=some (.own a)->H' b=some (.own a)) (ht: ∀ b xs,H b=some (.tup xs)->H' b=some (.tup xs)):Zbg P w H' h' a o:=by
 induction o with
 |lst xs=>obtain ⟨z,its,n,r,e⟩:=x;exact ⟨z,its,n,r,k _ _ (.inl rfl) e⟩
 |tup xs=>obtain ⟨z,its,r,ob,e,c⟩:=x;exact ⟨z,its,r,ob,k _ _ (.inl rfl) e,c⟩
 |dK kvs=>obtain ⟨z,y,vs,r,ob,es,ep,e,c⟩:=x;exact ⟨z,y,vs,r,ob,es,ep,k _ _ (.inl rfl) e,c⟩
 |dT kvs=>
  obtain ⟨z,y,xs,r,ob,es,ep,e,c⟩:=x
  exact ⟨z,y,xs,Paired.mapP r fun p q z=>⟨z.1,ht _ _ z.2.1,z.2.2⟩,ob,es,ep,k _ _ (.inl rfl) e,c⟩
 |set S n=>obtain ⟨ob,es,ep,t,e,c⟩:=x;exact ⟨ob,es,ep,t,k _ _ (.inl rfl) e,c⟩
 |ins C dx fs=>
  obtain ⟨d,z,ne,e,mA,⟨od,es,ep,e2,c⟩,r⟩:=x
  exact ⟨ho _ d,z,ne,k _ _ (.inl rfl) e,mA,⟨od,es,ep,k _ _ (.inr d) e2,c⟩,r⟩
 |own y=>obtain ⟨ob,e⟩:=x;exact ⟨ob,k _ _ (.inl rfl) e⟩
 |xd fs=>obtain ⟨mA,⟨od,es,ep,e,c⟩,r⟩:=x;exact ⟨mA,⟨od,es,ep,k _ _ (.inl rfl) e,c⟩,r⟩
 |rng lo hi=>obtain ⟨t,u,v,e⟩:=x;exact ⟨t,u,v,k _ _ (.inl rfl) e⟩
 |frz ob u ih=>obtain ⟨e,q⟩:=x;exact ⟨k _ _ (.inl rfl) e,ih q⟩
 |tbl ps=>
  have e:h.get? a=some { cls:= .none,data:= .fields ps }:=x
  show h'.get? a=some { cls:= .none,data:= .fields ps }
  exact k a _ (.inl rfl) e
 |met f y=>
  have e:h.get? a=some (PySem.W.methodObj (.ref f) (.ref y)):=x
  show h'.get? a=some (PySem.W.methodObj (.ref f) (.ref y))
  exact k a _ (.inl rfl) e
 |ext φ=>obtain ⟨p,⟨o,e⟩,st⟩:=x;exact ⟨st _ _ p fun o q=>k _ _ (.inl rfl) q,⟨o,k _ _ (.inl rfl) e⟩,st⟩
theorem HOk.lt (x:HOk P w H h) (e:H a=some o):a < h.objs.size:=(x a o e).lt
theorem HOk.fresh (x:HOk P w H h) (e:h.objs.size<=a):H a=none:=by
 cases q:H a with
 |none=>rfl
 |some u=>exact absurd (Nat.lt_of_lt_of_le (x.lt q) e) (Nat.lt_irrefl _)
theorem HOk.kept (x:HOk P w H h) (k: ∀ b u,h.get? b=some u->h'.get? b=some u):HOk P w H h':=fun a o e=>
 (x a o e).stay (fun b u _ q=>k b u q) (fun _ q=>q) fun _ _ q=>q
theorem HOk.laid (x:HOk P w H h) (k: ∀ b u,h.get? b=some u->h'.get? b=some u) (hp:h.objs.size<=a) (new:Zbg P w (upd H a o) h' a o):HOk P w (upd H a o) h':=fun b u e=>by
 have hn:=x.fresh hp
 by_cases hb:b=a
 ·subst hb;rw[ZC] at e;cases e;exact new
 ·rw[ZI hb] at e
  exact (x b u e).stay (fun c v _ q=>k c v q) (fun c q=>by rw[ZI (Zao q hn)];exact q) fun c xs q=>by rw[ZI (Zao q hn)];exact q
end
noncomputable def Rd (H:Hp) (a:Addr) (u:HO):Prop:=H a=some u\/ ∃ o,H a=some (.frz o u)
theorem Rd.ok {P:Program} {w:World} {H:Hp} {h:Heap} {a:Addr} {u:HO} (r:Rd H a u) (x:HOk P w H h):Zbg P w H h a u:=by
 rcases r with r | ⟨o,r⟩
 ·exact x a u r
 ·obtain ⟨_,q⟩:=x a _ r
  exact q
noncomputable def Mut:Option HO->Prop
 |some (.lst _)=>True
 |some (.dK _)=>True
 |some (.dT _)=>True
 |some (.set _ _)=>True
 |some (.ins _ _ _)=>True
 |some (.ext _)=>True
 |_=>False
section
variable {P:Program} {w:World} {H:Hp} {h h':Heap} {x e:Addr} {o':HO}
theorem HOk.write (ok:HOk P w H h) (mu:Mut (H x)) (he:e=x\/H e=some (.own x)) (k: ∀ b u,b≠e->h.get? b=some u->h'.get? b=some u) (heo: ∃ u,h'.get? e=some u)
  (new:Zbg P w (upd H x o') h' x o'):HOk P w (upd H x o') h':=fun b u q=>by
 have nown: ∀ c y,H c=some (.own y)->c≠x:=fun c y r z=>by subst z;rw[r] at mu;exact mu
 have ntup: ∀ c xs,H c=some (.tup xs)->c≠x:=fun c xs r z=>by subst z;rw[r] at mu;exact mu
 by_cases hb:b=x
 ·subst hb;rw[ZC] at q;cases q;exact new
 ·rw[ZI hb] at q
  by_cases hbe:b=e
  ·have q':H b=some (.own x):=by
    rcases he with z | z
    ·exact absurd (hbe.trans z) hb
    ·rw[hbe];exact z
   rw[q] at q';cases q'
   obtain ⟨v,hv⟩:=heo
   exact ⟨v,by rw[hbe];exact hv⟩
  ·refine (ok b u q).stay (fun c v hc r=>k c v ?_ r) (fun c r=>by rw[ZI (nown c b r)];exact r) fun c xs r=>by rw[ZI (ntup c xs r)];exact r
   rcases hc with rfl | hc
   ·exact hbe
   ·rintro rfl
    rcases he with z | z
    ·exact nown c b hc z
    ·rw[hc] at z;cases z;exact hb rfl
end
structure Un (fs ex:List Addr) (H H':Hp) (h h':Heap):Prop where
 keep: ∀ b o,h.get? b=some o->H b=none->b ∉ fs->b ∉ ex->h'.get? b=some o
 slot: ∀ b o,h.get? b=some o->H b=none->b∈fs->b ∉ ex-> ∃ sl,h'.get? b=some { o with slots:=sl }
 free: ∀ b o,h.get? b=some o->H b=none->b ∉ ex->H' b=none
 there: ∀ b o,h.get? b=some o->b ∉ ex-> ∃ o',h'.get? b=some o'
 tups: ∀ b xs,H b=some (.tup xs)->H' b=some (.tup xs)
 frzs: ∀ b o u,H b=some (.frz o u)->H' b=some (.frz o u)
 tbls: ∀ b ps,H b=some (.tbl ps)-> ∃ more,H' b=some (.tbl (ps ++ more))
section
variable {fs fs' ex ex':List Addr} {H H1 H2:Hp} {h h1 h2 h':Heap} {a x e:Addr} {o:HO}
theorem Un.any (u:Un fs ex H H1 h h1) {b:Addr} {ob:Obj} (q:h.get? b=some ob) (n:H b=none) (hx:b ∉ ex): ∃ sl,h1.get? b=some { ob with slots:=sl }:=by
 by_cases hb:b∈fs
 ·exact u.slot b ob q n hb hx
 ·exact ⟨ob.slots,u.keep b ob q n hb hx⟩
theorem Un.kept (k: ∀ b u,h.get? b=some u->h'.get? b=some u):Un fs ex H H h h':=
 ⟨fun b ob q _ _ _=>k b ob q,fun b ob q _ _ _=>⟨ob.slots,k b ob q⟩,fun _ _ _ n _=>n,fun b ob q _=>⟨ob,k b ob q⟩,fun _ _ q=>q,fun _ _ _ q=>q,fun _ ps q=>⟨#[],by rw[q];simp⟩⟩
theorem Un.refl:Un fs ex H H h h:=Un.kept fun _ _ q=>q
theorem Un.laid (k: ∀ b u,h.get? b=some u->h'.get? b=some u) (hp:h.objs.size<=a) (hn:H a=none):Un fs ex H (upd H a o) h h' where
 keep:=fun b u q _ _ _=>k b u q
 slot:=fun b u q _ _ _=>⟨u.slots,k b u q⟩
 free:=fun b u q n _=>by rw[ZI (Nat.ne_of_lt (Nat.lt_of_lt_of_le (Heap.lt_size q) hp))];exact n
 there:=fun b u q _=>⟨u,k b u q⟩
 tups:=fun b xs q=>by rw[ZI (Zao q hn)];exact q
 frzs:=fun b u xs q=>by rw[ZI (Zao q hn)];exact q
 tbls:=fun b ps q=>⟨#[],by rw[ZI (Zao q hn),q];simp⟩
theorem Un.write (mu:Mut (H x)) (he:e=x\/H e=some (.own x)) (k: ∀ b u,b≠e->h.get? b=some u->h'.get? b=some u) (heo: ∃ u,h'.get? e=some u):Un fs ex H (upd H x o) h h':=by
 have hx: ∀ b,H b=none->b≠x:=fun b n z=>by subst z;rw[n] at mu;exact mu
 have hb: ∀ b,H b=none->b≠e:=fun b n z=>by
  subst z
  rcases he with r | r
  ·exact hx b n r
  ·rw[n] at r;cases r
 have hm: ∀ b u,H b=some u-> ¬ Mut (some u)->b≠x:=fun b u q nm z=>by subst z;rw[q] at mu;exact nm mu
 refine ⟨fun b u q n _ _=>k b u (hb b n) q,fun b u q n _ _=>⟨u.slots,k b u (hb b n) q⟩,fun b u q n _=>by rw[ZI (hx b n)];exact n,fun b u q _=> ?_,
  fun b xs q=>by rw[ZI (hm b _ q fun z=>z)];exact q,fun b u xs q=>by rw[ZI (hm b _ q fun z=>z)];exact q,fun b ps q=>⟨#[],by rw[ZI (hm b _ q fun z=>z),q];simp⟩⟩
 by_cases hbe:b=e
 ·subst hbe;exact heo
 ·exact ⟨u,k b u hbe q⟩
end
noncomputable def trk (h:Heap) (H:Hp):List Addr:=(List.range h.objs.size).filter fun a=>(H a).isSome
noncomputable def Zjo (h:Heap) (H:Hp):Heap:=PySem.W.hideAll h (trk h H)
theorem ZhK (h:Heap) (H:Hp):(Zjo h H).objs.size=h.objs.size:=PySem.W.hideAll_size _ _
theorem Zgp {h:Heap} {H:Hp} {b:Addr} {o:Obj} (e:h.get? b=some o) (n:H b=none):(Zjo h H).get? b=some o:=
 PySem.W.hideAll_get _ e fun hm=>by
  have q:(H b).isSome=true:=(List.mem_filter.mp hm).2
  rw[n] at q;simp at q
theorem ZhL {h:Heap} {H:Hp} {b:Addr} {o:Obj} (e:(Zjo h H).get? b=some o):h.get? b=some o/\H b=none:=by
 have e':h.get? b=some o:=PySem.W.of_hideAll (trk h H) e
 refine ⟨e',?_⟩
 cases q:H b with
 |none=>rfl
 |some x=>
  have hm:b∈trk h H:=List.mem_filter.mpr ⟨List.mem_range.mpr (Heap.lt_size e'),by simp[q]⟩
  have z:(Zjo h H).get? b=none:=PySem.W.hideAll_none (trk h H) hm
  rw[z] at e;cases e
end L2
namespace L2
open PySem PySem.Spec PyProof.Rows
structure Mod (K:PySem.W.Frag) (mg:Str->Option Value) (base:Heap):Prop where
 kin:K.In base
 glob:base.Ns mainGlobals mg
 blt: ∃ mb,base.Ns builtinsNs mb/\ ∀ x:Str,x≠"__name__"->mb x=bootBuiltins x
 nolimit:base.NoLimit
structure Cx where
 prog:Program
 w:World
 K:PySem.W.Frag
 mg:Str->Option Value
 base:Heap
 A:Around
 N:List Str
 s₀:Shared
 H₀:Hp
 env:Env
 outer:List Env
 stack:List Env
 ex:List Addr
 fn:Str->Bool
 calm:Bool
 pn:List (Addr × Obj)
 xe:Value->Shared->Prop
 fxs:Option (List Bool × List (Option V))
noncomputable def frs (l:List Env):List Addr:=l.filterMap (·.frame)
noncomputable abbrev Cx.fs (X:Cx):List Addr:=frs X.outer
noncomputable def Vis (sc:Scope) (x:Str):Prop:=sc.names.lookup x=some .local\/sc.names.lookup x=some .cell\/sc.names.lookup x=some .free
noncomputable def Loc (sc:Scope) (x:Str):Prop:=sc.names.lookup x=some .local\/sc.names.lookup x=some .cell
noncomputable def Zs3 (env:Env) (h:Heap) (m:Str->Option Value) (x:Str) (u:Value):Prop:=
 (env.kindOf x=some .local/\m x=some u)\/((env.kindOf x=some .cell\/env.kindOf x=some .free)/\ ∃ c,env.cells.lookup x=some c/\h.IsCell c (some u))
structure Cx.Ok (X:Cx):Prop where
 mod:Mod X.K X.mg X.base
 kind:X.env.scope.kind= .function
 glob:X.env.globals=mainGlobals
 blt:X.env.builtins=builtinsNs
 above:X.s₀.heap.objs.size<=X.env.locals
 inj: ∀ x y c,X.env.cells.lookup x=some c->X.env.cells.lookup y=some c->x=y
 has: ∀ x,(X.env.kindOf x=some .cell\/X.env.kindOf x=some .free)-> ∃ c,X.env.cells.lookup x=some c
 cab: ∀ x c,X.fn x=true->X.env.cells.lookup x=some c->X.s₀.heap.objs.size<=c
 hd:X.calm=true->X.A.handled=none
 frames:X.A.frames=some X.stack
 stk:X.stack=X.outer\/(X.stack=X.env :: X.outer/\X.env.frame=some X.env.locals)
 exf: ∀ b∈X.ex,b≠X.env.locals/\ ∀ x c,X.env.cells.lookup x=some c->c≠b
 bs: ∀ b o,X.base.get? b=some o->X.s₀.heap.get? b=some o/\X.H₀ b=none
 bsz:X.base.objs.size<=X.s₀.heap.objs.size
 noex: ∀ b o,X.base.get? b=some o->b ∉ X.ex
 exfs: ∀ b∈X.ex,b ∉ X.fs
 funs:X.s₀.heap.FunFrames X.base X.outer
 frf: ∀ b∈X.fs,X.H₀ b=none
noncomputable def Qd (A:Around) (H:Hp):Prop:=A.handled=none\/ ∃ ea oe u vs,A.handled=some (.ref ea)/\H ea=some (.frz oe u)/\oe.data= .fields vs/\vs[2]?=some .none
theorem Qd.mono {A:Around} {H H':Hp} (q:Qd A H) (k: ∀ b o u,H b=some (.frz o u)->H' b=some (.frz o u)):Qd A H':=by
 rcases q with q | ⟨ea,oe,u,vs,e1,e2,e3,e4⟩
 ·exact .inl q
 ·exact .inr ⟨ea,oe,u,vs,e1,k _ _ _ e2,e3,e4⟩
noncomputable def Cx.may (X:Cx) (i:Nat):Bool:=match X.fxs with | none=>true | some (W,_)=>W[i]? == some true
noncomputable def Cx.Fx (X:Cx) (σ:List (Option V)):Prop:= ∀ W σ0,X.fxs=some (W,σ0)-> ∀ j:Nat,W[j]?=some false->σ[j]?=σ0[j]?
theorem Cx.Fx.free {X:Cx} {σ:List (Option V)} (h:X.fxs=none):X.Fx σ:=fun W σ0 e=>by rw[h] at e;cases e
theorem Cx.Fx.set {X:Cx} {σ:List (Option V)} {i:Nat} {v:Option V} (h:X.Fx σ) (m:X.may i=true):X.Fx (σ.set i v):=fun W σ0 e j hj=>by
 have ne:i≠j:=fun z=>by
  unfold Cx.may at m
  rw[e,z] at m
  have m':(W[j]? == some true)=true:=m
  rw[hj] at m'
  cases m'
 rw[List.getElem?_set_ne ne]
 exact h W σ0 e j hj
structure Inv (X:Cx) (pins:List (Addr × Obj)) (σ:List (Option V)) (H:Hp) (s:Shared):Prop where
 ok:X.Ok
 os:s.os=X.s₀.os
 bare:AllBare s.gens
 base:Un X.fs X.ex X.H₀ H X.s₀.heap s.heap
 loc: ∃ m,s.heap.Ns X.env.locals m/\ ∀ (i:Nat) (x:Str) (v:V),X.N[i]?=some x->σ[i]?=some (some v)->Vis X.env.scope x-> ∃ u,Z4 v u/\Zs3 X.env s.heap m x u
 cell: ∀ x c,X.env.cells.lookup x=some c-> ∃ v,s.heap.IsCell c v
 free:H X.env.locals=none
 freeC: ∀ x c,X.env.cells.lookup x=some c->H c=none
 pin: ∀ p∈X.pn ++ pins,s.heap.get? p.1=some p.2/\H p.1=none/\p.1≠X.env.locals/\p.1 ∉ X.fs/\ ∀ v,p.2.data≠ .cell v
 hok:HOk X.prog X.w H s.heap
 len:σ.length=X.N.length
 qd:Qd X.A H
 fx:X.Fx σ
section
variable {X:Cx} {pins:List (Addr × Obj)} {σ:List (Option V)} {H H':Hp} {s:Shared} {h':Heap}
theorem Cx.Ok.nofr (ok:X.Ok) {b:Addr} {o:Obj} (e:X.base.get? b=some o):b ∉ X.fs:=fun hb=>by
 have:=(ok.funs.mem hb).1
 rw[e] at this;cases this
theorem Inv.bs (I:Inv X pins σ H s): ∀ b o,X.base.get? b=some o->s.heap.get? b=some o/\H b=none:=fun b o e=>
 ⟨I.base.keep b o (I.ok.bs b o e).1 (I.ok.bs b o e).2 (I.ok.nofr e) (I.ok.noex b o e),I.base.free b o (I.ok.bs b o e).1 (I.ok.bs b o e).2 (I.ok.noex b o e)⟩
theorem Inv.qh (I:Inv X pins σ H s):DQ.ZbT X.A s.heap:=by
 rcases I.qd with q | ⟨ea,oe,u,vs,e1,e2,e3,e4⟩
 ·exact .inl q
 ·exact .inr ⟨ea,oe,vs,e1,(I.hok _ _ e2).1,e3,e4⟩
theorem Inv.bk (I:Inv X pins σ H s): ∀ b o,X.base.get? b=some o->s.heap.get? b=some o:=fun b o e=>(I.bs b o e).1
theorem Inv.mod (I:Inv X pins σ H s):Mod X.K X.mg X.base:=I.ok.mod
theorem Inv.kIn (I:Inv X pins σ H s):X.K.In s.heap:=I.ok.mod.kin.keeps I.bk
theorem Inv.fr (I:Inv X pins σ H s): ∃ m,Fr X.base X.env.locals s.heap m:=
 let ⟨m,hn,_⟩:=I.loc
 ⟨m,hn,I.bk,Nat.le_trans I.ok.bsz I.ok.above⟩
theorem Inv.lt (I:Inv X pins σ H s):X.env.locals < s.heap.objs.size:=let ⟨_,hn,_⟩:=I.loc;hn.lt
theorem Inv.sz (I:Inv X pins σ H s):X.s₀.heap.objs.size<=s.heap.objs.size:=Nat.le_trans I.ok.above (Nat.le_of_lt I.lt)
theorem Inv.nofs (I:Inv X pins σ H s) {a:Addr} (h:s.heap.objs.size<=a):a ∉ X.fs:=fun hb=>by
 obtain ⟨_,o,ho,_⟩:=I.ok.funs.mem hb
 exact absurd (Nat.lt_of_lt_of_le (Heap.lt_size ho) (Nat.le_trans I.sz h)) (Nat.lt_irrefl _)
theorem Inv.cne (I:Inv X pins σ H s): ∀ x c,X.env.cells.lookup x=some c->c≠X.env.locals:=fun x c e z=>by
 obtain ⟨v,o,ho,hd⟩:=I.cell x c e
 obtain ⟨m,⟨o',es,ep,ho',hd',_⟩,_⟩:=I.loc
 rw[z,ho'] at ho;cases ho;rw[hd'] at hd;cases hd
theorem Inv.funs (I:Inv X pins σ H s):s.heap.FunFrames X.base X.outer:=by
 have all: ∀ (l:List Env),(∀ b∈frs l,b∈X.fs)->X.s₀.heap.FunFrames X.base l->s.heap.FunFrames X.base l:=by
  intro l
  induction l with
  |nil=>intro _ _;trivial
  |cons env r ih=>
   intro hs hl
   obtain ⟨hk,⟨L,o,hf,hn,ho,hd⟩,hr⟩:=hl
   have hL:L∈X.fs:=hs L (by unfold frs;rw[List.filterMap_cons,hf];exact List.mem_cons_self)
   obtain ⟨sl,e⟩:=I.base.slot L o ho (I.ok.frf L hL) hL fun z=>I.ok.exfs L z hL
   exact ⟨hk,⟨L,_,hf,hn,e,hd⟩,ih (fun b hb=>hs b (by unfold frs;rw[List.filterMap_cons,hf];exact List.mem_cons_of_mem _ hb)) hr⟩
 exact all X.outer (fun _ hb=>hb) I.ok.funs
theorem Inv.stack (I:Inv X pins σ H s):s.heap.FunFrames X.base X.stack:=by
 rcases I.ok.stk with e | ⟨e,hf⟩
 ·rw[e];exact I.funs
 ·rw[e]
  obtain ⟨m,hn,_⟩:=I.loc
  refine .cons (by rw[I.ok.kind];decide) hf hn ?_ I.funs
  exact Heap.get?_none_of_le (Nat.le_trans I.ok.bsz I.ok.above)
theorem Inv.stkSub (I:Inv X pins σ H s): ∀ b∈frs X.stack,b∈X.env.locals :: X.fs:=fun b hb=>by
 rcases I.ok.stk with e | ⟨e,hf⟩
 ·rw[e] at hb;exact List.mem_cons_of_mem _ hb
 ·rw[e] at hb
  unfold frs at hb
  rw[List.filterMap_cons,hf] at hb
  exact hb
theorem Inv.stkFree (I:Inv X pins σ H s): ∀ b∈frs X.stack,H b=none:=fun b hb=>by
 rcases List.mem_cons.mp (I.stkSub b hb) with e | hb
 ·rw[e];exact I.free
 ·obtain ⟨_,o,ho,_⟩:=I.ok.funs.mem hb
  exact I.base.free b o ho (I.ok.frf b hb) fun z=>I.ok.exfs b z hb
theorem Inv.step {g':Array GenState} {t':Nat} {d':Drawn} {ch:List Addr} (I:Inv X pins σ H s)
  (hch: ∀ b∈ch,(b∈X.ex\/X.s₀.heap.objs.size<=b)/\b≠X.env.locals/\(∀ x c,X.env.cells.lookup x=some c->c≠b)/\ ∀ p∈X.pn ++ pins,p.1≠b)
  (keep: ∀ b o,b≠X.env.locals->b ∉ X.fs->b ∉ ch->s.heap.get? b=some o->H b=none->h'.get? b=some o)
  (slot: ∀ b o,b≠X.env.locals->b∈X.fs->b ∉ ch->s.heap.get? b=some o->H b=none-> ∃ sl,h'.get? b=some { o with slots:=sl }) (free: ∀ b o,b ∉ ch->s.heap.get? b=some o->H b=none->H' b=none)
  (there: ∀ b o,b ∉ ch->s.heap.get? b=some o-> ∃ o',h'.get? b=some o')
  (tups: ∀ b xs,H b=some (.tup xs)->H' b=some (.tup xs)) (frzs: ∀ b o u,H b=some (.frz o u)->H' b=some (.frz o u)) (tbls: ∀ b ps,H b=some (.tbl ps)-> ∃ more,H' b=some (.tbl (ps ++ more)))
  (ns: ∀ m,s.heap.Ns X.env.locals m->h'.Ns X.env.locals m) (hok:HOk X.prog X.w H' h') (hg:AllBare g'):
  Inv X pins σ H' { s with heap:=h',gens:=g',drawn:=d',toks:=t' }:=by
 have neL: ∀ b o,X.s₀.heap.get? b=some o->b≠X.env.locals:=fun b o e=>Nat.ne_of_lt (Nat.lt_of_lt_of_le (Heap.lt_size e) I.ok.above)
 have neC: ∀ b o,X.s₀.heap.get? b=some o->b ∉ X.ex->b ∉ ch:=fun b o e hx hb=>by
  rcases (hch b hb).1 with z | z
  ·exact hx z
  ·exact absurd (Nat.lt_of_lt_of_le (Heap.lt_size e) z) (Nat.lt_irrefl _)
 have cellK: ∀ x c,X.env.cells.lookup x=some c-> ∀ v,s.heap.IsCell c v->h'.IsCell c v:=fun x c e v ⟨o,ho,hd⟩=>by
  have nch:c ∉ ch:=fun z=>(hch c z).2.2.1 x c e rfl
  by_cases hc:c∈X.fs
  ·obtain ⟨sl,q⟩:=slot c o (I.cne x c e) hc nch ho (I.freeC x c e)
   exact ⟨_,q,hd⟩
  ·exact ⟨o,keep c o (I.cne x c e) hc nch ho (I.freeC x c e),hd⟩
 refine ⟨I.ok,I.os,hg,⟨fun b o e n hb hx=> ?_,fun b o e n hb hx=> ?_,fun b o e n hx=> ?_,fun b o e hx=> ?_,fun b xs e=>tups b xs (I.base.tups b xs e),fun b o xs e=>frzs b o xs (I.base.frzs b o xs e),fun b ps e=> ?_⟩,?_,fun x c e=> ?_,?_,fun x c e=> ?_,fun p hp=> ?_,hok,I.len,I.qd.mono frzs,I.fx⟩
 ·exact keep b o (neL b o e) hb (neC b o e hx) (I.base.keep b o e n hb hx) (I.base.free b o e n hx)
 ·obtain ⟨sl,e1⟩:=I.base.slot b o e n hb hx
  obtain ⟨sl',e2⟩:=slot b _ (neL b o e) hb (neC b o e hx) e1 (I.base.free b o e n hx)
  exact ⟨sl',e2⟩
 ·obtain ⟨o',e1⟩:=I.base.there b o e hx
  exact free b o' (neC b o e hx) e1 (I.base.free b o e n hx)
 ·obtain ⟨o',e1⟩:=I.base.there b o e hx
  exact there b o' (neC b o e hx) e1
 ·obtain ⟨m1,e1⟩:=I.base.tbls b ps e
  obtain ⟨m2,e2⟩:=tbls b _ e1
  exact ⟨m1 ++ m2,by rw[e2,Array.append_assoc]⟩
 ·obtain ⟨m,hn,hl⟩:=I.loc
  refine ⟨m,ns m hn,fun i x v e1 e2 e3=> ?_⟩
  obtain ⟨u,r,l⟩:=hl i x v e1 e2 e3
  refine ⟨u,r,?_⟩
  rcases l with l | ⟨k,c,e,z⟩
  ·exact .inl l
  ·exact .inr ⟨k,c,e,cellK x c e _ z⟩
 ·obtain ⟨v,z⟩:=I.cell x c e
  exact ⟨v,cellK x c e v z⟩
 ·obtain ⟨m,⟨o,_,_,ho,_⟩,_⟩:=I.loc
  exact free _ o (fun z=>(hch _ z).2.1 rfl) ho I.free
 ·obtain ⟨v,o,ho,hd⟩:=I.cell x c e
  exact free c o (fun z=>(hch c z).2.2.1 x c e rfl) ho (I.freeC x c e)
 ·obtain ⟨e,n,ne,nf,d⟩:=I.pin p hp
  have nch:p.1 ∉ ch:=fun z=>(hch p.1 z).2.2.2 p hp rfl
  exact ⟨keep p.1 p.2 ne nf nch e n,free p.1 p.2 nch e n,ne,nf,d⟩
theorem Inv.un {t':Nat} (I:Inv X pins σ H s) (u:Un X.fs [] H H' s.heap h') (hok:HOk X.prog X.w H' h'):Inv X pins σ H' { s with heap:=h',toks:=t' }:=by
 obtain ⟨m,⟨o,es,ep,ho,r⟩,_⟩:=id I.loc
 obtain ⟨sl,hL⟩:=u.any ho I.free (by simp)
 exact I.step (g':=s.gens) (d':=s.drawn) (ch:=[]) (fun _ z=>nomatch z) (fun b o _ hb _ e n=>u.keep b o e n hb (by simp)) (fun b o _ hb _ e n=>u.slot b o e n hb (by simp)) (fun b o _ e n=>u.free b o e n (by simp)) (fun b o _ e=>u.there b o e (by simp)) u.tups u.frzs u.tbls (fun m' hm=>by
  obtain ⟨o',es',ep',ho',r'⟩:=hm
  rw[ho] at ho';cases ho'
  exact ⟨_,es',ep',hL,r'⟩) hok I.bare
theorem Inv.call {g':Array GenState} {t':Nat} {d':Drawn} {ch:List Addr} (I:Inv X pins σ H s) (u:Un (frs X.stack) ch H H' s.heap h') (hok:HOk X.prog X.w H' h') (hg:AllBare g')
  (hch: ∀ b∈ch,(b∈X.ex\/X.s₀.heap.objs.size<=b)/\b≠X.env.locals/\(∀ x c,X.env.cells.lookup x=some c->c≠b)/\ ∀ p∈X.pn ++ pins,p.1≠b):
  Inv X pins σ H' { s with heap:=h',gens:=g',drawn:=d',toks:=t' }:=by
 obtain ⟨m,⟨o,es,ep,ho,r⟩,_⟩:=id I.loc
 obtain ⟨sl,hL⟩:=u.any ho I.free fun z=>(hch _ z).2.1 rfl
 exact I.step (ch:=ch) hch (fun b o hL hb hc e n=>u.keep b o e n (fun z=>(List.mem_cons.mp (I.stkSub b z)).elim hL hb) hc) (fun b o _ _ hc e n=>u.any e n hc) (fun b o hc e n=>u.free b o e n hc) (fun b o hc e=>u.there b o e hc) u.tups u.frzs u.tbls (fun m' hm=>by
  obtain ⟨o',es',ep',ho',r'⟩:=hm
  rw[ho] at ho';cases ho'
  exact ⟨_,es',ep',hL,r'⟩) hok hg
theorem Inv.turned {t':Nat} {it:Addr} (I:Inv X pins σ H s) (k: ∀ b o,b≠it->s.heap.get? b=some o->h'.get? b=some o) (hn:H it=none) (hL:it≠X.env.locals)
  (h1:it∈X.ex\/X.s₀.heap.objs.size<=it) (h2: ∀ x c,X.env.cells.lookup x=some c->c≠it) (h3: ∀ p∈X.pn ++ pins,p.1≠it):Inv X pins σ H { s with heap:=h',toks:=t' }:=by
 have nit: ∀ b u,H b=some u->b≠it:=fun b u e z=>by rw[z,hn] at e;cases e
 refine I.step (g':=s.gens) (d':=s.drawn) (ch:=[it]) (fun b hb=> ?_) (fun b o _ _ hc e _=>k b o (fun z=>hc (by simp[z])) e) (fun b o _ _ hc e _=>⟨o.slots,k b o (fun z=>hc (by simp[z])) e⟩) (fun _ _ _ _ n=>n)
  (fun b o hc e=>⟨o,k b o (fun z=>hc (by simp[z])) e⟩) (fun _ _ e=>e) (fun _ _ _ e=>e) (fun b ps e=>⟨#[],by rw[e];simp⟩) (fun m hm=> ?_) (fun b u e=> ?_) I.bare
 ·have e:b=it:=by simpa using hb
  subst e
  exact ⟨h1,hL,h2,h3⟩
 ·obtain ⟨o,es,ep,ho,r⟩:=hm
  exact ⟨o,es,ep,k _ o (Ne.symm hL) ho,r⟩
 ·refine (I.hok b u e).stay (fun c v hc q=>k c v ?_ q) (fun _ q=>q) fun _ _ q=>q
  rcases hc with z | z
  ·rw[z];exact nit b u e
  ·exact nit c _ z
theorem Inv.tok (I:Inv X pins σ H s) (t:Nat):Inv X pins σ H { s with toks:=t }:=I.un (h':=s.heap) (t':=t) Un.refl I.hok
theorem Inv.kept {t':Nat} (I:Inv X pins σ H s) (k: ∀ b u,s.heap.get? b=some u->h'.get? b=some u):Inv X pins σ H { s with heap:=h',toks:=t' }:=I.un (Un.kept k) (I.hok.kept k)
theorem Inv.laid {a:Addr} {o:HO} {t':Nat} (I:Inv X pins σ H s) (k: ∀ b u,s.heap.get? b=some u->h'.get? b=some u) (hp:s.heap.objs.size<=a) (new:Zbg X.prog X.w (upd H a o) h' a o):
  Inv X pins σ (upd H a o) { s with heap:=h',toks:=t' }:=I.un (Un.laid k hp (I.hok.fresh hp)) (I.hok.laid k hp new)
theorem Inv.write {x e:Addr} {o:HO} {t':Nat} (I:Inv X pins σ H s) (mu:Mut (H x)) (he:e=x\/H e=some (.own x)) (k: ∀ b u,b≠e->s.heap.get? b=some u->h'.get? b=some u) (heo: ∃ u,h'.get? e=some u)
  (new:Zbg X.prog X.w (upd H x o) h' x o):Inv X pins σ (upd H x o) { s with heap:=h',toks:=t' }:=I.un (Un.write mu he k heo) (I.hok.write mu he k heo new)
theorem Inv.pins_of {pins':List (Addr × Obj)} (I:Inv X pins σ H s) (h: ∀ p∈pins',s.heap.get? p.1=some p.2/\H p.1=none/\p.1≠X.env.locals/\p.1 ∉ X.fs/\ ∀ v,p.2.data≠ .cell v):Inv X pins' σ H s:=
 ⟨I.ok,I.os,I.bare,I.base,I.loc,I.cell,I.free,I.freeC,fun p hp=>(List.mem_append.mp hp).elim (fun z=>I.pin p (List.mem_append_left _ z)) (h p),I.hok,I.len,I.qd,I.fx⟩
theorem Zgq {N:List Str} (hN:N.Nodup) {i j:Nat} {x:Str} (a:N[i]?=some x) (b:N[j]?=some x):i=j:=by
 obtain ⟨h1,e1⟩:=List.getElem?_eq_some_iff.mp a
 obtain ⟨h2,e2⟩:=List.getElem?_eq_some_iff.mp b
 exact (List.getElem_inj hN).mp (e1.trans e2.symm)
theorem ZeP {M:Model} {A:Around} {E:Value->Shared->Prop} {i:Nat} {x:Str} {v:V} {u:Value} {Q:Unit->Shared->Prop} (I:Inv X pins σ H s) (hN:X.N.Nodup) (hi:X.N[i]?=some x) (hx:Loc X.env.scope x) (hm:X.may i=true) (r:Z4 v u)
  (h: ∀ s',Inv X pins (σ.set i (some v)) H s'->(∃ a,Heap.SameBut a s.heap s'.heap/\(a=X.env.locals\/X.env.cells.lookup x=some a))->Q () s') (hf:X.fn x=true\/X.env.scope.names.lookup x=some .local:=by first | exact .inl rfl | exact .inr rfl | assumption):wpAny M A (storeName X.env x u) Q E s:=by
 obtain ⟨m,hn,hl⟩:=id I.loc
 have hcls:(X.env.scope.kind == .class || (X.env.scope.kind == .module && X.env.locals != X.env.globals))=false:=by rw[I.ok.kind];rfl
 have hiσ:i < σ.length:=by rw[I.len];exact (List.getElem?_eq_some_iff.mp hi).1
 have cne:=I.cne
 have tracked: ∀ {a:Addr} {h':Heap},(∃ o,s.heap.get? a=some o/\H a=none)->Heap.SameBut a s.heap h'->HOk X.prog X.w H h':=fun {a h'} ha hs b ob e=>by
  obtain ⟨_,_,hfree⟩:=ha
  refine (I.hok b ob e).stay (fun c w' hc q=>(hs.2 c ?_).trans q) (fun _ q=>q) fun _ _ q=>q
  rintro rfl
  rcases hc with rfl | hc
  ·rw[hfree] at e;cases e
  ·rw[hfree] at hc;cases hc
 rcases hx with hk | hk
 ·refine wpAny_storeName_local hk hn (fun h' hn' hs=> ?_) hcls
  obtain ⟨oL,_,_,hoL,_⟩:=id hn
  refine h _ ⟨I.ok,I.os,I.bare,⟨fun b o e n hb hx=> ?_,fun b o e n hb hx=> ?_,I.base.free,fun b o e hx=> ?_,I.base.tups,I.base.frzs,I.base.tbls⟩,⟨_,hn',fun j y v' e1 e2 e3=> ?_⟩,fun y c e=> ?_,I.free,I.freeC,fun p hp=> ?_,tracked ⟨oL,hoL,I.free⟩ hs,by simpa using I.len,I.qd,I.fx.set hm⟩ ⟨_,hs,.inl rfl⟩
  ·exact (hs.2 b (Nat.ne_of_lt (Nat.lt_of_lt_of_le (Heap.lt_size e) I.ok.above))).trans (I.base.keep b o e n hb hx)
  ·obtain ⟨sl,e1⟩:=I.base.slot b o e n hb hx
   exact ⟨sl,(hs.2 b (Nat.ne_of_lt (Nat.lt_of_lt_of_le (Heap.lt_size e) I.ok.above))).trans e1⟩
  ·obtain ⟨o',e1⟩:=I.base.there b o e hx
   exact ⟨o',(hs.2 b (Nat.ne_of_lt (Nat.lt_of_lt_of_le (Heap.lt_size e) I.ok.above))).trans e1⟩
  ·by_cases hj:j=i
   ·subst hj
    rw[hi] at e1;cases e1
    rw[List.getElem?_set_self hiσ] at e2
    cases e2
    exact ⟨u,r,.inl ⟨hk,by simp⟩⟩
   ·rw[List.getElem?_set_ne (Ne.symm hj)] at e2
    obtain ⟨u',r',q⟩:=hl j y v' e1 e2 e3
    refine ⟨u',r',?_⟩
    rcases q with ⟨k,e⟩ | ⟨k,c,e,z⟩
    ·refine .inl ⟨k,?_⟩
     have:y≠x:=fun e=>hj (Zgq hN e1 (e ▸ hi))
     simp[this,e]
    ·exact .inr ⟨k,c,e,z.sameBut hs (cne y c e)⟩
  ·obtain ⟨w',z⟩:=I.cell y c e
   exact ⟨w',z.sameBut hs (cne y c e)⟩
  ·obtain ⟨e,n,ne,nf,d⟩:=I.pin p hp
   exact ⟨(hs.2 p.1 ne).trans e,n,ne,nf,d⟩
 ·have hfn:X.fn x=true:=by
   rcases hf with z | z
   ·exact z
   ·rw[z] at hk;cases hk
  obtain ⟨c,hc⟩:=I.ok.has x (.inl hk)
  obtain ⟨w',z⟩:=I.cell x c hc
  refine wpAny_storeName_cell I.ok.kind hk hc z (fun h' hc' hs=> ?_)
  obtain ⟨oc,hoc,hocd⟩:=id z
  refine h { s with heap:=h' } ⟨I.ok,I.os,I.bare,⟨fun b o e n hb hx=> ?_,fun b o e n hb hx=> ?_,I.base.free,fun b o e hx=> ?_,I.base.tups,I.base.frzs,I.base.tbls⟩,⟨m,hn.sameBut hs (Ne.symm (cne x c hc)),fun j y v' e1 e2 e3=> ?_⟩,fun y c' e=> ?_,I.free,I.freeC,fun p hp=> ?_,tracked ⟨oc,hoc,I.freeC x c hc⟩ hs,by simpa using I.len,I.qd,I.fx.set hm⟩ ⟨c,hs,.inr hc⟩
  ·exact (hs.2 b (Nat.ne_of_lt (Nat.lt_of_lt_of_le (Heap.lt_size e) (I.ok.cab x c hfn hc)))).trans (I.base.keep b o e n hb hx)
  ·obtain ⟨sl,e1⟩:=I.base.slot b o e n hb hx
   exact ⟨sl,(hs.2 b (Nat.ne_of_lt (Nat.lt_of_lt_of_le (Heap.lt_size e) (I.ok.cab x c hfn hc)))).trans e1⟩
  ·obtain ⟨o',e1⟩:=I.base.there b o e hx
   exact ⟨o',(hs.2 b (Nat.ne_of_lt (Nat.lt_of_lt_of_le (Heap.lt_size e) (I.ok.cab x c hfn hc)))).trans e1⟩
  ·by_cases hj:j=i
   ·subst hj
    rw[hi] at e1;cases e1
    rw[List.getElem?_set_self hiσ] at e2
    cases e2
    exact ⟨u,r,.inr ⟨.inl hk,c,hc,hc'⟩⟩
   ·rw[List.getElem?_set_ne (Ne.symm hj)] at e2
    obtain ⟨u',r',q⟩:=hl j y v' e1 e2 e3
    refine ⟨u',r',?_⟩
    rcases q with q | ⟨k,c',e,z'⟩
    ·exact .inl q
    ·refine .inr ⟨k,c',e,z'.sameBut hs ?_⟩
     rintro rfl
     exact hj (Zgq hN e1 (I.ok.inj _ _ _ e hc ▸ hi))
  ·by_cases hcc:c'=c
   ·subst hcc;exact ⟨_,hc'⟩
   ·obtain ⟨w2,z2⟩:=I.cell y c' e
    exact ⟨w2,z2.sameBut hs hcc⟩
  ·obtain ⟨e,n,ne,nf,d⟩:=I.pin p hp
   refine ⟨(hs.2 p.1 ?_).trans e,n,ne,nf,d⟩
   intro q
   rw[q,hoc] at e
   have q':oc=p.2:=Option.some.inj e
   exact d w' (by rw[<- q'];exact hocd)
theorem Zcb {M:Model} {A:Around} {E:Value->Shared->Prop} {i:Nat} {x:Str} {v:V} {u:Value} {Q:Unit->Shared->Prop} (I:Inv X pins σ H s) (hN:X.N.Nodup) (hi:X.N[i]?=some x) (hx:Loc X.env.scope x) (hm:X.may i=true) (r:Z4 v u)
  (h: ∀ s',Inv X pins (σ.set i (some v)) H s'->Q () s') (hf:X.fn x=true\/X.env.scope.names.lookup x=some .local:=by first | exact .inl rfl | exact .inr rfl | assumption):wpAny M A (storeName X.env x u) Q E s:=
 ZeP I hN hi hx hm r (fun s' I' _=>h s' I') hf
theorem Inv.call' {s':Shared} {ch:List Addr} (I:Inv X pins σ H s) (ho:s'.os=s.os) (u:Un (frs X.stack) ch H H' s.heap s'.heap) (hok:HOk X.prog X.w H' s'.heap) (hg:AllBare s'.gens)
  (hch: ∀ b∈ch,(b∈X.ex\/X.s₀.heap.objs.size<=b)/\b≠X.env.locals/\(∀ x c,X.env.cells.lookup x=some c->c≠b)/\ ∀ p∈X.pn ++ pins,p.1≠b):Inv X pins σ H' s':=by
 obtain ⟨h',g',d',t',o'⟩:=s'
 have e:o'=s.os:=ho
 subst e
 exact I.call (g':=g') (t':=t') (d':=d') u hok hg hch
end
noncomputable abbrev XK:=Value->Option Addr->Hp->Prop
noncomputable abbrev St:=List (Option V)
noncomputable abbrev VK:=V->Hp->Prop
noncomputable abbrev TE:=St->Hp->VK->Prop
noncomputable abbrev TT:=St->Hp->(Bool->Hp->Prop)->Prop
noncomputable abbrev TA:=St->Hp->(List V->Hp->Prop)->Prop
structure Ends where
 nx:St->Hp->Prop
 rt:VK
 bk:St->Hp->Prop:=fun _ _=>False
 ct:St->Hp->Prop:=fun _ _=>False
noncomputable abbrev TS:=Ends->St->Hp->Prop
noncomputable def EP (X:Cx) (pins:List (Addr × Obj)) (σ:St) (Q:VK) (u:Value) (s':Shared):Prop:= ∃ v H',Inv X pins σ H' s'/\Z4 v u/\Q v H'
noncomputable def TP (X:Cx) (pins:List (Addr × Obj)) (σ:St) (Q:Bool->Hp->Prop) (b:Bool) (s':Shared):Prop:= ∃ H',Inv X pins σ H' s'/\Q b H'
noncomputable def AP (X:Cx) (pins:List (Addr × Obj)) (σ:St) (Q:List V->Hp->Prop) (us:List Value) (s':Shared):Prop:= ∃ vs H',Inv X pins σ H' s'/\Z8 vs us/\Q vs H'
noncomputable def SP (X:Cx) (pins:List (Addr × Obj)) (D:Ends) (f:Flow) (s':Shared):Prop:=
 match f with
 | .next=> ∃ σ' H',Inv X pins σ' H' s'/\D.nx σ' H'
 | .brk=> ∃ σ' H',Inv X pins σ' H' s'/\D.bk σ' H'
 | .cont=> ∃ σ' H',Inv X pins σ' H' s'/\D.ct σ' H'
 | .ret u=> ∃ v σ' H',Inv X pins σ' H' s'/\Z4 v u/\D.rt v H'
noncomputable def PE (X:Cx) (e:Expr) (t:TE):Prop:=
 ∀ (pins:List (Addr × Obj)) (s:Shared) (σ:St) (H:Hp) (Q:VK),Inv X pins σ H s->t σ H Q->wpAny (model X.prog X.w) X.A (eval e X.env) (EP X pins σ Q) X.xe s
noncomputable def PT (X:Cx) (e:Expr) (t:TT):Prop:=
 ∀ (pins:List (Addr × Obj)) (s:Shared) (σ:St) (H:Hp) (Q:Bool->Hp->Prop),Inv X pins σ H s->t σ H Q->wpAny (model X.prog X.w) X.A (isTrue e X.env (eval e X.env)) (TP X pins σ Q) X.xe s
noncomputable def PW (X:Cx) (e:Expr) (t:TT):Prop:=
 ∀ (whole:Sem Value) (pins:List (Addr × Obj)) (s:Shared) (σ:St) (H:Hp) (Q:Bool->Hp->Prop),Inv X pins σ H s->t σ H Q->wpAny (model X.prog X.w) X.A (isTrue e X.env whole) (TP X pins σ Q) X.xe s
theorem PW.pt {X:Cx} {e:Expr} {t:TT} (h:PW X e t):PT X e t:=h _
noncomputable def PA (X:Cx) (es:List Expr) (t:TA):Prop:=
 ∀ (pos:Pos) (pins:List (Addr × Obj)) (s:Shared) (σ:St) (H:Hp) (Q:List V->Hp->Prop),Inv X pins σ H s->t σ H Q->wpAny (model X.prog X.w) X.A (spliced (backTo pos (starEach es X.env))) (AP X pins σ Q) X.xe s
noncomputable def PS (X:Cx) (st:Stmt) (t:TS):Prop:=
 ∀ (pins:List (Addr × Obj)) (s:Shared) (σ:St) (H:Hp) (D:Ends),Inv X pins σ H s->t D σ H->wpAny (model X.prog X.w) X.A (exec st X.env) (SP X pins D) X.xe s
noncomputable def PSs (X:Cx) (st:List Stmt) (t:TS):Prop:=
 ∀ (pins:List (Addr × Obj)) (s:Shared) (σ:St) (H:Hp) (D:Ends),Inv X pins σ H s->t D σ H->wpAny (model X.prog X.w) X.A (execs st X.env) (SP X pins D) X.xe s
theorem thn {α:Type} {t:Sem α} {Q Q':α->Shared->Prop} {M:Model} {A:Around} {E:Value->Shared->Prop} {s:Shared} (h:wpAny M A t Q E s) (hQ: ∀ a s,Q a s->Q' a s):wpAny M A t Q' E s:=wpAny_mono h hQ fun _ _ x=>x
end L2
namespace L2
open PySem PySem.Spec PyProof.Rows
section
variable {X:Cx}
theorem bin {a b:Expr} {ta tb:TE} (ha:PE X a ta) (hb:PE X b tb) {pins:List (Addr × Obj)} {s:Shared} {σ:St} {H:Hp} {R:V->V->Hp->Prop} (I:Inv X pins σ H s) (h:ta σ H fun x H1=>tb σ H1 fun y H2=>R x y H2)
  {α:Type} {Q:α->Shared->Prop} {f:Value->Value->Sem α}
  (hf: ∀ v u s2 x y H2,Inv X pins σ H2 s2->Z4 x v->Z4 y u->R x y H2->wpAny (model X.prog X.w) X.A (f v u) Q X.xe s2):
  wpAny (model X.prog X.w) X.A (eval a X.env) (fun v s₁=>wpAny (model X.prog X.w) X.A (eval b X.env) (fun u s₂=>wpAny (model X.prog X.w) X.A (f v u) Q X.xe s₂) X.xe s₁) X.xe s:=by
 refine thn (ha pins s σ H _ I h) fun v s1 ⟨x,H1,I1,r1,q1⟩=> ?_
 refine thn (hb pins s1 σ H1 _ I1 q1) fun u s2 ⟨y,H2,I2,r2,q2⟩=> ?_
 exact hf v u s2 x y H2 I2 r1 r2 q2
noncomputable def ZrU (i:Nat):TE:=fun σ H Q=> ∃ v,σ[i]?=some (some v)/\Q v H
noncomputable def tC (v:V):TE:=fun _ H Q=>Q v H
theorem Zks {i:Nat} {x:Str} {pos:Pos} (hN:X.N[i]?=some x) (hv:Vis X.env.scope x) (hd:(x == ("__debug__":Str))=false:=by decide) (hcd:(x == ("__classdict__":Str))=false:=by decide):PE X (.Name x pos) (ZrU i):=by
 intro pins s σ H Q I h
 obtain ⟨v,e,h⟩:=h
 obtain ⟨m,hn,hl⟩:=I.loc
 obtain ⟨u,r,l⟩:=hl i x v hN e hv
 have fin:EP X pins σ Q u s:=⟨v,H,I,r,h⟩
 rcases l with ⟨hk,hm⟩ | ⟨hk,c,hc,hcell⟩
 ·exact wpAny_Name (wpAny_loadName_local I.ok.kind hk hn hm fin) hd
 ·rcases hk with hk | hk
  ·exact wpAny_Name (wpAny_loadName_cell I.ok.kind hk hc hcell fin) hd
  ·exact wpAny_Name (wpAny_loadName_free I.ok.kind hk hc hcell fin hcd) hd
theorem ZhM {i j pos}:PE X (.Constant (.int i) j pos) (tC (.int i)):=fun _ _ _ H _ I h=>wpAny_Constant_int ⟨.int i,H,I.tok _,⟨_,rfl⟩,h⟩
theorem ZpU {b j pos}:PE X (.Constant (.bool b) j pos) (tC (.bl b)):=fun _ _ _ H _ I h=>Constant_bool ⟨.bl b,H,I,rfl,h⟩
theorem ZmK {j pos}:PE X (.Constant .none j pos) (tC .non):=fun _ _ _ H _ I h=>Constant_none ⟨.non,H,I,rfl,h⟩
theorem ZmL {x j pos}:PE X (.Constant (.str x) j pos) (tC (.str x)):=fun _ _ _ H _ I h=>Calls.Constant_str ⟨.str x,H,I.tok _,⟨_,rfl⟩,h⟩
noncomputable def Gl (X:Cx) (x:Str):Prop:=X.env.kindOf x=some .globalImplicit
theorem ZfK {E:Value->Shared->Prop} {pins:List (Addr × Obj)} {s:Shared} {σ:St} {H:Hp} {x:Str} {u:Value} {pos:Pos} {Q:Value->Shared->Prop} (I:Inv X pins σ H s) (hg:Gl X x) (hm:X.mg x=some u) (h:Q u s)
  (hd:(x == ("__debug__":Str))=false:=by decide):wpAny (model X.prog X.w) X.A (eval (.Name x pos) X.env) Q E s:=
 Calls.Name_function_global I.ok.kind hg (Calls.loadGlobal_global (by rw[I.ok.glob];exact I.mod.glob.keeps I.bk) hm h) hd
theorem Zc5 {E:Value->Shared->Prop} {pins:List (Addr × Obj)} {s:Shared} {σ:St} {H:Hp} {x:Str} {u:Value} {pos:Pos} {Q:Value->Shared->Prop} (I:Inv X pins σ H s) (hg:Gl X x) (hm:X.mg x=none) (hv:bootBuiltins x=some u) (h:Q u s)
  (hn:x≠"__name__":=by decide) (hd:(x == ("__debug__":Str))=false:=by decide):wpAny (model X.prog X.w) X.A (eval (.Name x pos) X.env) Q E s:=by
 obtain ⟨mb,h1,h2⟩:=I.mod.blt
 exact Calls.Name_function_global I.ok.kind hg (Calls.loadGlobal_builtin (by rw[I.ok.glob];exact I.mod.glob.keeps I.bk) hm (by rw[I.ok.blt];exact h1.keeps I.bk) ((h2 x hn).trans hv) h) hd
theorem ZhN {x:Str} {v:V} {u:Value} {pos:Pos} (hg:Gl X x) (hm:X.mg x=some u) (r:Z4 v u) (hd:(x == ("__debug__":Str))=false:=by decide):PE X (.Name x pos) (tC v):=
 fun _ _ _ H _ I h=>ZfK I hg hm ⟨v,H,I,r,h⟩ hd
theorem ZhO {x:Str} {v:V} {u:Value} {pos:Pos} (hg:Gl X x) (hm:X.mg x=none) (hv:bootBuiltins x=some u) (r:Z4 v u) (hn:x≠"__name__":=by decide) (hd:(x == ("__debug__":Str))=false:=by decide):PE X (.Name x pos) (tC v):=
 fun _ _ _ H _ I h=>Zc5 I hg hm hv ⟨v,H,I,r,h⟩ hn hd
variable {a b:Expr} {ta tb:TE} {pos:Pos}
noncomputable def PC (X:Cx) (op:CmpOp) (a b:Expr) (t:TE):Prop:=
 ∀ (pins:List (Addr × Obj)) (s:Shared) (σ:St) (H:Hp) (Q:VK),Inv X pins σ H s->t σ H Q->
  wpAny (model X.prog X.w) X.A (eval a X.env) (fun v s₁=>wpAny (model X.prog X.w) X.A (eval b X.env) (fun u s₂=>wpAny (model X.prog X.w) X.A (compareOp op v u) (EP X pins σ Q) X.xe s₂) X.xe s₁) X.xe s
theorem Zjr (b:Expr) {op:CmpOp} (h:op≠ .In) (h2:op≠ .NotIn):behindInMarks op b=false:=by
 have e1:(op == CmpOp.In)=false:=by cases op<;>first | rfl | exact absurd rfl h
 have e2:(op == CmpOp.NotIn)=false:=by cases op<;>first | rfl | exact absurd rfl h2
 cases b<;>simp[behindInMarks,e1,e2]
noncomputable def tB (t:TE):TT:=fun σ H Q=>t σ H fun x H1=> ∃ c,x= .bl c/\Q c H1
theorem ZrV {op:CmpOp} {t:TE} (h:PC X op a b t) (h1:behindInMarks op b=false:=by first | exact Zjr _ (by decide) (by decide) | rfl):PT X (.Compare a [op] [b] pos) (tB t):=by
 intro pins s σ H Q I hw
 refine wpAny_isTrue_Compare1 (thn (h pins s σ H _ I hw) fun v s1 h1=>thn h1 fun u s2 h2=>thn h2 fun c s3 ⟨x,H1,I1,r1,q1⟩=> ?_) h1
 obtain ⟨d,rfl,q⟩:=q1
 cases r1
 exact wpAny_truthy_bool ⟨H1,I1,q⟩
theorem ZmM {e:Expr} {t:TE} (h:PE X e t) (he: ∀ whole,isTrue e X.env whole=(do let v <- whole;standAt e.pos;holding [v] (truthy v)):=by intro _;rfl):PT X e (tB t):=by
 intro pins s σ H Q I hw
 refine isTrue_plain (thn (h pins s σ H _ I hw) fun v s1 ⟨x,H1,I1,r1,q1⟩=> ?_) (he _)
 obtain ⟨d,rfl,q⟩:=q1
 cases r1
 exact wpAny_truthy_bool ⟨H1,I1,q⟩
variable {tA tB':TT} {rest:List Expr}
noncomputable def Zs4 (t u:TT):TT:=fun σ H Q=>t σ H fun c H1=>if c=true then u σ H1 Q else Q false H1
noncomputable def tOr (t u:TT):TT:=fun σ H Q=>t σ H fun c H1=>if c=true then Q true H1 else u σ H1 Q
noncomputable def Zs5 (t:TT):TT:=fun σ H Q=>t σ H fun c H1=>Q (!c) H1
theorem pw_and1 (ha:PT X a tA):PW X (.BoolOp .And [a] pos) tA:=by
 intro wh pins s σ H Q I h
 refine isTrue_and (thn (ha pins s σ H Q I h) fun c s1 e=> ?_)
 cases c with
 |true=>exact isTrue_and_nil e
 |false=>exact e
theorem pw_or1 (ha:PT X a tA):PW X (.BoolOp .Or [a] pos) tA:=by
 intro wh pins s σ H Q I h
 refine isTrue_or (thn (ha pins s σ H Q I h) fun c s1 e=> ?_)
 cases c with
 |false=>exact isTrue_or_nil e
 |true=>exact e
theorem pw_and (ha:PT X a tA) (hb:PW X (.BoolOp .And (b :: rest) pos) tB'):PW X (.BoolOp .And (a :: b :: rest) pos) (Zs4 tA tB'):=by
 intro wh pins s σ H Q I h
 refine isTrue_and (thn (ha pins s σ H _ I h) fun c s1 ⟨H1,I1,q1⟩=> ?_)
 cases c with
 |true=>exact hb wh pins s1 σ H1 Q I1 q1
 |false=>exact ⟨H1,I1,q1⟩
theorem pw_or (ha:PT X a tA) (hb:PW X (.BoolOp .Or (b :: rest) pos) tB'):PW X (.BoolOp .Or (a :: b :: rest) pos) (tOr tA tB'):=by
 intro wh pins s σ H Q I h
 refine isTrue_or (thn (ha pins s σ H _ I h) fun c s1 ⟨H1,I1,q1⟩=> ?_)
 cases c with
 |true=>exact ⟨H1,I1,q1⟩
 |false=>exact hb wh pins s1 σ H1 Q I1 q1
theorem ZmN (ha:PT X a tA):PT X (.UnaryOp .Not a pos) (Zs5 tA):=by
 intro pins s σ H Q I h
 exact isTrue_not (ha pins s σ H (fun c H1=>Q (!c) H1) I h)
noncomputable def ZpV (ta tb:TE):TE:=fun σ H Q=>ta σ H fun x H1=> ∃ c,x= .bl c/\if c=true then tb σ H1 Q else Q (.bl false) H1
noncomputable def ZpW (ta:TE):TE:=fun σ H Q=>ta σ H fun x H1=> ∃ c,x= .bl c/\Q (.bl (!c)) H1
theorem ZmO {op} {t:TE} (h:PE X a t):PE X (.BoolOp op [a] pos) t:=fun pins s σ H Q I hw=>BoolOp_one (h pins s σ H Q I hw)
theorem ZmP (ha:PE X a ta) (hb:PE X (.BoolOp .And (b :: rest) pos) tb):PE X (.BoolOp .And (a :: b :: rest) pos) (ZpV ta tb):=by
 intro pins s σ H Q I h
 refine BoolOp_and (thn (ha pins s σ H _ I h) fun v s1 ⟨x,H1,I1,r1,q1⟩=> ?_)
 obtain ⟨c,rfl,q1⟩:=q1
 cases r1
 refine wpAny_truthy_bool ?_
 cases c with
 |true=>exact hb pins s1 σ H1 Q I1 q1
 |false=>exact ⟨.bl false,H1,I1,rfl,q1⟩
theorem ZmQ (ha:PE X a ta):PE X (.UnaryOp .Not a pos) (ZpW ta):=by
 intro pins s σ H Q I h
 refine UnaryOp_ (thn (ha pins s σ H _ I h) fun v s1 ⟨x,H1,I1,r1,q1⟩=> ?_)
 obtain ⟨c,rfl,q1⟩:=q1
 cases r1
 exact not_of (wpAny_truthy_bool ⟨.bl (!c),H1,I1,rfl,q1⟩)
noncomputable def tIf (t:TT) (ta tb:TE):TE:=fun σ H Q=>t σ H fun c H1=>if c=true then ta σ H1 Q else tb σ H1 Q
theorem Zjs {c:Expr} (hc:PT X c tA) (ha:PE X a ta) (hb:PE X b tb):PE X (.IfExp c a b pos) (tIf tA ta tb):=by
 intro pins s σ H Q I h
 refine wpAny_IfExp (thn (hc pins s σ H _ I h) fun d s1 ⟨H1,I1,q1⟩=> ?_)
 cases d with
 |true=>exact ha pins s1 σ H1 Q I1 q1
 |false=>exact hb pins s1 σ H1 Q I1 q1
end
end L2
namespace L2
open PySem PySem.Spec PyProof.Rows
noncomputable def SqL (K:PySem.W.Frag) (H:Hp) (a:Addr) (xs:List V):Prop:=
 Rd H a (.lst xs)\/
  ∃ (o:Obj) (its:Array Value) (n:Nat),K.lookup a=some o/\o.cls= .type "list"/\o.dict=none/\o.data= .seq its n/\its.size<=sizeLine/\Z8 xs its.toList
noncomputable def SqT (K:PySem.W.Frag) (H:Hp) (a:Addr) (xs:List V):Prop:=
 Rd H a (.tup xs)\/
  ∃ (o:Obj) (its:Array Value) (n:Nat),K.lookup a=some o/\o.cls= .type "tuple"/\o.data= .seq its n/\its.size<=sizeLine/\Z8 xs its.toList
noncomputable def Zs6:Value->Option V
 | .none=>some .non
 | .bool b=>some (.bl b)
 | .int i _=>some (.int i)
 | .str x _=>some (.str x)
 | .bytes b _=>some (.byt b)
 | .float b _=>some (.flt b)
 | .ref a=>some (.ref a)
 | .type n=>some (.ty n)
 |_=>none
theorem Z4.abs {x:V} {u:Value} (r:Z4 x u):Zs6 u=some x:=by
 cases x with
 |non=>cases r;rfl
 |bl _=>cases r;rfl
 |int _=>obtain ⟨t,rfl⟩:=r;rfl
 |str _=>obtain ⟨t,rfl⟩:=r;rfl
 |byt _=>obtain ⟨t,rfl⟩:=r;rfl
 |flt _=>obtain ⟨t,rfl⟩:=r;rfl
 |ref _=>cases r;rfl
 |ty _=>cases r;rfl
theorem Z4.inj {x y:V} {u:Value} (r:Z4 x u) (q:Z4 y u):x=y:=Option.some.inj (r.abs.symm.trans q.abs)
theorem Z8.inj: ∀ {xs ys:List V} {us:List Value},Z8 xs us->Z8 ys us->xs=ys
 |_,_,_,.nil,.nil=>rfl
 |_,_,_,.cons r t,.cons r' t'=>by rw[r.inj r',Z8.inj t t']
section
variable {X:Cx} {pins:List (Addr × Obj)} {σ:St} {H:Hp} {s:Shared} {a:Addr} {xs ys:List V}
theorem SqL.of {K:PySem.W.Frag} (h:H a=some (.lst xs)):SqL K H a xs:= .inl (.inl h)
theorem SqT.of {K:PySem.W.Frag} (h:H a=some (.tup xs)):SqT K H a xs:= .inl (.inl h)
theorem Inv.list (I:Inv X pins σ H s) (h:SqL X.K H a xs): ∃ its:List Value,Z8 xs its/\PlainL s.heap a its.toArray/\xs.length<=sizeLine:=by
 rcases h with h | ⟨o,its,n,hk,hc,hd,hs,hz,r⟩
 ·obtain ⟨z,its,n,r,e⟩:=h.ok I.hok
  exact ⟨its,r,⟨_,n,e,rfl,rfl,rfl⟩,z⟩
 ·refine ⟨its.toList,r,⟨o,n,I.kIn a o hk,hc,hd,by simpa using hs⟩,?_⟩
  have e:=r.length
  simp only[Array.length_toList] at e
  omega
theorem Inv.tuple (I:Inv X pins σ H s) (h:SqT X.K H a xs): ∃ its:List Value,Z8 xs its/\IsTup s.heap a its.toArray/\xs.length<=sizeLine:=by
 rcases h with h | ⟨o,its,n,hk,hc,hs,hz,r⟩
 ·obtain ⟨z,its,r,p⟩:=h.ok I.hok
  exact ⟨its,r,p,z⟩
 ·refine ⟨its.toList,r,⟨o,I.kIn a o hk,hc,n,by simpa using hs⟩,?_⟩
  have e:=r.length
  simp only[Array.length_toList] at e
  omega
theorem Inv.list_inj (I:Inv X pins σ H s) (h:SqL X.K H a xs) (h':SqL X.K H a ys):xs=ys:=by
 obtain ⟨its,r,⟨o,n,e,_,_,d⟩,_⟩:=I.list h
 obtain ⟨its',r',⟨o',n',e',_,_,d'⟩,_⟩:=I.list h'
 rw[e] at e';cases e'
 rw[d] at d'
 injection d' with d1 _
 have:its=its':=by simpa using congrArg Array.toList d1
 subst this
 exact r.inj r'
theorem Inv.tuple_inj (I:Inv X pins σ H s) (h:SqT X.K H a xs) (h':SqT X.K H a ys):xs=ys:=by
 obtain ⟨its,r,⟨o,e,_,n,d⟩,_⟩:=I.tuple h
 obtain ⟨its',r',⟨o',e',_,n',d'⟩,_⟩:=I.tuple h'
 rw[e] at e';cases e'
 rw[d] at d'
 injection d' with d1 _
 have:its=its':=by simpa using congrArg Array.toList d1
 subst this
 exact r.inj r'
end
section
variable {X:Cx} {pins:List (Addr × Obj)} {σ:St} {H:Hp} {s:Shared} {E:Value->Shared->Prop}
end
section
variable {X:Cx} {st:Stmt} {rest:List Stmt} {t u:TS} {e:Expr} {te:TE} {pos:Pos}
noncomputable def tNext:TS:=fun D σ H=>D.nx σ H
noncomputable def Zs7 (t u:TS):TS:=fun D σ H=>t { D with nx:=u D } σ H
theorem Zk3:PSs X [] tNext:=fun _ _ σ H _ I h=>wpAny_execs_nil ⟨σ,H,I,h⟩
theorem Zjt (h1:PS X st t) (h2:PSs X rest u):PSs X (st :: rest) (Zs7 t u):=by
 intro pins s σ H D I h
 refine wpAny_execs_cons (thn (h1 pins s σ H { D with nx:=u D } I h) fun f s1 q=> ?_)
 cases f with
 |next=>
  obtain ⟨σ',H',I',q⟩:=q
  exact h2 pins s1 σ' H' D I' q
 |ret v=>exact q
 |brk=>exact q
 |cont=>exact q
theorem Zk4 (h1:PS X st t):PSs X [st] t:=by
 intro pins s σ H D I h
 refine wpAny_execs_cons (thn (h1 pins s σ H D I h) fun f s1 q=> ?_)
 cases f with
 |next=>exact wpAny_execs_nil q
 |ret v=>exact q
 |brk=>exact q
 |cont=>exact q
noncomputable def tBreak:TS:=fun D σ H=>D.bk σ H
theorem Zju:PS X (.Break pos) tBreak:=fun _ _ σ H _ I h=>wpAny_Break ⟨σ,H,I,h⟩
theorem Inv.quiet {pins:List (Addr × Obj)} {σ:St} {H:Hp} {s:Shared} (I:Inv X pins σ H s):interactive X.env=false:=by simp[interactive,I.ok.kind]
noncomputable def ZpX (te:TE):TS:=fun D σ H=>te σ H fun _ H1=>D.nx σ H1
theorem Zk5 (he:PE X e te) (hs:swapsWith e none pos.line X.env=pure false:=by rfl):PS X (.Expr e pos) (ZpX te):=by
 intro pins s σ H D I h
 exact wpAny_Expr_any (thn (he pins s σ H _ I h) fun v s1 ⟨x,H1,I1,r1,q1⟩=>⟨σ,H1,I1,q1⟩) I.quiet hs
noncomputable def Zs8 (te:TE):TS:=fun D σ H=>te σ H D.rt
theorem ZmR (he:PE X e te):PS X (.Return (some e) pos) (Zs8 te):=by
 intro pins s σ H D I h
 exact wpAny_Return_some (thn (he pins s σ H _ I h) fun v s1 ⟨x,H1,I1,r1,q1⟩=>⟨x,σ,H1,I1,r1,q1⟩)
noncomputable def Zs9 (c:TT) (t u:TS):TS:=fun D σ H=>c σ H fun b H1=>if b=true then t D σ H1 else u D σ H1
theorem ZpY {c:Expr} {a b:List Stmt} {tc:TT} (hc:PT X c tc) (ha:PSs X a t) (hb:PSs X b u):PS X (.If c a b pos) (Zs9 tc t u):=by
 intro pins s σ H D I h
 refine wpAny_If (thn (hc pins s σ H _ I h) fun d s1 ⟨H1,I1,q1⟩=> ?_)
 cases d with
 |true=>exact ha pins s1 σ H1 D I1 q1
 |false=>exact hb pins s1 σ H1 D I1 q1
noncomputable def tNever:TS:=fun _ _ _=>False
theorem Zjv:PS X st tNever:=fun _ _ _ _ _ _ h=>h.elim
end
noncomputable abbrev TG:=V->St->Hp->(St->Hp->Prop)->Prop
noncomputable abbrev TGs:=List V->St->Hp->(St->Hp->Prop)->Prop
noncomputable def PG (X:Cx) (target:Expr) (t:TG):Prop:=
 ∀ (pins:List (Addr × Obj)) (s:Shared) (σ:St) (H:Hp) (v:V) (u:Value) (Q:St->Hp->Prop),Inv X pins σ H s->Z4 v u->t v σ H Q->
  wpAny (model X.prog X.w) X.A (assign target X.env u) (fun _ s'=> ∃ σ' H',Inv X pins σ' H' s'/\Q σ' H') X.xe s
noncomputable def PGs (X:Cx) (ts:List Expr) (t:TGs):Prop:=
 ∀ (pins:List (Addr × Obj)) (s:Shared) (σ:St) (H:Hp) (vs:List V) (us:List Value) (Q:St->Hp->Prop),Inv X pins σ H s->Z8 vs us->t vs σ H Q->
  wpAny (model X.prog X.w) X.A (assignInOrder ((assignEach ts X.env).map (·.2)) us) (fun _ s'=> ∃ σ' H',Inv X pins σ' H' s'/\Q σ' H') X.xe s
noncomputable abbrev ZpZ:=V->V->V->Hp->(Hp->Prop)->Prop
noncomputable def ZrW (X:Cx) (t:ZpZ):Prop:=
 ∀ (pins:List (Addr × Obj)) (s:Shared) (σ:St) (H:Hp) (o i v:V) (ov iv u:Value) (Q:Hp->Prop),Inv X pins σ H s->Z4 o ov->Z4 i iv->Z4 v u->t o i v H Q->
  wpAny (model X.prog X.w) X.A (setItem ov iv u) (fun _ s'=> ∃ H',Inv X pins σ H' s'/\Q H') X.xe s
section
variable {X:Cx} {pos:Pos}
noncomputable def ZmS (i:Nat):TG:=fun v σ H Q=>Q (σ.set i (some v)) H
theorem Zk6 {i:Nat} {x:Str} (hN:X.N.Nodup) (hi:X.N[i]?=some x) (hx:Loc X.env.scope x) (hm:X.may i=true) (hf:X.fn x=true\/X.env.scope.names.lookup x=some .local:=by first | exact .inl rfl | exact .inr rfl | assumption):PG X (.Name x pos) (ZmS i):=by
 intro pins s σ H v u Q I r h
 exact wpAny_assign_Name (Zcb I hN hi hx hm r (fun s' I'=>⟨_,H,I',h⟩) hf)
noncomputable def gNil:TGs:=fun vs σ H Q=>vs=[]/\Q σ H
noncomputable def Zp0 (t:TG) (u:TGs):TGs:=fun vs σ H Q=> ∃ v r,vs=v :: r/\t v σ H fun σ' H'=>u r σ' H' Q
theorem Zk7:PGs X [] gNil:=by
 intro pins s σ H vs us Q I r h
 obtain ⟨e,h⟩:=h
 subst e
 cases r
 exact assignInOrder_nil ⟨σ,H,I,h⟩
theorem Zjw {e:Expr} {es:List Expr} {t:TG} {u:TGs} (h1:PG X e t) (h2:PGs X es u)
  (hs:(assignEach (e :: es) X.env).map (·.2)=assign e X.env :: (assignEach es X.env).map (·.2):=by rfl):PGs X (e :: es) (Zp0 t u):=by
 intro pins s σ H vs us Q I r h
 obtain ⟨v,vr,e1,h⟩:=h
 subst e1
 cases r with
 |cons r rr=>
  rw[hs]
  refine assignInOrder_cons (thn (h1 pins s σ H _ _ _ I r h) fun _ s1 ⟨σ1,H1,I1,q1⟩=> ?_)
  exact h2 pins s1 σ1 H1 _ _ Q I1 rr q1
noncomputable def Zta (K:PySem.W.Frag) (n:Nat) (t:TGs):TG:=fun v σ H Q=> ∃ a xs,v= .ref a/\SqT K H a xs/\xs.length=n/\t xs σ H Q
theorem ZmT {es:List Expr} {k:Nat} {t:TGs} {n:Nat} (hc:X.calm=true) (h:PGs X es t)
  (hn:(assignEach es X.env).length=n:=by rfl) (hst:(assignEach es X.env).findIdx? (·.1)=none:=by rfl):PG X (.Tuple es k pos) (Zta X.K n t):=by
 intro pins s σ H v u Q I r hw
 obtain ⟨a,xs,e1,hq,hl,hw⟩:=hw
 subst e1
 cases r
 obtain ⟨its,rv,ht,hz⟩:=I.tuple hq
 refine assign_Tuple_tuple (I.ok.hd hc) ht (by simp[hn,<- hl,rv.length]) hst fun h' hx=> ?_
 have I1:Inv X pins σ H { s with heap:=h' }:=I.kept (t':=s.toks) fun b o e=>hx b o (Nat.ne_of_lt (Heap.lt_size e)) e
 exact h pins _ σ H xs _ Q I1 (by simpa using rv) hw
noncomputable def Ztb (to ti:TE) (t:ZpZ):TG:=fun v σ H Q=>to σ H fun o H1=>ti σ H1 fun i H2=>t o i v H2 fun H3=>Q σ H3
theorem ZmU {o i:Expr} {to ti:TE} {t:ZpZ} (ho:PE X o to) (hi:PE X i ti) (hs:ZrW X t)
  (ha: ∀ v,assign (.Subscript o i pos) X.env v=(do
   let ov <- holding [v] (eval o X.env)
   let iv <- holding [v,ov] (eval i X.env)
   standAt pos
   holding [v,ov,iv] (setItem ov iv v)
   release [v,ov,iv] []):=by intro _;rfl):PG X (.Subscript o i pos) (Ztb to ti t):=by
 intro pins s σ H v u Q I r h
 rw[ha]
 refine wpAny_bind (wpAny_holding (thn (ho pins s σ H _ I h) fun ov s1 ⟨x,H1,I1,r1,q1⟩=> ?_))
 refine wpAny_bind (wpAny_holding (thn (hi pins s1 σ H1 _ I1 q1) fun iv s2 ⟨y,H2,I2,r2,q2⟩=> ?_))
 refine wpAny_bind (wpAny_standAt (wpAny_bind (wpAny_holding (thn (hs pins s2 σ H2 x y v ov iv u _ I2 r1 r2 r q2) fun _ s3 ⟨H3,I3,q3⟩=> ?_))))
 exact wpAny_release ⟨σ,H3,I3,q3⟩
noncomputable def ZrX (te:TE) (g:TG):TS:=fun D σ H=>te σ H fun x H1=>g x σ H1 D.nx
theorem Zkt {tg e:Expr} {te:TE} {g:TG} (he:PE X e te) (hg:PG X tg g) (hs:swapsWithSole [tg] e pos.line X.env=pure false:=by rfl) (hw:swappedStores [tg] e X.env=pure none:=by rfl)
  (h1:(assignEach [tg] X.env).map (·.2)=[assign tg X.env]:=by rfl):PS X (.Assign [tg] e pos) (ZrX te g):=by
 intro pins s σ H D I h
 refine wpAny_Assign_stores (thn (he pins s σ H _ I h) fun v s1 ⟨x,H1,I1,r1,q1⟩=> ?_) hs hw
 rw[h1]
 exact thn (hg pins s1 σ H1 x v _ I1 r1 q1) fun _ s2 q=>q
theorem ZmV {i:Nat} {x:Str} {e:Expr} {te:TE} {pos':Pos} (hN:X.N.Nodup) (hi:X.N[i]?=some x) (hx:Loc X.env.scope x) (hm:X.may i=true) (he:PE X e te) (hs:swapsWith e (some (.Name x pos')) pos.line X.env=pure false:=by rfl) (hf:X.fn x=true\/X.env.scope.names.lookup x=some .local:=by first | exact .inl rfl | exact .inr rfl | assumption):
  PS X (.Assign [.Name x pos'] e pos) (ZrX te (ZmS i)):=by
 intro pins s σ H D I h
 refine wpAny_Assign_Name (thn (he pins s σ H _ I h) fun v s1 ⟨y,H1,I1,r1,q1⟩=> ?_) hs
 exact Zcb I1 hN hi hx hm r1 (fun s2 I2=>⟨_,H1,I2,q1⟩) hf
noncomputable def Ztc (i j:Nat) (ta:TA):TS:=fun D σ H=>ta σ H fun vs H1=> ∃ v w,vs=[v,w]/\D.nx ((σ.set i (some v)).set j (some w)) H1
theorem ZmW {i j:Nat} {x y:Str} {a b:Expr} {ta:TA} {px py pt:Pos} {kt k2 pt2} (hc:X.calm=true) (mi:X.may i=true) (mj:X.may j=true) (hN:X.N.Nodup) (hi:X.N[i]?=some x) (hj:X.N[j]?=some y) (hij:i≠j)
  (hx:X.env.scope.names.lookup x=some .local) (hy:X.env.scope.names.lookup y=some .local) (ha:PA X [a,b] ta)
  (hw:swappedStores [.Tuple [.Name x px,.Name y py] kt pt] (.Tuple [a,b] k2 pt2) X.env=pure (some [x,y]))
  (hs:swapsWithSole [.Tuple [.Name x px,.Name y py] kt pt] (.Tuple [a,b] k2 pt2) pos.line X.env=pure false:=by rfl):
  PS X (.Assign [.Tuple [.Name x px,.Name y py] kt pt] (.Tuple [a,b] k2 pt2) pos) (Ztc i j ta):=by
 intro pins s σ H D I h
 rw[exec_Assign_arm]
 refine wpAny_bind (wpAny_standAt ?_)
 rw[hs]
 refine wpAny_bind (wpAny_pure ?_)
 rw[if_neg (by decide)]
 refine wpAny_bind (Tuple_ (thn (ha _ pins s σ H _ I h) fun us s1 ⟨vs,H1,I1,r1,q1⟩=> ?_))
 obtain ⟨v,w,e1,q1⟩:=q1
 subst e1
 obtain ⟨u1,u2,rfl,rv,rw'⟩: ∃ u1 u2,us=[u1,u2]/\Z4 v u1/\Z4 w u2:=by
  cases r1 with
  |cons p q=>
   cases q with
   |cons p' q'=>
    cases q'
    exact ⟨_,_,rfl,p,p'⟩
 refine wpAny_newObj_type ?_ (by show 2<=sizeLine;decide)
 have I2:Inv X pins σ H1 { s1 with heap:=s1.heap.push { cls:= .type "tuple",data:= .seq [u1,u2].toArray } }:=I1.kept (t':=s1.toks) fun b o e=>Heap.get?_push_of_some _ e
 rw[hw]
 refine wpAny_bind (wpAny_pure ?_)
 show wpAny (model X.prog X.w) X.A (do rule "assign.swapped-stores";let items <- unpackItems (.ref s1.heap.objs.size) 2 none;assignInOrder [fun v=>bindName X.env y v,fun v=>bindName X.env x v] items.reverse;pure Flow.next) _ _ _
 refine wpAny_bind (wpAny_rule (wpAny_bind (unpackItems_tuple (items:= #[u1,u2]) (I.ok.hd hc) (IsTup.new s1.heap _) fun h' hx'=> ?_)))
 have I3:=I2.kept (h':=h') (t':=s1.toks) fun b o e=>hx' b o (Nat.ne_of_lt (Heap.lt_size e)) e
 show wpAny _ _ (assignInOrder [fun v=>bindName X.env y v,fun v=>bindName X.env x v] [u2,u1] >>= fun _=>pure Flow.next) _ _ _
 refine wpAny_bind (assignInOrder_cons (wpAny_bindName (Zcb I3 hN hj (.inl hy) mj rw' (fun s2 I4=> ?_) (.inr hy))))
 refine assignInOrder_cons (wpAny_bindName (Zcb I4 hN hi (.inl hx) mi rv (fun s3 I5=>assignInOrder_nil (wpAny_pure ?_)) (.inr hx)))
 rw[List.set_comm _ _ (Ne.symm hij)] at I5
 exact ⟨_,H1,I5,q1⟩
end
section
variable {X:Cx} {pos:Pos}
noncomputable def ZmX (c:TT) (tb:TS):TS:=fun D σ H=> ∃ W:Nat->St->Hp->Prop,(∃ m,W m σ H)/\ ∀ m σ H,W m σ H->
 c σ H fun b H1=>if b=true then ∃ N:St->Hp->Prop,(∀ σ' H',N σ' H'-> ∃ m',m' < m/\W m' σ' H')/\tb { D with nx:=N,ct:=N,bk:=D.nx } σ H1 else D.nx σ H1
theorem Zjx {c:Expr} {body:List Stmt} {tc:TT} {tb:TS} (hp:PassesOwn (model X.prog X.w) X.A X.env X.xe) (hc:PT X c tc) (hb:PSs X body tb):PS X (.While c body [] pos) (ZmX tc tb):=by
 intro pins s σ H D I h
 obtain ⟨W,⟨m0,w0⟩,turn⟩:=h
 refine wpAny_While (codeAny_whileLoop (fun n s'=> ∃ σ' H',Inv X pins σ' H' s'/\W n σ' H') ?_ m0 ⟨σ,H,I,w0⟩)
 rintro n s1 ⟨σ1,H1,I1,w1⟩
 refine wpAny_passesOwn hp (thn (hc pins s1 σ1 H1 _ I1 (turn n σ1 H1 w1)) fun b s2 ⟨H2,I2,q2⟩=> ?_)
 cases b with
 |true=>
  obtain ⟨N,hN,q2⟩:=q2
  rw[if_pos rfl]
  refine wpAny_passesOwn hp (thn (hb pins s2 σ1 H2 _ I2 q2) fun f s3 q3=> ?_)
  cases f with
  |next=>
   obtain ⟨σ3,H3,I3,n3⟩:=q3
   obtain ⟨m',hm,w3⟩:=hN σ3 H3 n3
   exact ⟨m',hm,σ3,H3,I3,w3⟩
  |cont=>
   obtain ⟨σ3,H3,I3,n3⟩:=q3
   obtain ⟨m',hm,w3⟩:=hN σ3 H3 n3
   exact ⟨m',hm,σ3,H3,I3,w3⟩
  |brk=>exact q3
  |ret v=>exact q3
 |false=>
  rw[if_neg Bool.false_ne_true]
  exact wpAny_execs_nil ⟨σ1,H2,I2,q2⟩
end
structure It where
 go:Nat->Hp->Prop
 yld:Nat->Hp->V->Hp->Prop
 stop:Nat->Hp->Prop
noncomputable def ZdS (X:Cx) (pins:List (Addr × Obj)) (H:Hp) (b:Addr):Prop:=
 H b=none/\b≠X.env.locals/\b ∉ X.fs/\(b∈X.ex\/X.s₀.heap.objs.size<=b)/\(∀ x c,X.env.cells.lookup x=some c->c≠b)/\ ∀ p∈X.pn ++ pins,p.1≠b
theorem Inv.fpOk {X:Cx} {pins:List (Addr × Obj)} {σ:St} {H H':Hp} {s:Shared} {b:Addr} (I:Inv X pins σ H s) (hb:s.heap.objs.size<=b) (hn:H' b=none):ZdS X pins H' b:=by
 refine ⟨hn,Nat.ne_of_gt (Nat.lt_of_lt_of_le I.lt hb),I.nofs hb,.inr (Nat.le_trans I.sz hb),fun x c e z=> ?_,fun p hp z=> ?_⟩
 ·obtain ⟨v,q⟩:=I.cell x c e
  exact absurd (Nat.lt_of_lt_of_le q.lt (by rw[z];exact hb)) (Nat.lt_irrefl _)
 ·exact absurd (Nat.lt_of_lt_of_le (Heap.lt_size (I.pin p hp).1) (by rw[z];exact hb)) (Nat.lt_irrefl _)
structure Turn (P:Program) (w:World) (K:PySem.W.Frag) (B:Around) (tg:Expr) (J:It) (fp:List Addr) (it:Addr) (tn:Nat->Heap->Prop):Prop where
 mem:it∈fp
 obj: ∀ i h,tn i h-> ∀ b∈fp,∃ o,h.get? b=some o/\ ∀ v,o.data≠ .cell v
 keep: ∀ i h h',tn i h->(∀ b∈fp,∀ o,h.get? b=some o->h'.get? b=some o)->tn i h'
 item: ∀ (X:Cx),X.prog=P->X.w=w->X.K=K->X.A=B-> ∀ (i:Nat) (pins:List (Addr × Obj)) (s:Shared) (σ:St) (H:Hp) (E:Value->Shared->Prop),Inv X pins σ H s->(∀ b∈fp,ZdS X pins H b)->tn i s.heap->J.go i H->
  wpAny (model P w) X.A (pyNext (.ref it)) (fun r s1=> ∃ u,r=some u/\
   wpAny (model P w) X.A (letOwnedTupleGo tg (.ref it) u) (fun _ s2=> ∃ x H',Inv X pins σ H' s2/\Z4 x u/\J.yld i H x H'/\tn (i + 1) s2.heap/\ ∀ b∈fp,H' b=none) E s1) E s
 done: ∀ (X:Cx),X.prog=P->X.w=w->X.K=K->X.A=B-> ∀ (i:Nat) (pins:List (Addr × Obj)) (s:Shared) (σ:St) (H:Hp) (E:Value->Shared->Prop),Inv X pins σ H s->(∀ b∈fp,ZdS X pins H b)->tn i s.heap->J.stop i H->
  wpAny (model P w) X.A (pyNext (.ref it)) (fun r s1=>r=none/\Inv X pins σ H s1) E s
 self: ∀ (A:Around) (i:Nat) (s:Shared) (Q:Value->Shared->Prop) (E:Value->Shared->Prop),tn i s.heap->Q (.ref it) s->wpAny (model P w) A (pyIter (.ref it)) Q E s
noncomputable abbrev TI:=St->Hp->(It->Hp->Prop)->Prop
noncomputable def PIE (X:Cx) (pins:List (Addr × Obj)) (σ:St) (tg:Expr) (R:It->Hp->Prop) (itv:Value) (s2:Shared):Prop:=
 ∃ (it:Addr) (fp:List Addr) (tn:Nat->Heap->Prop) (J:It) (H':Hp),itv= .ref it/\Inv X pins σ H' s2/\Turn X.prog X.w X.K X.A tg J fp it tn/\tn 0 s2.heap/\(∀ b∈fp,ZdS X pins H' b)/\R J H'
noncomputable def PI (X:Cx) (tg iter:Expr) (wi:TI):Prop:=
 ∀ (pins:List (Addr × Obj)) (s:Shared) (σ:St) (H:Hp) (R:It->Hp->Prop),Inv X pins σ H s->wi σ H R->
  wpAny (model X.prog X.w) X.A (eval iter X.env) (fun v s1=>wpAny (model X.prog X.w) X.A (pyIter v) (PIE X pins σ tg R) X.xe s1) X.xe s
theorem Zk8 {M:Model} {A:Around} {E:Value->Shared->Prop} {s:Shared} {tg:Expr} {it:Addr} {u:Value} {o:Obj} {n:String} {vs:Array Value} {Q:Unit->Shared->Prop} (ho:s.heap.get? it=some o) (hc:o.cls= .type n) (hd:o.data= .fields vs)
  (hn:["enumerate","zip","dict_itemiterator","dict_reverseitemiterator","odict_iterator","itertools.zip_longest","itertools.pairwise"].contains n=false) (hQ:Q () s):wpAny M A (letOwnedTupleGo tg (.ref it) u) Q E s:=by
 unfold letOwnedTupleGo
 cases tg<;>first
  |exact wpAny_pure hQ
  | (cases u<;>first
    |exact wpAny_pure hQ
    | (refine wpAny_bind (wpAny_load ho ?_)
       rw[hc,hd]
       show wpAny M A (if (["enumerate","zip","dict_itemiterator","dict_reverseitemiterator","odict_iterator","itertools.zip_longest","itertools.pairwise"].contains n && vs[0]? == some (rawInt _))=true then _ else _) Q E s
       rw[if_neg (by intro h;rw[hn,Bool.false_and] at h;cases h)]
       exact wpAny_pure hQ))
noncomputable def Itl (K:PySem.W.Frag) (a:Addr):It:=
 ⟨fun i H=> ∃ xs x,SqL K H a xs/\xs[i]?=some x,fun i H x H'=>H'=H/\ ∀ xs,SqL K H a xs->xs[i]?=some x,fun i H=> ∃ xs,SqL K H a xs/\xs.length<=i⟩
noncomputable def Itt (K:PySem.W.Frag) (a:Addr):It:=
 ⟨fun i H=> ∃ xs x,SqT K H a xs/\xs[i]?=some x,fun i H x H'=>H'=H/\ ∀ xs,SqT K H a xs->xs[i]?=some x,fun i H=> ∃ xs,SqT K H a xs/\xs.length<=i⟩
noncomputable def Itr (lo:Int) (n:Nat):It:=⟨fun i _=>i < n,fun i H x H'=>H'=H/\x= .int (lo + i),fun i _=>n<=i⟩
theorem ZhP {P:Program} {w:World} {K:PySem.W.Frag} {B:Around} {tg:Expr} (a it:Addr):Turn P w K B tg (Itl K a) [it] it (fun i h=>h.IsListIter it a i) where
 mem:=by simp
 obj:=fun i h st b hb=>by
  have e:b=it:=by simpa using hb
  subst e
  obtain ⟨o,e,c,d⟩:=st
  exact ⟨o,e,fun v z=>by rw[d] at z;cases z⟩
 keep:=fun i h h' st k=>st.at fun o e=>k it (by simp) o e
 item:=by
  intro X hP hw hK hB i pins s σ H E I hf st hg
  subst hP hw hK
  obtain ⟨xs,x,hq,hx⟩:=hg
  obtain ⟨its,rv,p,hz⟩:=I.list hq
  obtain ⟨u,hu,ru⟩:=rv.get hx
  obtain ⟨f0,f1,f2,f3,f4,f5⟩:=hf it (by simp)
  refine wpAny_pyNext_list_item st p.isList (x:=u) (by simpa using hu) fun h' st' sb=> ?_
  have I1:Inv X pins σ H { s with heap:=h' }:=I.turned (t':=s.toks) (fun b o hb e=>(sb.2 b hb).trans e) f0 f1 f3 f4 f5
  obtain ⟨o,e,c,d⟩:=id st'
  exact ⟨u,rfl,Zk8 (s:={ s with heap:=h' }) e c d (by decide) ⟨x,H,I1,ru,⟨rfl,fun ys hy=>by rw[I.list_inj hy hq];exact hx⟩,st',fun b hb=>(hf b hb).1⟩⟩
 done:=by
  intro X hP hw hK hB i pins s σ H E I hf st hg
  subst hP hw hK
  obtain ⟨xs,hq,hx⟩:=hg
  obtain ⟨its,rv,p,hz⟩:=I.list hq
  obtain ⟨f0,f1,f2,f3,f4,f5⟩:=hf it (by simp)
  have hl:=rv.length
  exact DQ.Zjq I.qh st p.isList (by simp;omega) fun h' eb=>⟨rfl,I.turned (t':=s.toks) (fun b o hb e=>eb b o hb e) f0 f1 f3 f4 f5⟩
 self:=fun _ _ _ _ _ st h=>wpAny_pyIter_listiter st h
theorem ZgY {P:Program} {w:World} {K:PySem.W.Frag} {B:Around} {tg:Expr} (a it:Addr):Turn P w K B tg (Itt K a) [it] it (fun i h=>h.IsTupleIter it a i) where
 mem:=by simp
 obj:=fun i h st b hb=>by
  have e:b=it:=by simpa using hb
  subst e
  obtain ⟨o,e,c,d⟩:=st
  exact ⟨o,e,fun v z=>by rw[d] at z;cases z⟩
 keep:=fun i h h' st k=>st.at fun o e=>k it (by simp) o e
 item:=by
  intro X hP hw hK hB i pins s σ H E I hf st hg
  subst hP hw hK
  obtain ⟨xs,x,hq,hx⟩:=hg
  obtain ⟨its,rv,p,hz⟩:=I.tuple hq
  obtain ⟨u,hu,ru⟩:=rv.get hx
  obtain ⟨f0,f1,f2,f3,f4,f5⟩:=hf it (by simp)
  refine wpAny_pyNext_tuple_item st (show s.heap.IsTuple a its.toArray from p) (x:=u) (by simpa using hu) fun h' st' sb=> ?_
  have I1:Inv X pins σ H { s with heap:=h' }:=I.turned (t':=s.toks) (fun b o hb e=>(sb.2 b hb).trans e) f0 f1 f3 f4 f5
  obtain ⟨o,e,c,d⟩:=id st'
  exact ⟨u,rfl,Zk8 (s:={ s with heap:=h' }) e c d (by decide) ⟨x,H,I1,ru,⟨rfl,fun ys hy=>by rw[I.tuple_inj hy hq];exact hx⟩,st',fun b hb=>(hf b hb).1⟩⟩
 done:=by
  intro X hP hw hK hB i pins s σ H E I hf st hg
  subst hP hw hK
  obtain ⟨xs,hq,hx⟩:=hg
  obtain ⟨its,rv,p,hz⟩:=I.tuple hq
  obtain ⟨f0,f1,f2,f3,f4,f5⟩:=hf it (by simp)
  have hl:=rv.length
  exact DQ.ZhH I.qh st (show s.heap.IsTuple a its.toArray from p) (by simp;omega) fun h' eb=>⟨rfl,I.turned (t':=s.toks) (fun b o hb e=>eb b o hb e) f0 f1 f3 f4 f5⟩
 self:=fun _ _ _ _ _ st h=>wpAny_pyIter_tupleiter st h
theorem ZgZ {P:Program} {w:World} {K:PySem.W.Frag} {B:Around} {tg:Expr} (it:Addr) (lo:Int) (n:Nat):Turn P w K B tg (Itr lo n) [it] it (fun i h=>IsRangeIter h it (lo + (i:Nat) * 1) ((n:Int) - (i:Nat)) 1) where
 mem:=by simp
 obj:=fun i h st b hb=>by
  have e:b=it:=by simpa using hb
  subst e
  exact ⟨_,st,fun v z=>by
   have z':Data.fields _=Data.cell v:=z
   cases z'⟩
 keep:=fun i h h' st k=>k it (by simp) _ st
 item:=by
  intro X hP hw hK hB i pins s σ H E I hf st hg
  subst hP hw hK
  obtain ⟨f0,f1,f2,f3,f4,f5⟩:=hf it (by simp)
  have hlt:i < n:=hg
  refine wpAny_pyNext_range_item st (by omega) fun h' st' sb=> ?_
  have I1:Inv X pins σ H { s with heap:=h',toks:=s.toks + 1 }:=I.turned (fun b o hb e=>(sb.2 b hb).trans e) f0 f1 f3 f4 f5
  have st2:IsRangeIter h' it (lo + ((i + 1:Nat):Int) * 1) ((n:Int) - ((i + 1:Nat):Int)) 1:=by
   have e1:lo + ((i + 1:Nat):Int) * 1=lo + (i:Nat) * 1 + 1:=by omega
   have e2:(n:Int) - ((i + 1:Nat):Int)=(n:Int) - (i:Nat) - 1:=by omega
   rw[e1,e2]
   exact st'
  refine ⟨_,rfl,Zk8 (s:={ s with heap:=h',toks:=s.toks + 1 }) (n:="range_iterator") st2 rfl rfl (by decide) ⟨.int (lo + i),H,I1,⟨s.toks,?_⟩,⟨rfl,rfl⟩,st2,fun b hb=>(hf b hb).1⟩⟩
  rw[Int.mul_one]
 done:=by
  intro X hP hw hK hB i pins s σ H E I hf st hg
  subst hP hw hK
  obtain ⟨f0,f1,f2,f3,f4,f5⟩:=hf it (by simp)
  exact DQ.ZhG I.qh st (by have:n<=i:=hg;omega) fun h' eb=>⟨rfl,I.turned (t':=s.toks) (fun b o hb e=>eb b o hb e) f0 f1 f3 f4 f5⟩
 self:=fun _ _ _ _ _ st h=>wpAny_pyIter_rangeiter st h
end L2
namespace L2
open PySem PySem.Spec PyProof.Rows
section
variable {X:Cx} {tg:Expr}
theorem Zgr {pins:List (Addr × Obj)} {σ:St} {H:Hp} {s:Shared} {R:It->Hp->Prop} {E:Value->Shared->Prop} {lo hi:Int} {t u v:Tok} {tk:Nat} (I:Inv X pins σ H s) (h1: -(2 ^ 62)<=lo) (h2:lo < 2 ^ 62) (h3: -(2 ^ 62)<=hi) (h4:hi < 2 ^ 62)
  (q:R (Itr lo (hi - lo).toNat) H):wpAny (model X.prog X.w) X.A (pyIter (.ref s.heap.objs.size)) (PIE X pins σ tg R) E { s with heap:=s.heap.push { cls:= .type "range",data:= .fields #[.int lo t,.int hi u,.int 1 v] },toks:=tk }:=by
 refine wpAny_pyIter_range (IsRange.new ..) (small_one h1 h2 h3 h4) ?_
 have I1:Inv X pins σ H { s with heap:=s.heap.push { cls:= .type "range",data:= .fields #[.int lo t,.int hi u,.int 1 v] },toks:=tk }:=I.kept fun b o e=>Heap.get?_push_of_some _ e
 refine ⟨(s.heap.push { cls:= .type "range",data:= .fields #[.int lo t,.int hi u,.int 1 v] }).objs.size,[(s.heap.push { cls:= .type "range",data:= .fields #[.int lo t,.int hi u,.int 1 v] }).objs.size],_,_,H,rfl,
  I1.kept (t':=tk) fun b o e=>Heap.get?_push_of_some _ e,ZgZ _ lo (hi - lo).toNat,?_,fun b hb=> ?_,q⟩
 ·have e1:lo + ((0:Nat):Int) * 1=lo:=by simp
  have e2:(((hi - lo).toNat:Nat):Int) - ((0:Nat):Int)=Builtin.Range.rangeSize lo hi 1:=by rw[rangeSize_one];split<;>omega
  show IsRangeIter _ _ (lo + ((0:Nat):Int) * 1) ((((hi - lo).toNat:Nat):Int) - ((0:Nat):Int)) 1
  rw[e1,e2]
  exact Heap.get?_push_size _ rfl
 ·have e:b=(s.heap.push { cls:= .type "range",data:= .fields #[.int lo t,.int hi u,.int 1 v] }).objs.size:=by simpa using hb
  subst e
  exact I1.fpOk (Nat.le_refl _) (I1.hok.fresh (Nat.le_refl _))
noncomputable def Zp1 (ta:TA):TI:=fun σ H R=>ta σ H fun vs H1=> ∃ j:Int,vs=[.int j]/\ -(2 ^ 62)<=j/\j < 2 ^ 62/\R (Itr 0 j.toNat) H1
noncomputable def Zp2 (ta:TA):TI:=fun σ H R=>ta σ H fun vs H1=> ∃ i j:Int,vs=[.int i,.int j]/\(-(2 ^ 62)<=i/\i < 2 ^ 62/\ -(2 ^ 62)<=j/\j < 2 ^ 62)/\R (Itr i (j - i).toNat) H1
theorem ZeQ {a:Expr} {ta:TA} {p pos:Pos} (hg:Gl X "range") (hm:X.mg "range"=none) (ha:PA X [a] ta) (hs:starEach [a] X.env=[(false,eval a X.env)]:=by rfl):PI X tg (.Call (.Name "range" p) [a] [] pos) (Zp1 ta):=by
 intro pins s σ H R I h
 refine Call_ (Zc5 I hg hm boot_range (PyProof.Rows.callWith_type1 (thn (ha pos pins s σ H _ I h) fun us s1 ⟨vs,H1,I1,r1,q1⟩=> ?_) hs rfl))
 obtain ⟨j,e,q1,q2,q⟩:=q1
 subst e
 cases r1 with
 |cons r rr=>
  cases rr
  obtain ⟨t,rfl⟩:=r
  exact call_range_1 (Zgr I1 (by omega) (by omega) q1 q2 (by simpa using q))
theorem ZeR {a b:Expr} {ta:TA} {p pos:Pos} (hg:Gl X "range") (hm:X.mg "range"=none) (ha:PA X [a,b] ta) (hs:starEach [a,b] X.env=[(false,eval a X.env),(false,eval b X.env)]:=by rfl) (hs2:starEach [b] X.env=[(false,eval b X.env)]:=by rfl):
  PI X tg (.Call (.Name "range" p) [a,b] [] pos) (Zp2 ta):=by
 intro pins s σ H R I h
 refine Call_ (Zc5 I hg hm boot_range (PyProof.Rows.callWith_type1 (thn (ha pos pins s σ H _ I h) fun us s1 ⟨vs,H1,I1,r1,q1⟩=> ?_) (by rw[hs,hs2]) (by rw[hs2];rfl)))
 obtain ⟨i,j,e,⟨q1,q2,q3,q4⟩,q⟩:=q1
 subst e
 cases r1 with
 |cons r rr=>
  cases rr with
  |cons r' rr=>
   cases rr
   obtain ⟨t,rfl⟩:=r
   obtain ⟨t',rfl⟩:=r'
   exact call_range_2 (Zgr I1 q1 q2 q3 q4 q)
noncomputable def Ztd (wi:TI) (g:TG) (tb:TS):TS:=fun D σ H=>wi σ H fun J H1=> ∃ W:Nat->Nat->St->Hp->Prop,(∃ m,W 0 m σ H1)/\ ∀ i m σ H,W i m σ H->
 (J.stop i H/\D.nx σ H)\/(J.go i H/\ ∃ N:St->Hp->Prop,(∀ σ' H',N σ' H'-> ∃ m',m' < m/\W (i + 1) m' σ' H')/\ ∀ x H',J.yld i H x H'->g x σ H' fun σ2 H2=>tb { D with nx:=N,ct:=N,bk:=D.nx } σ2 H2)
noncomputable def Zcc (fp:List Addr) (h:Heap):List (Addr × Obj):=fp.filterMap fun b=>(h.get? b).map fun o=>(b,o)
theorem ZaS {fp:List Addr} {h:Heap} {b:Addr} {o:Obj} (hb:b∈fp) (e:h.get? b=some o):(b,o)∈Zcc fp h:=List.mem_filterMap.mpr ⟨b,hb,by rw[e];rfl⟩
theorem ZhQ {fp:List Addr} {h:Heap} {p:Addr × Obj} (hp:p∈Zcc fp h):p.1∈fp/\h.get? p.1=some p.2:=by
 obtain ⟨b,hb,e⟩:=List.mem_filterMap.mp hp
 cases q:h.get? b with
 |none=>rw[q] at e;cases e
 |some o=>
  rw[q] at e
  have e':(b,o)=p:=Option.some.inj e
  subst e'
  exact ⟨hb,q⟩
theorem Inv.pinned {pins:List (Addr × Obj)} {σ:St} {H:Hp} {s:Shared} {fp:List Addr} (I:Inv X pins σ H s) (hf: ∀ b∈fp,ZdS X pins H b) (ho: ∀ b∈fp,∃ o,s.heap.get? b=some o/\ ∀ v,o.data≠ .cell v):Inv X (pins ++ Zcc fp s.heap) σ H s:=
 I.pins_of fun p hp=>(List.mem_append.mp hp).elim (fun z=>I.pin p (List.mem_append_right _ z)) fun z=>by
  obtain ⟨hb,e⟩:=ZhQ z
  obtain ⟨f0,f1,f2,_⟩:=hf p.1 hb
  obtain ⟨o,e',d⟩:=ho p.1 hb
  rw[e] at e';cases e'
  exact ⟨e,f0,f1,f2,d⟩
theorem Inv.unpinned {pins pl:List (Addr × Obj)} {σ:St} {H:Hp} {s:Shared} (I:Inv X (pins ++ pl) σ H s):Inv X pins σ H s:=I.pins_of fun p hp=>I.pin p (List.mem_append_right _ (List.mem_append_left _ hp))
theorem Zgs {iter:Expr} {body:List Stmt} {wi:TI} {g:TG} {tb:TS} {pos:Pos} (hp:PassesOwn (model X.prog X.w) X.A X.env X.xe) (hi:PI X tg iter wi) (hg:PG X tg g) (hb:PSs X body tb)
  (hs: ∀ x,foldedSetIterable iter X.env x=pure x:=by intro _;rfl):PS X (.For tg iter body [] pos) (Ztd wi g tb):=by
 intro pins s σ H D I h
 refine wpAny_For (thn (hi pins s σ H _ I h) fun v s1 h1=>thn h1 fun itv s2 h2=> ?_) hs
 obtain ⟨it,fp,tn,J,H2,e,I2,T,st2,f2,W,⟨m0,w0⟩,turn⟩:=h2
 subst e
 have stat: ∀ {H':Hp},(∀ b∈fp,H' b=none)-> ∀ b∈fp,ZdS X pins H' b:=fun hn b hb=>⟨hn b hb,(f2 b hb).2⟩
 refine codeAny_forLoop_any (fun n s'=> ∃ i σ' H',Inv X pins σ' H' s'/\tn i s'.heap/\(∀ b∈fp,H' b=none)/\W i n σ' H') ?_ m0 ⟨0,σ,H2,I2,st2,fun b hb=>(f2 b hb).1,w0⟩
 rintro n s3 ⟨i,σ3,H3,I3,st3,fr3,w3⟩
 rcases turn i n σ3 H3 w3 with ⟨stop,qn⟩ | ⟨go,N,hN,step⟩
 ·refine wpAny_passesOwn hp (thn (T.done X rfl rfl rfl rfl i pins s3 σ3 H3 X.xe I3 (stat fr3) st3 stop) fun r s4 ⟨hr,I4⟩=> ?_)
  subst hr
  exact wpAny_execs_nil ⟨σ3,H3,I4,qn⟩
 ·refine wpAny_passesOwn hp (thn (T.item X rfl rfl rfl rfl i pins s3 σ3 H3 X.xe I3 (stat fr3) st3 go) fun r s4 ⟨u,hr,h4⟩=> ?_)
  subst hr
  refine wpAny_passesOwn hp (thn h4 fun _ s5 ⟨x,H5,I5,r5,y5,st5,fr5⟩=> ?_)
  have I5':=I5.pinned (stat fr5) (T.obj _ _ st5)
  refine wpAny_passesOwn hp (thn (hg _ s5 σ3 H5 x u _ I5' r5 (step x H5 y5)) fun _ s6 ⟨σ6,H6,I6,q6⟩=> ?_)
  refine wpAny_passesOwn hp (thn (hb _ s6 σ6 H6 _ I6 q6) fun f s7 q7=> ?_)
  have again: ∀ {σ7:St} {H7:Hp},Inv X (pins ++ Zcc fp s5.heap) σ7 H7 s7->N σ7 H7-> ∃ m,m < n/\ ∃ i σ' H',Inv X pins σ' H' s7/\tn i s7.heap/\(∀ b∈fp,H' b=none)/\W i m σ' H':=fun {σ7 H7} I7 n7=>by
   obtain ⟨m',hm,w7⟩:=hN σ7 H7 n7
   refine ⟨m',hm,i + 1,σ7,H7,I7.unpinned,T.keep _ _ _ st5 fun b hb o e=>(I7.pin (b,o) (List.mem_append_right _ (List.mem_append_right _ (ZaS hb e)))).1,fun b hb=> ?_,w7⟩
   obtain ⟨o,e,d⟩:=T.obj _ _ st5 b hb
   exact (I7.pin (b,o) (List.mem_append_right _ (List.mem_append_right _ (ZaS hb e)))).2.1
  cases f with
  |next=>obtain ⟨σ7,H7,I7,n7⟩:=q7;exact again I7 n7
  |cont=>obtain ⟨σ7,H7,I7,n7⟩:=q7;exact again I7 n7
  |brk=>obtain ⟨σ7,H7,I7,q7⟩:=q7;exact ⟨σ7,H7,I7.unpinned,q7⟩
  |ret v=>obtain ⟨x7,σ7,H7,I7,r7,q7⟩:=q7;exact ⟨x7,σ7,H7,I7.unpinned,r7,q7⟩
end
theorem Zjy {K:PySem.W.Frag} {a:Addr} {xs:List V} {g:TG} {tb:TS} {D:Ends} {σ:St} {H:Hp} (Pv:Nat->St->Hp->Prop) (h0:Pv 0 σ H) (hl: ∀ i σ H,i<=xs.length->Pv i σ H->SqL K H a xs)
  (hs: ∀ i x σ H,xs[i]?=some x->Pv i σ H->g x σ H fun σ2 H2=>tb { D with nx:=Pv (i + 1),ct:=Pv (i + 1),bk:=D.nx } σ2 H2) (hd: ∀ σ H,Pv xs.length σ H->D.nx σ H):
  ∃ W:Nat->Nat->St->Hp->Prop,(∃ m,W 0 m σ H)/\ ∀ i m σ H,W i m σ H->
   ((Itl K a).stop i H/\D.nx σ H)\/((Itl K a).go i H/\ ∃ N:St->Hp->Prop,(∀ σ' H',N σ' H'-> ∃ m',m' < m/\W (i + 1) m' σ' H')/\ ∀ x H',(Itl K a).yld i H x H'->g x σ H' fun σ2 H2=>tb { D with nx:=N,ct:=N,bk:=D.nx } σ2 H2):=by
 refine ⟨fun i m σ H=>m=xs.length - i/\i<=xs.length/\Pv i σ H,⟨xs.length,by simp,Nat.zero_le _,h0⟩,?_⟩
 rintro i m σ H ⟨rfl,hi,p⟩
 have q:=hl i σ H hi p
 by_cases hlt:i < xs.length
 ·refine .inr ⟨⟨xs,xs[i],q,by simp[hlt]⟩,Pv (i + 1),fun σ' H' p'=>⟨xs.length - (i + 1),by omega,rfl,hlt,p'⟩,fun x H' y=> ?_⟩
  obtain ⟨e,y⟩:=y
  subst e
  exact hs i x σ _ (y xs q) p
 ·have e:i=xs.length:=by omega
  subst e
  exact .inl ⟨⟨xs,q,Nat.le_refl _⟩,hd σ H p⟩
theorem Zk9 {K:PySem.W.Frag} {a:Addr} {xs:List V} {g:TG} {tb:TS} {D:Ends} {σ:St} {H:Hp} (Pv:Nat->St->Hp->Prop) (h0:Pv 0 σ H) (hl: ∀ i σ H,i<=xs.length->Pv i σ H->SqT K H a xs)
  (hs: ∀ i x σ H,xs[i]?=some x->Pv i σ H->g x σ H fun σ2 H2=>tb { D with nx:=Pv (i + 1),ct:=Pv (i + 1),bk:=D.nx } σ2 H2) (hd: ∀ σ H,Pv xs.length σ H->D.nx σ H):
  ∃ W:Nat->Nat->St->Hp->Prop,(∃ m,W 0 m σ H)/\ ∀ i m σ H,W i m σ H->
   ((Itt K a).stop i H/\D.nx σ H)\/((Itt K a).go i H/\ ∃ N:St->Hp->Prop,(∀ σ' H',N σ' H'-> ∃ m',m' < m/\W (i + 1) m' σ' H')/\ ∀ x H',(Itt K a).yld i H x H'->g x σ H' fun σ2 H2=>tb { D with nx:=N,ct:=N,bk:=D.nx } σ2 H2):=by
 refine ⟨fun i m σ H=>m=xs.length - i/\i<=xs.length/\Pv i σ H,⟨xs.length,by simp,Nat.zero_le _,h0⟩,?_⟩
 rintro i m σ H ⟨rfl,hi,p⟩
 have q:=hl i σ H hi p
 by_cases hlt:i < xs.length
 ·refine .inr ⟨⟨xs,xs[i],q,by simp[hlt]⟩,Pv (i + 1),fun σ' H' p'=>⟨xs.length - (i + 1),by omega,rfl,hlt,p'⟩,fun x H' y=> ?_⟩
  obtain ⟨e,y⟩:=y
  subst e
  exact hs i x σ _ (y xs q) p
 ·have e:i=xs.length:=by omega
  subst e
  exact .inl ⟨⟨xs,q,Nat.le_refl _⟩,hd σ H p⟩
theorem ZhR {lo:Int} {n:Nat} {g:TG} {tb:TS} {D:Ends} {σ:St} {H:Hp} (Pv:Nat->St->Hp->Prop) (h0:Pv 0 σ H)
  (hs: ∀ i σ H,i < n->Pv i σ H->g (.int (lo + i)) σ H fun σ2 H2=>tb { D with nx:=Pv (i + 1),ct:=Pv (i + 1),bk:=D.nx } σ2 H2) (hd: ∀ σ H,Pv n σ H->D.nx σ H):
  ∃ W:Nat->Nat->St->Hp->Prop,(∃ m,W 0 m σ H)/\ ∀ i m σ H,W i m σ H->
   ((Itr lo n).stop i H/\D.nx σ H)\/((Itr lo n).go i H/\ ∃ N:St->Hp->Prop,(∀ σ' H',N σ' H'-> ∃ m',m' < m/\W (i + 1) m' σ' H')/\ ∀ x H',(Itr lo n).yld i H x H'->g x σ H' fun σ2 H2=>tb { D with nx:=N,ct:=N,bk:=D.nx } σ2 H2):=by
 refine ⟨fun i m σ H=>m=n - i/\i<=n/\Pv i σ H,⟨n,by simp,Nat.zero_le _,h0⟩,?_⟩
 rintro i m σ H ⟨rfl,hi,p⟩
 by_cases hlt:i < n
 ·refine .inr ⟨hlt,Pv (i + 1),fun σ' H' p'=>⟨n - (i + 1),by omega,rfl,hlt,p'⟩,fun x H' y=> ?_⟩
  obtain ⟨e,y⟩:=y
  subst e y
  exact hs i σ _ hlt p
 ·have e:i=n:=by omega
  subst e
  exact .inl ⟨Nat.le_refl _,hd σ H p⟩
end L2
namespace L2
open PySem PySem.Spec PyProof.Rows
noncomputable abbrev R2:=V->V->Hp->VK->Prop
noncomputable def OpR (X:Cx) (f:Value->Value->Sem Value) (r:R2):Prop:=
 ∀ (pins:List (Addr × Obj)) (s:Shared) (σ:St) (H:Hp) (x y:V) (v u:Value) (Q:VK),Inv X pins σ H s->Z4 x v->Z4 y u->r x y H Q->
  wpAny (model X.prog X.w) X.A (f v u) (EP X pins σ Q) X.xe s
noncomputable def UnR (X:Cx) (f:Value->Sem Value) (r:V->Hp->VK->Prop):Prop:=
 ∀ (pins:List (Addr × Obj)) (s:Shared) (σ:St) (H:Hp) (x:V) (v:Value) (Q:VK),Inv X pins σ H s->Z4 x v->r x H Q->
  wpAny (model X.prog X.w) X.A (f v) (EP X pins σ Q) X.xe s
noncomputable def Zcd (X:Cx) (f:Value) (r:List V->Hp->VK->Prop):Prop:=
 ∀ (pins:List (Addr × Obj)) (s:Shared) (σ:St) (H:Hp) (xs:List V) (us:List Value) (Q:VK),Inv X pins σ H s->Z8 xs us->r xs H Q->
  wpAny (model X.prog X.w) X.A (call f us) (EP X pins σ Q) X.xe s
noncomputable def tOp (r:R2) (ta tb:TE):TE:=fun σ H Q=>ta σ H fun x H1=>tb σ H1 fun y H2=>r x y H2 Q
noncomputable def tUn (r:V->Hp->VK->Prop) (ta:TE):TE:=fun σ H Q=>ta σ H fun x H1=>r x H1 Q
noncomputable def rI (C:Int->Int->Prop) (g:Int->Int->V):R2:=fun x y H Q=> ∃ i j,x= .int i/\y= .int j/\C i j/\Q (g i j) H
noncomputable def rI0 (g:Int->Int->V):R2:=fun x y H Q=> ∃ i j,x= .int i/\y= .int j/\Q (g i j) H
noncomputable def rU (g:Int->V):V->Hp->VK->Prop:=fun x H Q=> ∃ i,x= .int i/\Q (g i) H
section
variable {X:Cx} {a b c:Expr} {ta tb tc:TE} {pos:Pos}
theorem Zp3 (ha:PE X a ta) (hb:PE X b tb) {pins:List (Addr × Obj)} {s:Shared} {σ:St} {H:Hp} {R:V->V->Hp->Prop} (I:Inv X pins σ H s)
  (h:ta σ H fun x H1=>tb σ H1 fun y H2=>R x y H2) {Q:Value->Shared->Prop} {f:Value->Value->Sem Value}
  (hf: ∀ v u s2 x y H2,Inv X pins σ H2 s2->Z4 x v->Z4 y u->R x y H2->wpAny (model X.prog X.w) X.A (f v u) Q X.xe s2):
  wpAny (model X.prog X.w) X.A (eval a X.env) (fun v s₁=>wpAny (model X.prog X.w) X.A (eval b X.env) (fun u s₂=>wpAny (model X.prog X.w) X.A (f v u) Q X.xe s₂) X.xe s₁) X.xe s:=by
 refine thn (ha pins s σ H _ I h) fun v s1 ⟨x,H1,I1,r1,q1⟩=> ?_
 refine thn (hb pins s1 σ H1 _ I1 q1) fun u s2 ⟨y,H2,I2,r2,q2⟩=> ?_
 exact hf v u s2 x y H2 I2 r1 r2 q2
theorem Zp4 {op:Operator} {r:R2} (ho:OpR X (binaryOp op) r) (ha:PE X a ta) (hb:PE X b tb):PE X (.BinOp a op b pos) (tOp r ta tb):=by
 intro pins s σ H Q I h
 exact wpAny_BinOp (Zp3 ha hb I h fun v u s2 x y H2 I2 rx ry q=>ho pins s2 σ H2 x y v u Q I2 rx ry q)
theorem ZmY {op:UnaryOp} {r:V->Hp->VK->Prop} (ho:UnR X (unaryOp op) r) (ha:PE X a ta):PE X (.UnaryOp op a pos) (tUn r ta):=by
 intro pins s σ H Q I h
 exact UnaryOp_ (thn (ha pins s σ H _ I h) fun v s1 ⟨x,H1,I1,r1,q1⟩=>ho pins s1 σ H1 x v Q I1 r1 q1)
theorem opI {f:Value->Value->Sem Value} {C:Int->Int->Prop} {g:Int->Int->Int}
  (rule: ∀ (i j:Int) (t u:Tok) (s:Shared) (Q:Value->Shared->Prop) (E:Value->Shared->Prop),C i j->Q (.int (g i j) s.toks) { s with toks:=s.toks + 1 }->wpAny (model X.prog X.w) X.A (f (.int i t) (.int j u)) Q E s):
  OpR X f (rI C fun i j=> .int (g i j)):=by
 intro pins s σ H x y v u Q I rx ry h
 obtain ⟨i,j,rfl,rfl,hc,q⟩:=h
 obtain ⟨t,rfl⟩:=rx
 obtain ⟨t',rfl⟩:=ry
 exact rule i j t t' s _ _ hc ⟨.int (g i j),H,I.tok _,⟨_,rfl⟩,q⟩
theorem ZrY {f:Value->Value->Sem Value} {g:Int->Int->Int}
  (rule: ∀ (i j:Int) (t u:Tok) (s:Shared) (Q:Value->Shared->Prop) (E:Value->Shared->Prop),Q (.int (g i j) s.toks) { s with toks:=s.toks + 1 }->wpAny (model X.prog X.w) X.A (f (.int i t) (.int j u)) Q E s):
  OpR X f (rI0 fun i j=> .int (g i j)):=by
 intro pins s σ H x y v u Q I rx ry h
 obtain ⟨i,j,rfl,rfl,q⟩:=h
 obtain ⟨t,rfl⟩:=rx
 obtain ⟨t',rfl⟩:=ry
 exact rule i j t t' s _ _ ⟨.int (g i j),H,I.tok _,⟨_,rfl⟩,q⟩
theorem ZpJ {f:Value->Value->Sem Value} {g:Int->Int->Bool}
  (rule: ∀ (i j:Int) (t u:Tok) (s:Shared) (Q:Value->Shared->Prop) (E:Value->Shared->Prop),Q (.bool (g i j)) s->wpAny (model X.prog X.w) X.A (f (.int i t) (.int j u)) Q E s):
  OpR X f (rI0 fun i j=> .bl (g i j)):=by
 intro pins s σ H x y v u Q I rx ry h
 obtain ⟨i,j,rfl,rfl,q⟩:=h
 obtain ⟨t,rfl⟩:=rx
 obtain ⟨t',rfl⟩:=ry
 exact rule i j t t' s _ _ ⟨.bl (g i j),H,I,rfl,q⟩
noncomputable def ZrZ (i j:Int):Prop:=0<=j/\j<=1000000/\i.natAbs < 2 ^ 64
theorem ZmZ:OpR X (binaryOp .Add) (rI0 fun i j=> .int (i + j)):=ZrY fun _ _ _ _ _ _ _ q=>add_int q
theorem Zm0:OpR X (binaryOp .Sub) (rI0 fun i j=> .int (i - j)):=ZrY fun _ _ _ _ _ _ _ q=>sub_int q
theorem Zla:OpR X (binaryOp .Mod) (rI (fun _ j=>j≠0) fun i j=> .int (i.fmod j)):=opI fun _ _ _ _ _ _ _ hc q=>mod_int' hc q
theorem Zm1:OpR X (binaryOp .Pow) (rI ZrZ fun i j=> .int (i ^ j.toNat)):=opI fun _ _ _ _ _ _ _ hc q=>pow_int_small hc.1 hc.2.1 hc.2.2 q
theorem unI {f:Value->Sem Value} {g:Int->Int}
  (rule: ∀ (i:Int) (t:Tok) (s:Shared) (Q:Value->Shared->Prop) (E:Value->Shared->Prop),Q (.int (g i) s.toks) { s with toks:=s.toks + 1 }->wpAny (model X.prog X.w) X.A (f (.int i t)) Q E s):
  UnR X f (rU fun i=> .int (g i)):=by
 intro pins s σ H x v Q I rx h
 obtain ⟨i,rfl,q⟩:=h
 obtain ⟨t,rfl⟩:=rx
 exact rule i t s _ _ ⟨.int (g i),H,I.tok _,⟨_,rfl⟩,q⟩
theorem Zku:UnR X (unaryOp .USub) (rU fun i=> .int (-i)):=unI fun _ _ _ _ _ q=>neg_int q
end
section
variable {X:Cx} {a b c:Expr} {ta tb tc:TE} {pos:Pos}
theorem ZcM:OpR X (compareOp .Lt) (rI0 fun i j=> .bl (decide (i < j))):=ZpJ fun _ _ _ _ _ _ _ q=>lt_int q
theorem Zg0:OpR X (compareOp .LtE) (rI0 fun i j=> .bl (decide (i<=j))):=ZpJ fun _ _ _ _ _ _ _ q=>le_int q
theorem ZcN:OpR X (compareOp .Gt) (rI0 fun i j=> .bl (decide (j < i))):=ZpJ fun _ _ _ _ _ _ _ q=>gt_int q
theorem Zp5:OpR X (compareOp .GtE) (rI0 fun i j=> .bl (decide (j<=i))):=ZpJ fun _ _ _ _ _ _ _ q=>ge_int q
theorem OpR.or {f:Value->Value->Sem Value} {r r':R2} (h:OpR X f r) (h':OpR X f r'):OpR X f (fun x y H Q=>r x y H Q\/r' x y H Q):=by
 intro pins s σ H x y v u Q I rx ry q
 rcases q with q | q
 ·exact h pins s σ H x y v u Q I rx ry q
 ·exact h' pins s σ H x y v u Q I rx ry q
theorem Zkv (b:Expr) {op:CmpOp} (h:op≠ .In:=by decide) (h2:op≠ .NotIn:=by decide):behindInMarks op b=false:=by
 have e1:(op == CmpOp.In)=false:=by cases op<;>first | rfl | exact absurd rfl h
 have e2:(op == CmpOp.NotIn)=false:=by cases op<;>first | rfl | exact absurd rfl h2
 cases b<;>simp[behindInMarks,e1,e2]
theorem Zlb {op:CmpOp} {r:R2} (ho:OpR X (compareOp op) r) (ha:PE X a ta) (hb:PE X b tb) (hm:behindInMarks op b=false):PE X (.Compare a [op] [b] pos) (tOp r ta tb):=by
 intro pins s σ H Q I h
 exact wpAny_Compare1 (Zp3 ha hb I h fun v u s2 x y H2 I2 rx ry q=>ho pins s2 σ H2 x y v u Q I2 rx ry q) hm
noncomputable def Zm2 (t:TE):TT:=fun σ H Q=>t σ H fun x H'=> ∃ k,x= .bl k/\Q k H'
theorem Zlc {op:CmpOp} {r:R2} (ho:OpR X (compareOp op) r) (ha:PE X a ta) (hb:PE X b tb) (hm:behindInMarks op b=false):PT X (.Compare a [op] [b] pos) (Zm2 (tOp r ta tb)):=by
 intro pins s σ H Q I h
 refine wpAny_isTrue_Compare1 (thn (ha pins s σ H _ I h) fun v s1 ⟨x,H1,I1,r1,q1⟩=>thn (hb pins s1 σ H1 _ I1 q1) fun u s2 ⟨y,H2,I2,r2,q2⟩=>
  thn (ho pins s2 σ H2 x y v u _ I2 r1 r2 q2) fun c s3 ⟨z,H3,I3,r3,k,e,q3⟩=> ?_) hm
 subst e
 cases r3
 exact wpAny_truthy_bool ⟨H3,I3,q3⟩
theorem Zgt:(sizeLine:Nat) < 2 ^ 63:=by rw[sizeLine_eq];decide
theorem Zg1:OpR X (binaryOp .Add) (fun x y H Q=> ∃ i j,x= .str i/\y= .str j/\i.length + j.length<=sizeLine/\Q (.str (i ++ j)) H):=by
 intro pins s σ H x y v u Q I rx ry h
 obtain ⟨i,j,rfl,rfl,hz,q⟩:=h
 obtain ⟨t,rfl⟩:=rx
 obtain ⟨t',rfl⟩:=ry
 exact add_str (fun t' tk=>⟨.str (i ++ j),H,I.tok _,⟨_,rfl⟩,q⟩) hz
theorem ZdH {x:V} {us:List Value} (r:Z8 [x] us): ∃ u,us=[u]/\Z4 x u:=by
 cases r with
 |cons r1 r2=>cases r2;exact ⟨_,rfl,r1⟩
theorem ZhS {x y:V} {us:List Value} (r:Z8 [x,y] us): ∃ u w',us=[u,w']/\Z4 x u/\Z4 y w':=by
 cases r with
 |cons r1 r2=>
  cases r2 with
  |cons r3 r4=>cases r4;exact ⟨_,_,rfl,r1,r3⟩
theorem Zbv:Zcd X (.builtin "abs") (fun xs H Q=> ∃ i,xs=[.int i]/\Q (.int (if i < 0 then -i else i)) H):=by
 intro pins s σ H xs us Q I r h
 obtain ⟨i,rfl,q⟩:=h
 obtain ⟨u,rfl,t,rfl⟩:=ZdH r
 exact call_abs_int fun u tk=>⟨.int (if i < 0 then -i else i),H,I.tok _,⟨_,rfl⟩,q⟩
theorem ZhT (hc:X.calm=true):Zcd X (.builtin "max") (fun xs H Q=> ∃ i j,xs=[.int i,.int j]/\Q (.int (if j > i then j else i)) H):=by
 intro pins s σ H xs us Q I r h
 obtain ⟨i,j,rfl,q⟩:=h
 obtain ⟨u,w',rfl,⟨t,rfl⟩,⟨t',rfl⟩⟩:=ZhS r
 refine max_two_ints (I.ok.hd hc) fun h' tk k=>⟨_,H,I.kept k,?_,q⟩
 by_cases hj:j > i
 ·rw[if_pos hj,if_pos hj];exact ⟨_,rfl⟩
 ·rw[if_neg hj,if_neg hj];exact ⟨_,rfl⟩
theorem ZhU (hc:X.calm=true):Zcd X (.builtin "min") (fun xs H Q=> ∃ i j,xs=[.int i,.int j]/\Q (.int (if j < i then j else i)) H):=by
 intro pins s σ H xs us Q I r h
 obtain ⟨i,j,rfl,q⟩:=h
 obtain ⟨u,w',rfl,⟨t,rfl⟩,⟨t',rfl⟩⟩:=ZhS r
 refine min_two_ints (I.ok.hd hc) fun h' tk k=>⟨_,H,I.kept k,?_,q⟩
 by_cases hj:j < i
 ·rw[if_pos hj,if_pos hj];exact ⟨_,rfl⟩
 ·rw[if_neg hj,if_neg hj];exact ⟨_,rfl⟩
end
end L2
namespace L2
open PySem PySem.Spec PyProof.Rows
section
variable {prog:Program} {w:World} {A:Around} {E:Value->Shared->Prop} {s:Shared} {K:PySem.W.Frag} {x dx C f:Addr} {mA:Str->Option Value} {name:Str} {v:Value}
end
section
variable {P:Program} {w:World} {H H':Hp} {h h':Heap} {a C dx:Addr} {fs fs':List (Str × V)}
end
section
variable {X:Cx} {pins:List (Addr × Obj)} {σ:St} {H:Hp} {s:Shared} {a C dx:Addr} {fs:List (Str × V)} {f:Str} {v:V} {A:Around} {E:Value->Shared->Prop}
end
section
variable {X:Cx} {o e value:Expr} {f:Str} {pos pos' tpos:Pos} {ta tv:TE}
end
section
variable {X:Cx} {pins:List (Addr × Obj)} {σ:St} {H:Hp} {s:Shared} {A:Around} {E:Value->Shared->Prop} {Q:Value->Shared->Prop} {c:Value} {b:Bool}
end
end L2
namespace L2
open PySem PySem.Spec PyProof.Rows
structure Room (k:Nat) (A:Around):Prop where
 hd:100<=k->A.handled=none
 gd:A.guards=some []
 dp:A.depth + 3 * k + 5 < recursionLimit
 un:A.units + 16 * k + 200 < cLine
theorem Room.mono {j k:Nat} {A:Around} (r:Room k A) (h:j<=k):Room j A:=⟨fun z=>r.hd (Nat.le_trans z h),r.gd,by have:=r.dp;omega,by have:=r.un;omega⟩
theorem Room.deeper {k:Nat} {A:Around} (r:Room (k + 1) A) (env:Env):Room k (A.deeper env):=
 ⟨fun z=>r.hd (Nat.le_succ_of_le z),r.gd,by have:=r.dp;show A.depth + 1 + 3 * k + 5 < _;omega,by have:=r.un;show A.units + 3 + 16 * k + 200 < _;omega⟩
theorem Room.depth {k:Nat} {A:Around} (r:Room k A):A.depth < recursionLimit:=by have:=r.dp;omega
theorem Room.units {k:Nat} {A:Around} (r:Room k A):A.units + 64 < cLine:=by have:=r.un;omega
noncomputable def tNil:TA:=fun _ H Q=>Q [] H
noncomputable def Zp6 (ta:TE) (tr:TA):TA:=fun σ H Q=>ta σ H fun x H1=>tr σ H1 fun xs H2=>Q (x :: xs) H2
section
variable {X:Cx} {e:Expr} {es:List Expr} {te:TE} {t:TA} {pos:Pos}
theorem ZhV:PA X [] tNil:=fun _ _ _ _ H Q I h=>Calls.spliced_nil ⟨[],H,I,.nil,h⟩
theorem Zc6 (ha:PE X e te) (hr:PA X es t) (hs:starEach (e :: es) X.env=(false,eval e X.env) :: starEach es X.env:=by rfl):PA X (e :: es) (Zp6 te t):=by
 intro pos pins s σ H Q I h
 rw[hs]
 show wpAny _ _ (spliced ((false,eval e X.env) :: backTo pos (starEach es X.env))) _ _ s
 refine Calls.spliced_cons (thn (ha pins s σ H _ I h) fun u s1 ⟨x,H1,I1,r1,q1⟩=> ?_)
 exact thn (hr pos pins s1 σ H1 _ I1 q1) fun us s2 ⟨xs,H2,I2,r2,q2⟩=>⟨x :: xs,H2,I2,.cons r1 r2,q2⟩
noncomputable def Zte (t:TA):TE:=fun σ H Q=>t σ H fun xs H1=>xs.length<=sizeLine/\ ∀ p,H1 p=none->Q (.ref p) (upd H1 p (.tup xs))
noncomputable def Ztf (t:TA):TE:=fun σ H Q=>t σ H fun xs H1=>xs.length<=sizeLine/\ ∀ p,H1 p=none->Q (.ref p) (upd H1 p (.lst xs))
theorem Zm3 {x1} (h:PA X es t):PE X (.Tuple es x1 pos) (Zte t):=by
 intro pins s σ H Q I hq
 refine wpAny_Tuple_spliced (thn (h pos pins s σ H _ I hq) fun us s1 ⟨xs,H1,I1,r,z,q⟩=>⟨by rw[<- r.length];exact z,?_⟩)
 have hf:H1 s1.heap.objs.size=none:=I1.hok.fresh (Nat.le_refl _)
 refine ⟨.ref s1.heap.objs.size,upd H1 s1.heap.objs.size (.tup xs),I1.laid (t':=s1.toks) (fun b u e=>Heap.get?_push_of_some _ e) (Nat.le_refl _) ?_,rfl,q _ hf⟩
 exact ⟨z,us,r,⟨_,Heap.get?_push_size _ rfl,rfl,_,rfl⟩⟩
theorem Zm4 (h:PA X es t):PE X (.List es pos) (Ztf t):=by
 intro pins s σ H Q I hq
 refine wpAny_List_spliced (thn (h pos pins s σ H _ I hq) fun us s1 ⟨xs,H1,I1,r,z,q⟩=>⟨by rw[<- r.length];exact z,?_⟩)
 have hf:H1 s1.heap.objs.size=none:=I1.hok.fresh (Nat.le_refl _)
 refine ⟨.ref s1.heap.objs.size,upd H1 s1.heap.objs.size (.lst xs),I1.laid (t':=s1.toks) (fun b u e=>Heap.get?_push_of_some _ e) (Nat.le_refl _) ?_,rfl,q _ hf⟩
 exact ⟨z,us,0,r,Heap.get?_push_size _ rfl⟩
end
noncomputable abbrev Sp:=List V->Hp->VK->XK->Prop
noncomputable abbrev CXT:=List Env->Hp->Shared->XK->Value->Shared->Prop
structure Env0 (P:Program) (w:World) (K:PySem.W.Frag) (mg:Str->Option Value) (base:Heap) (A:Around) (outer:List Env) (s:Shared) (H:Hp):Prop where
 frames:A.frames=some outer
 mod:Mod K mg base
 bs: ∀ b o,base.get? b=some o->s.heap.get? b=some o/\H b=none
 bsz:base.objs.size<=s.heap.objs.size
 funs:s.heap.FunFrames base outer
 frf: ∀ b∈frs outer,H b=none
 hok:HOk P w H s.heap
 bare:AllBare s.gens
 qd:Qd A H
noncomputable def CE (outer:List Env) (P:Program) (w:World) (H:Hp) (s:Shared) (Q:VK) (u:Value) (s':Shared):Prop:=
 ∃ v H',s'.os=s.os/\AllBare s'.gens/\Un (frs outer) [] H H' s.heap s'.heap/\HOk P w H' s'.heap/\Z4 v u/\Q v H'
noncomputable def CR (CX:CXT) (outer:List Env) (P:Program) (w:World) (H:Hp) (s:Shared) (Q:VK) (E:XK) (r:Result) (s':Shared):Prop:=
 match r with
 | .ok (.ret u)=>CE outer P w H s Q u s'
 | .ok _=>False
 | .error e=>CX outer H s E e s'
structure FnOk (P:Program) (w:World) (K:PySem.W.Frag) (mg:Str->Option Value) (base:Heap) (CX:CXT) (k:Nat) (f:Addr) (fd:FuncData) (ps:List Str) (sp:Sp):Prop where
 len: ∀ vs H Q E,sp vs H Q E->vs.length=ps.length
 run: ∀ (A:Around) (outer:List Env) (s:Shared) (H:Hp) (args:Args) (us:List Value) (vs:List V) (Q:VK) (E:XK),Room k A->Env0 P w K mg base A outer s H->BindsTo s fd args (ps.zip us)->Z8 vs us->sp vs H Q E->
  codeAny (model P w) A (.call (.ref f) args) (CR CX outer P w H s Q E) s
section
variable {X:Cx} {pins:List (Addr × Obj)} {σ:St} {H:Hp} {s s':Shared}
theorem Inv.env0 (I:Inv X pins σ H s):Env0 X.prog X.w X.K X.mg X.base X.A X.stack s H:=
 ⟨I.ok.frames,I.ok.mod,I.bs,Nat.le_trans I.ok.bsz I.sz,I.stack,I.stkFree,I.hok,I.bare,I.qd⟩
theorem Inv.after {Q:VK} {u:Value} (I:Inv X pins σ H s) (h:CE X.stack X.prog X.w H s Q u s'):EP X pins σ Q u s':=by
 obtain ⟨v,H',os,bare,un,hok,r,q⟩:=h
 obtain ⟨hh,g,d,t,os'⟩:=s'
 obtain rfl:os'=s.os:=os
 exact ⟨v,H',I.call (h':=hh) (g':=g) (d':=d) (t':=t) (ch:=[]) un hok bare (fun b z=>absurd z (by simp)),r,q⟩
end
noncomputable def Zp7 (sp:Sp) (dvs:List V) (E:XK) (t:TA):TE:=fun σ H Q=>t σ H fun vs H1=>sp (vs ++ dvs) H1 Q E
noncomputable def ZfL (K:PySem.W.Frag) (fd:FuncData) (ps:List Str) (ds:List Value):Prop:=
 ∀ (s:Shared) (us:List Value),K.In s.heap->(us ++ ds).length=ps.length->BindsTo s fd ⟨us,[]⟩ (ps.zip (us ++ ds))
theorem ZfL.all {K:PySem.W.Frag} {fd:FuncData} {ps:List Str} (h: ∀ us:List Value,us.length=ps.length->bindArgs fd ⟨us,[]⟩=pure (ps.zip us)):ZfL K fd ps []:=fun s us _ hl=>by
 rw[List.append_nil] at hl ⊢
 exact .of_eq (h us hl)
noncomputable def ZhW (CX:CXT) (X:Cx) (E:XK):Prop:= ∀ (pins:List (Addr × Obj)) (σ:St) (H:Hp) (s:Shared) (e:Value) (s':Shared),Inv X pins σ H s->CX X.stack H s E e s'->X.xe e s'
section
variable {X:Cx} {CX:CXT} {k:Nat} {f C:Addr} {fd:FuncData} {ps:List Str} {sp:Sp} {dvs:List V} {ds:List Value} {E:XK} {x m:Str} {p pos apos:Pos} {e o:Expr} {es:List Expr} {ta:TE} {t:TA}
theorem Zm5 {pins:List (Addr × Obj)} {σ:St} {H:Hp} {s:Shared} {Q:VK} {us:List Value} {vs:List V} (F:FnOk X.prog X.w X.K X.mg X.base CX k f fd ps sp) (hr:Room k X.A) (hb:ZfL X.K fd ps ds) (hd:Z8 dvs ds) (hx:ZhW CX X E)
  (I:Inv X pins σ H s) (r:Z8 vs us) (h:sp (vs ++ dvs) H Q E):wpAny (model X.prog X.w) X.A (call (.ref f) us) (EP X pins σ Q) X.xe s:=by
 have r2:Z8 (vs ++ dvs) (us ++ ds):=r.append hd
 have hl:(us ++ ds).length=ps.length:=by rw[<- r2.length];exact F.len _ _ _ _ h
 refine wpAny_call (codeAny_mono (F.run X.A X.stack s H ⟨us,[]⟩ (us ++ ds) (vs ++ dvs) Q E hr I.env0 (hb s us I.kIn hl) r2 h) fun r s' hq=> ?_)
 cases r with
 |error e=>exact hx pins σ H s e s' I hq
 |ok fl=>
  cases fl with
  |ret u=>exact I.after hq
  |next=>exact False.elim hq
  |brk=>exact False.elim hq
  |cont=>exact False.elim hq
theorem Zld (F:FnOk X.prog X.w X.K X.mg X.base CX k f fd ps sp) (hr:Room k X.A) (hg:Gl X x) (hm:X.mg x=some (.ref f)) (hk:PySem.W.keepIn X.K (.ref f)=true) (hb:ZfL X.K fd ps ds) (hd:Z8 dvs ds) (hx:ZhW CX X E)
  (ha:PA X (e :: es) t) (hdb:(x == ("__debug__":Str))=false:=by decide) (he:starEach (e :: es) X.env=(false,eval e X.env) :: starEach es X.env:=by rfl) (hpl:(backTo pos (starEach es X.env)).any (·.1)=false:=by rfl):
  PE X (.Call (.Name x p) (e :: es) [] pos) (Zp7 sp dvs E t):=by
 intro pins s σ H Q I h
 refine wpAny_Call_Name_kw (ZfK I hg hm ?_ hdb)
 refine PySem.W.callWith_K (h₀:=X.base) I.ok.mod.kin hk (thn (ha pos pins s σ H _ I h) fun us s1 ⟨vs,H1,I1,r,q⟩=>⟨I1.kIn,?_⟩) he hpl
 exact Zm5 F hr hb hd hx I1 r q
end
section
variable {X:Cx} {CX:CXT} {k:Nat} {f C:Addr} {fd:FuncData} {ps ks:List Str} {sp:Sp} {E:XK} {x m:Str} {p pos apos kpos:Pos} {e o:Expr} {es:List Expr} {kws:List Keyword} {te ta:TE} {t tk:TA} {nm:Option Str}
variable {g:List Value->List Value->List Value} {gV:List V->List V->List V}
end
structure FnScope (N P:List Str) (sc:Scope):Prop where
 kind:sc.kind= .function
 co:sc.isCoroutine=false
 gen:sc.isGenerator=false
 nd:N.Nodup
 pre:N.take P.length=P
 par: ∀ x∈P,sc.names.lookup x=some .local\/sc.names.lookup x=some .cell
 nofree: ∀ y∈sc.names,y.2≠ .free
theorem ZeS {kindOf:Str->Option NameKind} {x:Str}: ∀ {binds:List (Str × Value)} {m:Str->Option Value},(∀ v,(x,v) ∉ binds)->bindL kindOf binds m x=m x
 | [],_,_=>rfl
 | (n,v) :: r,m,h=>by
  unfold bindL
  rw[ZeS fun w hw=>h w (List.mem_cons_of_mem _ hw)]
  split
  ·have:x≠n:=by rintro rfl;exact h v List.mem_cons_self
   simp[this]
  ·rfl
theorem ZeT {kindOf:Str->Option NameKind} {x:Str}: ∀ {binds:List (Str × Value)} {m:Str->Option Value},(∀ v,(x,v) ∉ binds)->bindC kindOf binds m x=m x
 | [],_,_=>rfl
 | (n,v) :: r,m,h=>by
  unfold bindC
  rw[ZeT fun w hw=>h w (List.mem_cons_of_mem _ hw)]
  split
  ·rfl
  ·have:x≠n:=by rintro rfl;exact h v List.mem_cons_self
   simp[this]
theorem ZeU {kindOf:Str->Option NameKind} {x:Str} {v:Value}: ∀ {P:List Str} {vs:List Value} {i:Nat} {m:Str->Option Value},P.Nodup->P[i]?=some x->vs[i]?=some v->kindOf x=some .local->
  bindL kindOf (P.zip vs) m x=some v
 | [],_,_,_,_,h,_,_=>by simp at h
 |_ :: _,[],_,_,_,_,h,_=>by simp at h
 |p :: P,w :: vs,0,m,nd,h1,h2,hk=>by
  simp at h1 h2;subst h1;subst h2
  show bindL kindOf ((p,w) :: P.zip vs) m p=_
  unfold bindL
  rw[ZeS fun v hv=>(List.nodup_cons.mp nd).1 (List.of_mem_zip hv).1,if_pos hk]
  simp
 |p :: P,w :: vs,i + 1,m,nd,h1,h2,hk=>by
  show bindL kindOf ((p,w) :: P.zip vs) m x=_
  unfold bindL
  exact ZeU (i:=i) (List.nodup_cons.mp nd).2 (by simpa using h1) (by simpa using h2) hk
theorem ZeV {kindOf:Str->Option NameKind} {x:Str} {v:Value}: ∀ {P:List Str} {vs:List Value} {i:Nat} {m:Str->Option Value},P.Nodup->P[i]?=some x->vs[i]?=some v->kindOf x≠some .local->
  bindC kindOf (P.zip vs) m x=some v
 | [],_,_,_,_,h,_,_=>by simp at h
 |_ :: _,[],_,_,_,_,h,_=>by simp at h
 |p :: P,w :: vs,0,m,nd,h1,h2,hk=>by
  simp at h1 h2;subst h1;subst h2
  show bindC kindOf ((p,w) :: P.zip vs) m p=_
  unfold bindC
  rw[ZeT fun v hv=>(List.nodup_cons.mp nd).1 (List.of_mem_zip hv).1,if_neg hk]
  simp
 |p :: P,w :: vs,i + 1,m,nd,h1,h2,hk=>by
  show bindC kindOf ((p,w) :: P.zip vs) m x=_
  unfold bindC
  exact ZeV (i:=i) (List.nodup_cons.mp nd).2 (by simpa using h1) (by simpa using h2) hk
noncomputable def start (N:List Str) (vs:List V):St:=vs.map some ++ List.replicate (N.length - vs.length) none
noncomputable def ZfF (CX:CXT) (P:Program) (w:World) (K:PySem.W.Frag) (mg:Str->Option Value) (base:Heap) (N:List Str) (qual:Str) (scope:Scope) (f:Addr) (cd:Value) (A:Around) (outer:List Env) (s:Shared) (H:Hp) (E:XK):Cx where
 prog:=P
 w:=w
 K:=K
 mg:=mg
 base:=base
 A:=A.deeper (envOfC qual scope s.heap.objs.size f cd)
 N:=N
 s₀:=s
 H₀:=H
 env:=envOfC qual scope s.heap.objs.size f cd
 outer:=outer
 stack:=envOfC qual scope s.heap.objs.size f cd :: outer
 ex:=[]
 calm:=A.handled.isNone
 fxs:=none
 fn:=fun _=>true
 pn:=[]
 xe:=fun e s'=>wpAny (model P w) (A.deeper (envOfC qual scope s.heap.objs.size f cd)) (leaving (envOfC qual scope s.heap.objs.size f cd) e) (fun _ s''=>CX outer H s E e s'') (fun e' s''=>CX outer H s E e' s'') s'
theorem Zgu {sc:Scope} {n:Nat} {x:Str} (h:sc.names.lookup x=some .cell): ∃ c,(cellsFrom n sc.names []).lookup x=some c:=by
 have q:=PySem.W.cellsFrom_some sc.names n [] (.inl h)
 exact Option.isSome_iff_exists.mp q
theorem ZhX {CX:CXT} {P:Program} {w:World} {K:PySem.W.Frag} {mg:Str->Option Value} {base:Heap} {N ps:List Str} {qual:Str} {scope:Scope} {f:Addr} {cd:Value} {A:Around} {outer:List Env} {s s1:Shared} {H:Hp} {E:XK} {us:List Value} {vs:List V}
  (S:FnScope N ps scope) (e0:Env0 P w K mg base A outer s H) (hl:vs.length=ps.length) (r:Z8 vs us)
  (x:InCallC s s.heap.objs.size (bindL (envOfC qual scope s.heap.objs.size f cd).kindOf (ps.zip us) fun _=>none) (cellsFrom (s.heap.objs.size + 1) scope.names []) (bindC (envOfC qual scope s.heap.objs.size f cd).kindOf (ps.zip us) fun _=>none) s1):
  Inv (ZfF CX P w K mg base N qual scope f cd A outer s H E) [] (start N vs) H s1:=by
 have hpl:ps.length<=N.length:=by have:=congrArg List.length S.pre;rw[List.length_take] at this;omega
 obtain ⟨h1,tk,rfl,hk⟩:=x.done
 have noA: ∀ b:Addr,b ∉ (ZfF CX P w K mg base N qual scope f cd A outer s H E).ex:=fun b z=>absurd (show b∈([]:List Addr) from z) (by simp)
 refine ⟨⟨e0.mod,S.kind,rfl,rfl,Nat.le_refl _,fun y z c h1 h2=> ?_,fun y hy=> ?_,fun y c _ h=> ?_,fun z=>Option.isNone_iff_eq_none.mp z,Around.frames_deeper e0.frames,.inr ⟨rfl,rfl⟩,fun b z=>absurd z (noA b),e0.bs,e0.bsz,fun b _ _=>noA b,fun b z=>absurd z (noA b),e0.funs,e0.frf⟩,
  rfl,e0.bare,Un.kept hk,⟨_,x.toInCall.ns,fun i y v h1 h2 h3=> ?_⟩,fun y c h=>⟨_,x.cell y c h⟩,e0.hok.fresh (Nat.le_refl _),fun y c h=> ?_,fun p hp=>absurd (show p∈([]:List (Addr × Obj)) from hp) (by simp),e0.hok.kept hk,?_,e0.qd,.free rfl⟩
 ·exact name_of_addr x.apart (PySem.mem_of_lookup h1) (PySem.mem_of_lookup h2)
 ·have hy:scope.names.lookup y=some .cell\/scope.names.lookup y=some .free:=hy
  rcases hy with hy | hy
  ·exact Zgu hy
  ·exact absurd rfl (S.nofree _ (PySem.mem_of_lookup hy))
 ·exact Nat.le_of_lt (x.above y c (PySem.mem_of_lookup h))
 ·have hi:i < vs.length:=by
   unfold start at h2
   by_cases hi:i < vs.length
   ·exact hi
   ·rw[List.getElem?_append_right (by simpa using hi)] at h2
    rw[List.getElem?_replicate] at h2
    split at h2<;>cases h2
  have ha:vs[i]?=some v:=by
   unfold start at h2
   rw[List.getElem?_append_left (by simpa using hi),List.getElem?_map] at h2
   cases e:vs[i]? with
   |none=>rw[e] at h2;cases h2
   |some a=>rw[e] at h2;cases h2;rfl
  obtain ⟨u,hu,rv⟩:=r.get ha
  have hp:ps[i]?=some y:=by
   rw[<- S.pre,List.getElem?_take_of_lt (by omega)];exact h1
  have ndP:ps.Nodup:=by rw[<- S.pre];exact S.nd.sublist (List.take_sublist _ _)
  refine ⟨u,rv,?_⟩
  rcases S.par y (List.mem_of_getElem? hp) with k | k
  ·exact .inl ⟨k,ZeU ndP hp hu k⟩
  ·obtain ⟨c,e⟩:=Zgu (n:=s.heap.objs.size + 1) k
   refine .inr ⟨.inl k,c,e,?_⟩
   have q:=x.cell y c e
   rw[ZeV ndP hp hu (by show scope.names.lookup y≠_;rw[k];decide)] at q
   exact q
 ·exact e0.hok.fresh (Nat.le_of_lt (x.above y c (PySem.mem_of_lookup h)))
 ·unfold start
  show _=N.length
  rw[List.length_append,List.length_map,List.length_replicate]
  omega
theorem Zp8 {CX:CXT} {P:Program} {w:World} {K:PySem.W.Frag} {mg:Str->Option Value} {base:Heap} {k:Nat} {f:Addr} {name qual:Str} {params:Arguments} {body:List Stmt} {scope:Scope} {dV kV doc pm cdv ct oc:Value} {an od:Option Addr}
  {osl:Array (Option Value)} {N ps:List Str} {sp:Sp} (lk:K.lookup f=some ⟨oc,od,.func (PySem.W.fnOf name qual params body scope dV kV doc pm an cdv ct),osl⟩) (hcd:PySem.W.codeIn K cdv qual=true) (S:FnScope N ps scope)
  (len: ∀ vs H Q E,sp vs H Q E->vs.length=ps.length)
  (hbody: ∀ (A:Around) (outer:List Env) (s:Shared) (H:Hp) (vs:List V) (Q:VK) (E:XK),Room k (A.deeper (envOfC qual scope s.heap.objs.size f cdv))->sp vs H Q E->
   ∃ t,PSs (ZfF CX P w K mg base N qual scope f cdv A outer s H E) body t/\t { nx:=fun _ H'=>Q .non H',rt:=Q } (start N vs) H):
  FnOk P w K mg base CX (k + 1) f (PySem.W.fnOf name qual params body scope dV kV doc pm an cdv ct) ps sp:=by
 refine ⟨len,fun A outer s H args us vs Q E hr e0 hb r hsp=> ?_⟩
 have hl:=len _ _ _ _ hsp
 have KX:K.In s.heap:=e0.mod.kin.keeps fun b o e=>(e0.bs b o e).1
 have lim:s.heap.NoLimit:=e0.mod.nolimit.keeps fun b o e=>(e0.bs b o e).1
 have hkind: ∀ y∈ps.zip us,scope.names.lookup y.1=some .local\/(scope.names.lookup y.1=some .cell/\((cellsFrom (s.heap.objs.size + 1) scope.names []).lookup y.1).isSome=true):=fun ⟨n,v⟩ hy=>by
  rcases S.par n (List.of_mem_zip hy).1 with q | q
  ·exact .inl q
  ·exact .inr ⟨q,PySem.W.cellsFrom_some _ _ _ (.inl q)⟩
 refine codeAny_call_function hr.depth (KX _ _ lk) rfl S.co S.gen rfl (PySem.W.codeRec_of KX hcd) (hb _ _ _ _ ?_)
 refine wpAny_newFunctionEnv_cells S.kind hkind fun env he s1 x=> ?_
 subst he
 refine ⟨lim.keeps x.toInCall.keep,codeAny_func ?_⟩
 obtain ⟨t,ht,hq⟩:=hbody A outer s H vs Q E (hr.deeper _) hsp
 have I:Inv (ZfF CX P w K mg base N qual scope f cdv A outer s H E) [] (start N vs) H s1:=ZhX S e0 hl r x
 refine wpAny_mono (ht [] s1 (start N vs) H _ I hq) (fun fl s' hs=> ?_) fun e s' hs=>hs
 have fin: ∀ {σ':St} {H':Hp} {v:V} {u:Value},Inv (ZfF CX P w K mg base N qual scope f cdv A outer s H E) [] σ' H' s'->Z4 v u->Q v H'->CE outer P w H s Q u s':=
  fun {σ' H' v u} J rv q=>⟨v,H',J.os,J.bare,J.base,J.hok,rv,q⟩
 cases fl with
 |ret u=>
  obtain ⟨v,σ',H',J,rv,q⟩:=hs
  exact fin J rv q
 |next=>
  obtain ⟨σ',H',J,q⟩:=hs
  exact fin (v:=V.non) (u:=Value.none) J rfl q
 |brk=>
  obtain ⟨_,_,_,q⟩:=hs
  exact False.elim q
 |cont=>
  obtain ⟨_,_,_,q⟩:=hs
  exact False.elim q
end L2
namespace L2
open PySem PySem.Spec PyProof.Rows
section
variable {X:Cx} {x:Str} {p pos:Pos} {e:Expr} {es:List Expr} {t:TA} {id T:String} {r:List V->Hp->VK->Prop}
noncomputable def tCB (r:List V->Hp->VK->Prop) (t:TA):TE:=fun σ H Q=>t σ H fun vs H1=>r vs H1 Q
theorem Zd9 (hc:Zcd X (.builtin id) r) (hg:Gl X x) (hm:X.mg x=none) (hv:bootBuiltins x=some (.builtin id)) (ha:PA X (e :: es) t) (hn:x≠"__name__":=by decide) (hdb:(x == ("__debug__":Str))=false:=by decide)
  (he:starEach (e :: es) X.env=(false,eval e X.env) :: starEach es X.env:=by rfl) (hpl:(backTo pos (starEach es X.env)).any (·.1)=false:=by rfl):PE X (.Call (.Name x p) (e :: es) [] pos) (tCB r t):=by
 intro pins s σ H Q I h
 refine wpAny_Call_Name_kw (Zc5 I hg hm hv ?_ hn hdb)
 exact PyProof.Rows.callWith_builtin1 (thn (ha pos pins s σ H _ I h) fun us s1 ⟨vs,H1,I1,r1,q1⟩=>hc pins s1 σ H1 vs us Q I1 r1 q1) he hpl
theorem ZhY (hc:Zcd X (.type T) r) (hg:Gl X x) (hm:X.mg x=none) (hv:bootBuiltins x=some (.type T)) (ha:PA X (e :: es) t) (hn:x≠"__name__":=by decide) (hdb:(x == ("__debug__":Str))=false:=by decide)
  (he:starEach (e :: es) X.env=(false,eval e X.env) :: starEach es X.env:=by rfl) (hpl:(backTo pos (starEach es X.env)).any (·.1)=false:=by rfl):PE X (.Call (.Name x p) (e :: es) [] pos) (tCB r t):=by
 intro pins s σ H Q I h
 refine wpAny_Call_Name_kw (Zc5 I hg hm hv ?_ hn hdb)
 exact PyProof.Rows.callWith_type1 (thn (ha pos pins s σ H _ I h) fun us s1 ⟨vs,H1,I1,r1,q1⟩=>hc pins s1 σ H1 vs us Q I1 r1 q1) he hpl
end
end L2
namespace HT
open PySem PyProof.Rows
noncomputable def Zce:List Int->List Int->Bool
 | [],[]=>false
 | [],_ :: _=>true
 |_ :: _,[]=>false
 |x :: xs,y :: ys=>if x=y then Zce xs ys else decide (x < y)
theorem Zg2 (x y:Int) (xs ys:List Int):Zce (x :: xs) (y :: ys)=if x=y then Zce xs ys else decide (x < y):=rfl
theorem Zea:Zce [] []=false:=rfl
theorem ZdI (y:Int) (ys:List Int):Zce [] (y :: ys)=true:=rfl
theorem ZdJ (x:Int) (xs:List Int):Zce (x :: xs) []=false:=rfl
theorem Zjz (A:Around) (s:Shared) (a:Int) (t:Tok) (c:Int) (u:Tok): ∃ e,SeqAt.EqAt A s (.int a t) (.int c u) e/\(e=true ↔ a=c):=
 ⟨(a == c),SeqAt.EqAt.int_int a t c u,by simp⟩
theorem ZjA (A:Around) (s:Shared) (a:Int) (t:Tok) (c:Int) (u:Tok) (prog:Program) (w:World) (E:Value->Shared->Prop) (Q:Value->Shared->Prop) (h:Q (.bool (decide (a < c))) s):
  wpAny (model prog w) A (richCompare .Lt (.int a t) (.int c u)) Q E s:=
 (PyProof.Rows.lt_int h:wpAny (model prog w) A (compareOp .Lt (.int a t) (.int c u)) Q E s)
section
open PySem.SeqAt
open PySem.AutoSeq1 (wpAny_loadPart')
open PySem.MeetsSeq PySem.MeetsSeq2 PySem.MeetsSeq3
theorem Zeb (l b:Addr) (items items2:Array Value) (n n2:Nat) (dd dd2:Option Addr) (sl sl2:Array (Option Value)) (ns ms:List Int) (hi:IntsAre items.toList ns) (hj:IntsAre items2.toList ms):
  Meets (Builtin.«tuple.__lt__» ⟨[.ref l,.ref b],[]⟩)
   (fun _ R s=>s.heap.get? l=some { cls:= .type "tuple",dict:=dd,data:= .seq items n,slots:=sl }/\s.heap.get? b=some { cls:= .type "tuple",dict:=dd2,data:= .seq items2 n2,slots:=sl2 }/\
    R (.ok (.ret (.bool (Zce ns ms)))) s):=
 .of_wp fun prog w A R s h=>by
  obtain ⟨hp,g,d,tk,os⟩:=s;obtain ⟨hl,hb,h⟩:=h
  have f2:=AutoSeq1.sub_tuple_tuple
  have z1:items.size=ns.length:=by rw[<- hi.length];simp
  have z2:items2.size=ms.length:=by rw[<- hj.length];simp
  wp_walk using wpAny_loadPart' hl,wpAny_loadPart' hb,wpAny_forIn_list _ (fun rest b s'=>b.1=none/\s'=⟨hp,g,d,tk,os⟩/\ ∃ (vs ws:List Value) (ns' ms':List Int),rest=vs.zip ws/\
   IntsAre vs ns'/\IntsAre ws ms'/\ns'.length + items2.size=ms'.length + items.size/\R (.ok (.ret (.bool (Zce ns' ms')))) ⟨hp,g,d,tk,os⟩) _
  case turn=>
   rintro ⟨y,x⟩ rest b s' ⟨hb',rfl,vs,ws,ns',ms',hz,hvi,hwi,hlen,hR⟩
   cases hvi with
   |nil=>rw[List.zip_nil_left] at hz;cases hz
   |cons a t hvi'=>
    cases hwi with
    |nil=>rw[List.zip_nil_right] at hz;cases hz
    |cons c u hwi'=>
     rw[List.zip_cons_cons] at hz
     injection hz with hyx hrest
     injection hyx with hy hx
     subst hy hx
     rw[Zg2] at hR
     simp only[List.length_cons] at hlen
     obtain ⟨e,he,hiff⟩:=Zjz A.in1 ⟨hp,g,d,tk,os⟩ a t c u
     refine wpAny_bind (he prog w _ _ ?_)
     cases e with
     |true=>
      rw[if_pos (hiff.mp rfl)] at hR
      wp_walk
      exact ⟨rfl,rfl,_,_,_,_,hrest,hvi',hwi',by omega,hR⟩
     |false=>
      rw[if_neg (fun q=>absurd (hiff.mpr q) Bool.false_ne_true)] at hR
      have hri:=ZjA A.in1 ⟨hp,g,d,tk,os⟩ a t c u prog w
      wp_walk using hri
      exact ⟨_,rfl,by simpa using hR⟩
  case fin=>
   rintro ⟨b1,b2⟩ s' ⟨hb',rfl,vs,ws,ns',ms',hz,hvi,hwi,hlen,hR⟩
   simp only at hb'
   subst hb'
   have hv:Zce ns' ms'=decide (items.size < items2.size):=by
    cases hvi with
    |nil=>
     cases hwi with
     |nil=>
      simp only[List.length_nil] at hlen
      rw[Zea]
      exact (decide_eq_false (by omega)).symm
     |cons c u hw=>
      simp only[List.length_nil,List.length_cons] at hlen
      rw[ZdI]
      exact (decide_eq_true (by omega)).symm
    |cons a t hv=>
     cases hwi with
     |nil=>
      simp only[List.length_nil,List.length_cons] at hlen
      rw[ZdJ]
      exact (decide_eq_false (by omega)).symm
     |cons c u hw=>
      rw[List.zip_cons_cons] at hz
      cases hz
   rw[hv] at hR
   wp_walk
   exact ⟨_,rfl,by simpa [Builtin.Tuple.tupleCompareSizes] using hR⟩
  case h=>
   exact ⟨rfl,rfl,items.toList,items2.toList,ns,ms,rfl,hi,hj,by omega,h⟩
end
section
variable {prog:Program} {w:World} {A:Around} {E:Value->Shared->Prop} {s:Shared}
theorem Zg3 {l b:Addr} {items items2:Array Value} {ns ms:List Int} {Q:Value->Shared->Prop} (hl:IsTup s.heap l items) (hb:IsTup s.heap b items2) (hi:IntsAre items.toList ns) (hj:IntsAre items2.toList ms)
  (hu:A.units < cLine) (h:Q (.bool (Zce ns ms)) s):wpAny (model prog w) A (compareOp .Lt (.ref l) (.ref b)) Q E s:=by
 obtain ⟨⟨cls,dd,data,sl⟩,ho,hc,n,hd⟩:=id hl
 obtain ⟨⟨cls2,dd2,data2,sl2⟩,ho2,hc2,n2,hd2⟩:=id hb
 simp only at hc hd hc2 hd2
 subst hc hd hc2 hd2
 exact richCompare_meets_room (op:= .Lt) ⟨_,ho,rfl⟩ ⟨_,ho2,rfl⟩ PySem.F.slot_tuple_lt PySem.F.entry_tuple_lt (PySem.F.args_tuple_lt_2 _ _) (Zeb l b items items2 n n2 dd dd2 sl sl2 ns ms hi hj)
  ⟨ho,ho2,show Value.bool (Zce ns ms)≠Value.notImplemented/\Q (.bool (Zce ns ms)) s from ⟨(fun x=>nomatch x),h⟩⟩ hu
theorem Zle {t b:Addr} {vs ws:List Value} {Q:Value->Shared->Prop} (ht:IsTup s.heap t vs.toArray) (hb:IsTup s.heap b ws.toArray) (hv:vs≠[])
  (h1:ws=[]->Q (.ref t) s) (h2:ws≠[]->Q (.ref s.heap.objs.size) { s with heap:=s.heap.push { cls:= .type "tuple",data:= .seq (vs ++ ws).toArray } })
  (hsz:vs.length + ws.length<=sizeLine):wpAny (model prog w) A (binaryOp .Add (.ref t) (.ref b)) Q E s:=by
 obtain ⟨⟨cls,dd,data,sl⟩,ho,hc,n,hd⟩:=id ht
 obtain ⟨⟨cls2,dd2,data2,sl2⟩,ho2,hc2,n2,hd2⟩:=id hb
 simp only at hc hd hc2 hd2
 subst hc hd hc2 hd2
 have e:vs.toArray ++ ws.toArray=(vs ++ ws).toArray:=by simp
 by_cases hw:ws=[]
 ·exact concat_meets ⟨_,ho,rfl⟩ ⟨_,ho2,rfl⟩ noFill_tuple_add seq_tuple_add PySem.F.slot_tuple_add PySem.F.entry_tuple_add (PySem.F.args_tuple_add_2 _ _)
   (tuple_addW1 t b vs.toArray ws.toArray n n2 dd dd2 sl sl2 (by simpa using hv) (by simp[hw])) ⟨ho,ho2,h1 hw⟩
 ·refine concat_meets ⟨_,ho,rfl⟩ ⟨_,ho2,rfl⟩ noFill_tuple_add seq_tuple_add PySem.F.slot_tuple_add PySem.F.entry_tuple_add (PySem.F.args_tuple_add_2 _ _)
   (tuple_addW2 t b vs.toArray ws.toArray n n2 dd dd2 sl sl2 (by simpa using hv) (by simpa using hw) (by rw[List.size_toArray,List.size_toArray];exact hsz)) ⟨ho,ho2,?_⟩
  rw[e]
  exact h2 hw
noncomputable def sIx (n d:Nat):Option Int->Nat
 |none=>d
 |some v=>if v < 0 then (v + (n:Int)).toNat else min v.toNat n
theorem Zm6 (n d:Nat) (hd:d<=n) (o:Option Int):sIx n d o<=n:=by
 cases o with
 |none=>exact hd
 |some v=>
  show (if v < 0 then (v + (n:Int)).toNat else min v.toNat n)<=n
  by_cases hv:v < 0
  ·rw[if_pos hv];omega
  ·rw[if_neg hv];exact Nat.min_le_right _ _
theorem ZhZ (v:Int) (n d:Nat):(if v < 0 then max (v + (n:Int)) 0 else min v (n:Int))=((sIx n d (some v):Nat):Int):=by
 show (if v < 0 then max (v + (n:Int)) 0 else min v (n:Int))=(((if v < 0 then (v + (n:Int)).toNat else min v.toNat n):Nat):Int)
 by_cases hv:v < 0
 ·simp only[if_pos hv];omega
 ·simp only[if_neg hv];omega
theorem Zg4 (lo hi:Option Int) (n:Nat):Builtin.Slice.sliceAdjust lo hi 1 (n:Int)=(((sIx n 0 lo:Nat):Int),((sIx n n hi:Nat):Int)):=by
 have h1: ¬ ((1:Int) < 0):=by omega
 unfold Builtin.Slice.sliceAdjust
 simp only[h1,if_false]
 refine Prod.ext ?_ ?_
 ·cases lo with
  |none=>rfl
  |some v=>exact ZhZ v n 0
 ·cases hi with
  |none=>rfl
  |some v=>exact ZhZ v n n
theorem Zg5 (i j:Nat):Builtin.Slice.slicePlaces (i:Int) (j:Int) 1=j - i:=by
 unfold Builtin.Slice.slicePlaces
 have h1:(1:Int) > 0:=by omega
 simp only[h1,if_true,Int.ediv_one]
 split<;>omega
theorem ZdT {v:Value} {o:Option Int} {Q:Option Int->Shared->Prop} (p:IsPart v o) (h:Q o s):wpAny (model prog w) A (Builtin.Slice.slicePartIndex v) Q E s:=by
 cases p with
 |none=>exact slicePart_none h
 |int i t=>exact slicePart_int h
theorem ZcO {sl:Addr} {vl vu:Value} {lo hi:Option Int} {n:Nat} {Q:Int × Int × Nat->Shared->Prop} (hs:s.heap.IsSliceOf sl vl vu .none) (pl:IsPart vl lo) (pu:IsPart vu hi)
  (h:Q (((sIx n 0 lo:Nat):Int),1,sIx n n hi - sIx n 0 lo) s):wpAny (model prog w) A (Builtin.Slice.sliceApplied (.ref sl) (pure (n:Int))) Q E s:=by
 obtain ⟨os,hos,hcs,hds⟩:=id hs
 unfold Builtin.Slice.sliceApplied Builtin.Slice.sliceFields
 refine wpAny_bind (wpAny_bind (wpAny_field hos hds (x:=vl) rfl (wpAny_bind (wpAny_field hos hds (x:=vu) rfl (wpAny_bind (wpAny_field hos hds (x:= .none) rfl (wpAny_pure ?_)))))))
 refine wpAny_bind (slicePart_none ?_)
 show wpAny _ _ (if ((1:Int) == 0)=true then _ else _) _ _ s
 rw[if_neg (by decide)]
 refine wpAny_bind (ZdT pl (wpAny_bind (ZdT pu (wpAny_bind (wpAny_pure ?_)))))
 show wpAny _ _ (match Builtin.Slice.sliceAdjust lo hi 1 (n:Int) with | (lo,hi)=>pure (lo,(1:Int),Builtin.Slice.slicePlaces lo hi 1)) _ _ s
 rw[Zg4 lo hi n]
 show wpAny _ _ (pure (((sIx n 0 lo:Nat):Int),(1:Int),Builtin.Slice.slicePlaces ((sIx n 0 lo:Nat):Int) ((sIx n n hi:Nat):Int) 1)) _ _ s
 rw[Zg5]
 exact wpAny_pure h
theorem ZjB (xs:Array Value) (i k:Nat):((List.range k).filterMap fun (m:Nat)=>xs[((i:Int) + (m:Int) * 1).toNat]?).toArray=((xs.toList.drop i).take k).toArray:=by
 have e:(fun (m:Nat)=>xs[((i:Int) + (m:Int) * 1).toNat]?)=fun m=>xs[i + m]?:=by
  funext m
  have:((i:Int) + (m:Int) * 1).toNat=i + m:=by omega
  rw[this]
 rw[e]
 have:=pick_run xs i k
 rw[List.filterMap_map] at this
 have e2:((fun x=>xs[x]?) ∘ fun x=>i + x)=fun m=>xs[i + m]?:=rfl
 rw[e2] at this
 rw[this]
theorem Zcx {t sl:Addr} {items:Array Value} {vl vu:Value} {lo hi:Option Int} {Q:Value->Shared->Prop} (ht:IsTup s.heap t items) (hs:s.heap.IsSliceOf sl vl vu .none) (pl:IsPart vl lo) (pu:IsPart vu hi)
  (hw: ¬ (sIx items.size 0 lo=0/\sIx items.size items.size hi=items.size))
  (h:Q (.ref s.heap.objs.size) { s with heap:=s.heap.push { cls:= .type "tuple",data:= .seq ((items.toList.drop (sIx items.size 0 lo)).take (sIx items.size items.size hi - sIx items.size 0 lo)).toArray } })
  (hsz:items.size<=sizeLine):wpAny (model prog w) A (getItem (.ref t) (.ref sl)) Q E s:=by
 have htake:sizeOk (.seq ((items.toList.drop (sIx items.size 0 lo)).take (sIx items.size items.size hi - sIx items.size 0 lo)).toArray):=by
  show ((items.toList.drop (sIx items.size 0 lo)).take (sIx items.size items.size hi - sIx items.size 0 lo)).toArray.size<=sizeLine
  rw[List.size_toArray,List.length_take,List.length_drop,Array.length_toList]
  omega
 have hj:sIx items.size items.size hi<=items.size:=Zm6 _ _ (Nat.le_refl _) hi
 obtain ⟨os,hos,hcs,hds⟩:=id hs
 have hTs:s.TypeIs (.ref sl) "slice":=⟨os,hos,hcs⟩
 unfold getItem
 try with_reducible refine wpAny_holding ?_
 first | refine wpAny_bind (wpAny_pure ?_) | skip
 refine wpAny_bind (wpAny_sequenceKey ht.typeIs (by decide) ?_)
 refine wpAny_bind (wpAny_callSpecial?_slot (name:=Str.ofString "__getitem__") ht.typeIs PyProof.Rows.slot_tuple_getitem
  (wpAny_call_entry PyProof.Rows.slot_tuple_getitem ht.typeIs entry_tuple_getitem ?_ (args_tuple_getitem _ _)))
 show wpAny _ _ (Builtin.Tuple.tupleItemsOf (.ref t) >>= _) _ _ s
 refine wpAny_bind (tupleItemsOf_ ht ?_)
 refine wpAny_bind (wpAny_typeOf hTs ?_)
 rw[if_pos (by decide)]
 refine wpAny_bind (ZcO hs pl pu ?_)
 have hno: ¬ ((((sIx items.size 0 lo:Nat):Int) == 0 && (1:Int) == 1 && (sIx items.size items.size hi - sIx items.size 0 lo) == items.size)=true):=by
  intro q
  rw[Bool.and_eq_true,Bool.and_eq_true] at q
  have q1:((sIx items.size 0 lo:Nat):Int)=0:=eq_of_beq q.1.1
  have q2:sIx items.size items.size hi - sIx items.size 0 lo=items.size:=eq_of_beq q.2
  exact hw ⟨by omega,by omega⟩
 show wpAny _ _ (if (((sIx items.size 0 lo:Nat):Int) == 0 && (1:Int) == 1 && (sIx items.size items.size hi - sIx items.size 0 lo) == items.size)=true then _ else _) _ _ s
 rw[if_neg hno,ZjB]
 first
  |exact wpAny_bind (m:=Builtin.Tuple.tupleExact _) (wpAny_newObj_type (wpAny_pure ⟨_,rfl,wpAny_pure h⟩) htake)
  |exact wpAny_bind (m:=Builtin.Tuple.tupleExact _) (wpAny_newObj_type (wpAny_bind (wpAny_pure (wpAny_pure ⟨_,rfl,wpAny_pure h⟩))) htake)
  |exact wpAny_bind (wpAny_bind (m:=Builtin.Tuple.tupleExact _) (wpAny_newObj_type (wpAny_pure (wpAny_pure ⟨_,rfl,wpAny_pure h⟩)) htake))
  |exact wpAny_bind (wpAny_bind (m:=Builtin.Tuple.tupleExact _) (wpAny_newObj_type (wpAny_pure ⟨_,rfl,wpAny_pure h⟩) htake))
end
end HT
namespace L2
open PySem PySem.Spec PyProof.Rows
noncomputable abbrev TO:=St->Hp->(Option Int->Hp->Prop)->Prop
noncomputable def PO (X:Cx) (e:Option Expr) (t:TO):Prop:=
 ∀ (pins:List (Addr × Obj)) (s:Shared) (σ:St) (H:Hp) (Q:Option Int->Hp->Prop),Inv X pins σ H s->t σ H Q->
  wpAny (model X.prog X.w) X.A (evalPart e X.env) (fun u s'=> ∃ o H',Inv X pins σ H' s'/\IsPart u o/\Q o H') X.xe s
noncomputable def tNoPart:TO:=fun _ H Q=>Q none H
noncomputable def Zp9 (t:TE):TO:=fun σ H Q=>t σ H fun x H1=> ∃ i,x= .int i/\Q (some i) H1
theorem ZdU {ns:List Int}: ∀ {us:List Value},Z8 (ns.map V.int) us->IntsAre us ns:=by
 induction ns with
 |nil=>intro us r;rw[List.map_nil] at r;cases r;exact .nil
 |cons n ns ih=>
  intro us r
  rw[List.map_cons] at r
  cases r with
  |cons r1 r2=>
   obtain ⟨t,e⟩:=r1
   subst e
   exact .cons n t (ih r2)
section
variable {X:Cx} {e:Expr} {te:TE} {lo hi:Option Expr} {tl th:TO} {pos p2:Pos}
theorem Zlf:PO X none tNoPart:=by
 intro pins s σ H Q I h
 rw[evalPart_none]
 exact wpAny_pure ⟨none,H,I,.none,h⟩
theorem Zlg (h:PE X e te):PO X (some e) (Zp9 te):=by
 intro pins s σ H Q I hw
 rw[evalPart_some]
 refine thn (h pins s σ H _ I hw) fun u s1 ⟨x,H1,I1,r1,q1⟩=> ?_
 obtain ⟨i,rfl,q⟩:=q1
 obtain ⟨t,rfl⟩:=r1
 exact ⟨some i,H1,I1,.int i t,q⟩
noncomputable def SlR (X:Cx) (r:V->Option Int->Option Int->Hp->VK->Prop):Prop:=
 ∀ (pins:List (Addr × Obj)) (s:Shared) (σ:St) (H:Hp) (x:V) (v vl vu:Value) (lo hi:Option Int) (sl:Addr) (Q:VK),Inv X pins σ H s->Z4 x v->s.heap.IsSliceOf sl vl vu .none->IsPart vl lo->IsPart vu hi->r x lo hi H Q->
  ∃ T id,typeLookup (.type T) "__getitem__"=pure (some (.builtin id))/\s.TypeIs v T/\wpAny (model X.prog X.w) X.A (getItem v (.ref sl)) (EP X pins σ Q) X.xe s
theorem SlR.or {r r':V->Option Int->Option Int->Hp->VK->Prop} (h:SlR X r) (h':SlR X r'):SlR X (fun x lo hi H Q=>r x lo hi H Q\/r' x lo hi H Q):=by
 intro pins s σ H x v vl vu lo hi sl Q I rx hs pl pu q
 rcases q with q | q
 ·exact h pins s σ H x v vl vu lo hi sl Q I rx hs pl pu q
 ·exact h' pins s σ H x v vl vu lo hi sl Q I rx hs pl pu q
noncomputable def tSl (r:V->Option Int->Option Int->Hp->VK->Prop) (te:TE) (tl th:TO):TE:=fun σ H Q=>te σ H fun x H1=>tl σ H1 fun l H2=>th σ H2 fun u H3=>r x l u H3 Q
theorem ZjC {r:V->Option Int->Option Int->Hp->VK->Prop} (hr:SlR X r) (he:PE X e te) (hl:PO X lo tl) (hu:PO X hi th):PE X (.Subscript e (.Slice lo hi none p2) pos) (tSl r te tl th):=by
 intro pins s σ H Q I h
 refine Subscript_ (thn (he pins s σ H _ I h) fun v s1 ⟨x,H1,I1,r1,q1⟩=> ?_)
 refine wpAny_Slice (thn (hl pins s1 σ H1 _ I1 q1) fun vl s2 ⟨l,H2,I2,pl,q2⟩=>thn (hu pins s2 σ H2 _ I2 q2) fun vu s3 ⟨u,H3,I3,pu,q3⟩=> ?_)
 rw[evalPart_none]
 refine wpAny_pure ?_
 have I4:Inv X pins σ H3 { s3 with heap:=s3.heap.push { cls:= .type "slice",data:= .fields #[vl,vu,.none] } }:=I3.kept (t':=s3.toks) fun b ob q=>Heap.get?_push_of_some _ q
 obtain ⟨T,id,hT,ht,hg⟩:=hr pins { s3 with heap:=s3.heap.push { cls:= .type "slice",data:= .fields #[vl,vu,.none] } } σ H3 x v vl vu l u s3.heap.objs.size Q I4 r1 (Heap.IsSliceOf.new ..) pl pu q3
 show wpAny (model X.prog X.w) X.A (subscriptTail e (.Slice lo hi none p2) v (.ref s3.heap.objs.size)) (EP X pins σ Q) X.xe { s3 with heap:=s3.heap.push { cls:= .type "slice",data:= .fields #[vl,vu,.none] } }
 exact tail_any (ops:=[.ref s3.heap.objs.size,v]) ht hT hg (by with_unfolding_all rfl)
noncomputable def Zkw (xs:List V) (lo hi:Option Int):List V:=(xs.drop (HT.sIx xs.length 0 lo)).take (HT.sIx xs.length xs.length hi - HT.sIx xs.length 0 lo)
theorem Zc7 (xs:List V) (lo hi:Option Int):(Zkw xs lo hi).length<=xs.length:=by
 unfold Zkw
 rw[List.length_take,List.length_drop]
 omega
noncomputable def Ztg (K:PySem.W.Frag):V->Option Int->Option Int->Hp->VK->Prop:=fun x lo hi H Q=> ∃ a xs,x= .ref a/\SqT K H a xs/\
 ¬ (HT.sIx xs.length 0 lo=0/\HT.sIx xs.length xs.length hi=xs.length)/\ ∀ p,H p=none->Q (.ref p) (upd H p (.tup (Zkw xs lo hi)))
theorem Zm7:SlR X (Ztg X.K):=by
 intro pins s σ H x v vl vu lo hi sl Q I rx hs pl pu h
 obtain ⟨a,xs,rfl,hx,hw,q⟩:=h
 cases rx
 obtain ⟨its,r,ht,hz⟩:=I.tuple hx
 have hlen:its.toArray.size=xs.length:=by rw[List.size_toArray];exact r.length.symm
 refine ⟨"tuple",_,PyProof.Rows.slot_tuple_getitem.lookup,ht.typeIs,?_⟩
 refine HT.Zcx ht hs pl pu (by rw[hlen];exact hw) ?_ (by rw[hlen];exact hz)
 rw[hlen]
 refine ⟨.ref s.heap.objs.size,_,I.laid (t':=s.toks) (o:= .tup (Zkw xs lo hi)) (fun b ob q=>Heap.get?_push_of_some _ q) (Nat.le_refl _) ?_,rfl,q _ (I.hok.fresh (Nat.le_refl _))⟩
 exact ⟨Nat.le_trans (Zc7 xs lo hi) hz,_,(r.drop (HT.sIx xs.length 0 lo)).take (HT.sIx xs.length xs.length hi - HT.sIx xs.length 0 lo),IsTup.new _ _⟩
noncomputable def Zlh (K:PySem.W.Frag):R2:=fun x y H Q=> ∃ a b xs ys,x= .ref a/\y= .ref b/\SqT K H a xs/\SqT K H b ys/\xs≠[]/\xs.length + ys.length<=sizeLine/\
 (ys=[]->Q (.ref a) H)/\(ys≠[]-> ∀ p,H p=none->Q (.ref p) (upd H p (.tup (xs ++ ys))))
theorem Z8.nil_iff {xs:List V} {us:List Value} (r:Z8 xs us):us=[] ↔ xs=[]:=by
 cases r with
 |nil=>simp
 |cons _ _=>simp
theorem Zli:OpR X (binaryOp .Add) (Zlh X.K):=by
 intro pins s σ H x y v u Q I rx ry h
 obtain ⟨a,b,xs,ys,rfl,rfl,ha,hb,hx,hz,q1,q2⟩:=h
 cases rx
 cases ry
 obtain ⟨its,r1,p1,_⟩:=I.tuple ha
 obtain ⟨its2,r2,p2,_⟩:=I.tuple hb
 refine HT.Zle p1 p2 (fun z=>hx (r1.nil_iff.mp z)) (fun z=>⟨.ref a,H,I,rfl,q1 (r2.nil_iff.mp z)⟩) (fun z=> ?_) (by rw[<- r1.length,<- r2.length];exact hz)
 refine ⟨.ref s.heap.objs.size,_,I.laid (t':=s.toks) (o:= .tup (xs ++ ys)) (fun b ob q=>Heap.get?_push_of_some _ q) (Nat.le_refl _) ?_,rfl,q2 (fun w=>z (r2.nil_iff.mpr w)) _ (I.hok.fresh (Nat.le_refl _))⟩
 exact ⟨by rw[List.length_append];exact hz,_,r1.append r2,IsTup.new _ _⟩
end
end L2
namespace L2
open PySem PySem.Spec PyProof.Rows
noncomputable def ixN (n:Nat) (i:Int):Option Nat:=if 0<=i then (if i < n then some i.toNat else none) else if -(n:Int)<=i then some (i + n).toNat else none
noncomputable def atI {α:Type} (xs:List α) (i:Int):Option α:=(ixN xs.length i).bind fun j=>xs[j]?
theorem Zh0 {n:Nat} {i:Int} {j:Nat} (h:ixN n i=some j):seqIndex? i n=some j/\j < n/\ -(n:Int)<=i/\i < n:=by
 unfold ixN at h
 by_cases h0:0<=i
 ·rw[if_pos h0] at h
  by_cases h1:i < n
  ·rw[if_pos h1] at h
   have e:i.toNat=j:=Option.some.inj h
   exact ⟨by rw[seqIndex_of h0 h1,e],by omega,by omega,h1⟩
  ·rw[if_neg h1] at h;cases h
 ·rw[if_neg h0] at h
  by_cases h1: -(n:Int)<=i
  ·rw[if_pos h1] at h
   have e:(i + n).toNat=j:=Option.some.inj h
   exact ⟨by rw[seqIndex_neg (by omega) h1,e],by omega,h1,by omega⟩
  ·rw[if_neg h1] at h;cases h
theorem Zh1 {α:Type} {xs:List α} {i:Int} {v:α} (h:atI xs i=some v): ∃ j,seqIndex? i xs.length=some j/\xs[j]?=some v/\j < xs.length/\ -(xs.length:Int)<=i/\i < xs.length:=by
 unfold atI at h
 cases e:ixN xs.length i with
 |none=>rw[e] at h;cases h
 |some j=>
  rw[e] at h
  obtain ⟨h1,h2,h3,h4⟩:=Zh0 e
  exact ⟨j,h1,h,h2,h3,h4⟩
theorem Zlj {α:Type} {xs:List α} {j:Nat} {v:α} (h:xs[j]?=some v):atI xs (j:Int)=some v:=by
 have hj:j < xs.length:=(List.getElem?_eq_some_iff.mp h).1
 have e:ixN xs.length (j:Int)=some j:=by
  unfold ixN
  rw[if_pos (by omega),if_pos (by omega)];simp
 unfold atI;rw[e];exact h
noncomputable def Zh2 (b:Expr):Prop:= ∀ o i,subscripted b false o i=operate [o,i] (getItem o i)
noncomputable def IxR (X:Cx) (r:R2):Prop:=
 ∀ (value slice:Expr) (pins:List (Addr × Obj)) (s:Shared) (σ:St) (H:Hp) (x y:V) (v u:Value) (Q:VK),Inv X pins σ H s->Z4 x v->Z4 y u->r x y H Q->
  subscripted slice false v u=operate [v,u] (getItem v u)->wpAny (model X.prog X.w) X.A (subscriptTail value slice v u) (EP X pins σ Q) X.xe s
noncomputable def MtR (X:Cx) (id:String) (r:V->List V->Hp->VK->Prop):Prop:=
 ∀ (pins:List (Addr × Obj)) (s:Shared) (σ:St) (H:Hp) (x:V) (xs:List V) (v:Value) (us:List Value) (Q:VK),Inv X pins σ H s->Z4 x v->Z8 xs us->r x xs H Q->
  wpAny (model X.prog X.w) X.A (call (.builtin id) (v :: us)) (EP X pins σ Q) X.xe s
section
variable {X:Cx} {a b:Expr} {ta tb:TE} {pos:Pos}
theorem IxR.or {r r':R2} (h:IxR X r) (h':IxR X r'):IxR X (fun x y H Q=>r x y H Q\/r' x y H Q):=by
 intro value slice pins s σ H x y v u Q I rx ry q hs
 rcases q with q | q
 ·exact h value slice pins s σ H x y v u Q I rx ry q hs
 ·exact h' value slice pins s σ H x y v u Q I rx ry q hs
theorem Zqa {r:R2} (hr:IxR X r) (ha:PE X a ta) (hb:PE X b tb) (hs:Zh2 b):PE X (.Subscript a b pos) (tOp r ta tb):=by
 intro pins s σ H Q I h
 exact Subscript_ (Zp3 ha hb I h fun v u s2 x y H2 I2 rx ry q=>hr a b pins s2 σ H2 x y v u Q I2 rx ry q (hs _ _))
noncomputable def Zr0 (K:PySem.W.Frag):R2:=fun x y H Q=> ∃ p xs i v,x= .ref p/\y= .int i/\SqL K H p xs/\atI xs i=some v/\Q v H
noncomputable def Zr1 (K:PySem.W.Frag):R2:=fun x y H Q=> ∃ p xs i v,x= .ref p/\y= .int i/\SqT K H p xs/\atI xs i=some v/\Q v H
theorem Zlk:IxR X (Zr0 X.K):=by
 intro value slice pins s σ H x y v u Q I rx ry h hs
 obtain ⟨p,xs,i,z,rfl,rfl,hq,he,q⟩:=h
 cases rx
 obtain ⟨t,rfl⟩:=ry
 obtain ⟨its,r,pl,hz⟩:=I.list hq
 obtain ⟨j,h1,h2,h3,h4,h5⟩:=Zh1 he
 obtain ⟨w,ew,rw'⟩:=r.get h2
 have hl:=r.length
 have hn:=Zgt
 have fin:EP X pins σ Q w s:=⟨z,H,I,rw',q⟩
 by_cases h0:0<=i
 ·have hj:i.toNat=j:=by
   rw[seqIndex_of h0 h5] at h1
   exact Option.some.inj h1
  exact item_listR pl.isList h0 (by omega) (by rw[hj];simpa using ew) fin hs
 ·have hj:(i + (its.toArray.size:Int)).toNat=j:=by
   rw[seqIndex_neg (by omega) h4] at h1
   rw[List.size_toArray,<- hl]
   exact Option.some.inj h1
  exact subscriptTail_builtinR (x:=w) pl.isList.typeIs slot_list_getitem.lookup
   (wpAny_getItem_list_neg (Q:=fun r s'=>r=w/\EP X pins σ Q r s') pl.isList (by omega) (by rw[List.size_toArray]<;>omega) (by omega) (by rw[hj];simpa using ew) ⟨rfl,fin⟩) hs
theorem Zm8:IxR X (Zr1 X.K):=by
 intro value slice pins s σ H x y v u Q I rx ry h hs
 obtain ⟨p,xs,i,z,rfl,rfl,hq,he,q⟩:=h
 cases rx
 obtain ⟨t,rfl⟩:=ry
 obtain ⟨its,r,pl,hz⟩:=I.tuple hq
 obtain ⟨j,h1,h2,h3,h4,h5⟩:=Zh1 he
 obtain ⟨w,ew,rw'⟩:=r.get h2
 have hl:=r.length
 have hn:=Zgt
 have fin:EP X pins σ Q w s:=⟨z,H,I,rw',q⟩
 exact subscriptTail_builtinR (x:=w) pl.typeIs slot_tuple_getitem.lookup
  (getItem_tuple (j:=j) (Q:=fun r s'=>r=w/\EP X pins σ Q r s') pl (by omega) (by omega) (by rw[List.size_toArray,<- hl];exact h1) (by simpa using ew) ⟨rfl,fin⟩) hs
theorem Zg6 (its:List Value) (n j:Nat) (u:Value):Obj.mapSeq (·.setIfInBounds j u) { cls:= .type "list",data:= .seq its.toArray n }={ cls:= .type "list",data:= .seq (its.set j u).toArray n }:=by
 simp[Obj.mapSeq]
theorem Inv.lst {pins:List (Addr × Obj)} {σ:St} {H:Hp} {s:Shared} {p:Addr} {xs:List V} (I:Inv X pins σ H s) (h:H p=some (.lst xs)):
  ∃ (its:List Value) (n:Nat),Z8 xs its/\s.heap.get? p=some { cls:= .type "list",data:= .seq its.toArray n }/\xs.length<=sizeLine:=by
 obtain ⟨z,its,n,r,e⟩:=I.hok p _ h
 exact ⟨its,n,r,e,z⟩
theorem Inv.lstUpd {pins:List (Addr × Obj)} {σ:St} {H:Hp} {s:Shared} {p:Addr} {xs ys:List V} {its its':List Value} {n n':Nat} {f:Obj->Obj} (I:Inv X pins σ H s) (h:H p=some (.lst xs))
  (ho:s.heap.get? p=some { cls:= .type "list",data:= .seq its.toArray n }) (hf:f { cls:= .type "list",data:= .seq its.toArray n }={ cls:= .type "list",data:= .seq its'.toArray n' }) (r:Z8 ys its') (hz:ys.length<=sizeLine) (t:Nat):
  Inv X pins σ (upd H p (.lst ys)) { s with heap:=s.heap.update p f,toks:=t }:=by
 have e:(s.heap.update p f).get? p=some { cls:= .type "list",data:= .seq its'.toArray n' }:=by
  rw[Heap.get?_update_self f ho (by rw[hf]<;>rfl),hf]
 refine I.write (x:=p) (e:=p) (by rw[h];trivial) (.inl rfl) (fun b u hb q=>(Heap.get?_update_other _ _ (Ne.symm hb)).trans q) ⟨_,e⟩ ?_
 exact ⟨hz,its',n',r,e⟩
noncomputable def rSetL:V->V->V->Hp->(Hp->Prop)->Prop:=fun o i v H Q=> ∃ p xs k j,o= .ref p/\i= .int k/\H p=some (.lst xs)/\ixN xs.length k=some j/\Q (upd H p (.lst (xs.set j v)))
theorem ZjD:ZrW X rSetL:=by
 intro pins s σ H o i v ov iv u Q I ro ri rv h
 obtain ⟨p,xs,k,j,rfl,rfl,hp,hj,q⟩:=h
 cases ro
 obtain ⟨t,rfl⟩:=ri
 obtain ⟨its,n,r,ho,hz⟩:=I.lst hp
 obtain ⟨h1,h2,h3,h4⟩:=Zh0 hj
 have hl:=r.length
 have hn:=Zgt
 have I':Inv X pins σ (upd H p (.lst (xs.set j v))) { s with heap:=s.heap.update p (Obj.mapSeq (·.setIfInBounds j u)) }:=
  I.lstUpd hp ho (Zg6 its n j u) (r.set rv j) (by rw[List.length_set];exact hz) s.toks
 by_cases h0:0<=k
 ·have hk:k.toNat=j:=by
   rw[seqIndex_of h0 h4] at h1
   exact Option.some.inj h1
  exact PySem.W.ki_setAt ho h0 (by omega) (by rw[List.size_toArray,<- hl];exact h4) (by rw[hk];exact ⟨_,I',q⟩)
 ·have hk:(k + (its.toArray.size:Int)).toNat=j:=by
   rw[seqIndex_neg (by omega) h3] at h1
   rw[List.size_toArray,<- hl]
   exact Option.some.inj h1
  exact PySem.W.ki_setBack ho (by omega) (by rw[List.size_toArray,<- hl];exact h3) (by omega) (by rw[hk];exact ⟨_,I',q⟩)
theorem ZeW (lo hi:Option Int) (n:Nat):(sliceBounds lo hi none n).1=((HT.sIx n 0 lo:Nat):Int)/\(sliceBounds lo hi none n).2.1=((HT.sIx n n hi:Nat):Int)/\(sliceBounds lo hi none n).2.2=1:=by
 refine ⟨?_,?_,rfl⟩
 ·cases lo with
  |none=>simp[sliceBounds,HT.sIx]
  |some i=>
   simp only[sliceBounds,HT.sIx,Option.getD_none,show (1:Int) > 0 by decide,if_true]
   by_cases h:i < 0
   ·simp only[h,if_true]<;>omega
   ·simp only[h,if_false]<;>omega
 ·cases hi with
  |none=>simp[sliceBounds,HT.sIx]
  |some i=>
   simp only[sliceBounds,HT.sIx,Option.getD_none,show (1:Int) > 0 by decide,if_true]
   by_cases h:i < 0
   ·simp only[h,if_true]<;>omega
   ·simp only[h,if_false]<;>omega
theorem Zec (its:List Value) (lo hi:Option Int):slicePick its.toArray lo hi none=((its.drop (HT.sIx its.length 0 lo)).take (HT.sIx its.length its.length hi - HT.sIx its.length 0 lo)).toArray:=by
 obtain ⟨h1,h2,h3⟩:=ZeW lo hi its.toArray.size
 unfold slicePick
 rw[h1,h2,h3]
 simp only[sliceRange_one,pick_run,List.size_toArray]<;>rfl
noncomputable def Zth (K:PySem.W.Frag):V->Option Int->Option Int->Hp->VK->Prop:=fun x lo hi H Q=> ∃ a xs,x= .ref a/\SqL K H a xs/\ ∀ p,H p=none->Q (.ref p) (upd H p (.lst (Zkw xs lo hi)))
theorem Zll:SlR X (Zth X.K):=by
 intro pins s σ H x v vl vu lo hi sl Q I rx hs pl pu h
 obtain ⟨a,xs,rfl,hx,q⟩:=h
 cases rx
 obtain ⟨its,r,ht,hz⟩:=I.list hx
 have hlen:=r.length
 refine ⟨"list",_,slot_list_getitem.lookup,ht.isList.typeIs,?_⟩
 refine wpAny_getItem_list_slice ht.isList hs pl pu .none (by simp) ?_ (by rw[List.size_toArray]<;>omega)
 rw[Zec,<- hlen]
 refine ⟨.ref s.heap.objs.size,_,I.laid (t':=s.toks) (o:= .lst (Zkw xs lo hi)) (fun b ob q=>Heap.get?_push_of_some _ q) (Nat.le_refl _) ?_,rfl,q _ (I.hok.fresh (Nat.le_refl _))⟩
 exact ⟨Nat.le_trans (Zc7 xs lo hi) hz,_,0,(r.drop (HT.sIx xs.length 0 lo)).take (HT.sIx xs.length xs.length hi - HT.sIx xs.length 0 lo),Heap.get?_push_size _ rfl⟩
theorem Zt:Zcd X (.builtin "len") (fun xs H Q=> ∃ p ys,xs=[.ref p]/\(SqL X.K H p ys\/SqT X.K H p ys)/\Q (.int ys.length) H):=by
 intro pins s σ H xs us Q I r h
 obtain ⟨p,ys,rfl,hq,q⟩:=h
 obtain ⟨u,rfl,rx⟩:=ZdH r
 cases rx
 have hn:=Zgt
 rcases hq with hq | hq
 ·obtain ⟨its,r',pl,hz⟩:=I.list hq
  have hlen:=r'.length
  exact Calls.call_len_list pl.isList (by simp only[List.size_toArray]<;>omega) ⟨.int ys.length,H,I.tok _,⟨s.toks + 1,by rw[List.size_toArray,hlen]⟩,q⟩
 ·obtain ⟨its,r',pl,hz⟩:=I.tuple hq
  have hlen:=r'.length
  exact len_tuple pl (by simp only[List.size_toArray]<;>omega) ⟨.int ys.length,H,I.tok _,⟨s.toks + 1,by rw[List.size_toArray,hlen]⟩,q⟩
theorem ZbE:Zcd X (.type "list") (fun xs H Q=> ∃ p ys,xs=[.ref p]/\(SqL X.K H p ys\/SqT X.K H p ys)/\ ∀ l,H l=none->Q (.ref l) (upd H l (.lst ys))):=by
 intro pins s σ H xs us Q I r h
 obtain ⟨p,ys,rfl,hq,q⟩:=h
 obtain ⟨u,rfl,rx⟩:=ZdH r
 cases rx
 have fin: ∀ (its:List Value),Z8 ys its->ys.length<=sizeLine-> ∀ (h':Heap) (c':Nat),(∀ b o',s.heap.get? b=some o'->h'.get? b=some o')->
   h'.get? s.heap.objs.size=some { cls:= .type "list",dict:=none,data:= .seq its.toArray c',slots:= #[] }->EP X pins σ Q (.ref s.heap.objs.size) { s with heap:=h' }:=fun its r' hz h' c' kp e=>
  ⟨.ref s.heap.objs.size,_,I.laid (t':=s.toks) kp (Nat.le_refl _) (show Zbg X.prog X.w _ h' _ (.lst ys) from ⟨hz,its,c',r',e⟩),rfl,q _ (I.hok.fresh (Nat.le_refl _))⟩
 rcases hq with hq | hq
 ·obtain ⟨its,r',pl,hz⟩:=I.list hq
  have hlen:=r'.length
  obtain ⟨o,ho,hc,n,hd⟩:=pl.isList
  exact call_list_seq p (.inl rfl) ho hc hd (fun h' c' kp e=>fin its r' hz h' c' kp e) (by simp only[List.size_toArray]<;>omega)
 ·obtain ⟨its,r',pl,hz⟩:=I.tuple hq
  have hlen:=r'.length
  obtain ⟨o,ho,hc,n,hd⟩:=pl
  exact call_list_seq p (.inr rfl) ho hc hd (fun h' c' kp e=>fin its r' hz h' c' kp e) (by simp only[List.size_toArray]<;>omega)
theorem Zed:Zcd X (.type "tuple") (fun xs H Q=> ∃ p ys,xs=[.ref p]/\((SqL X.K H p ys/\ ∀ l,H l=none->Q (.ref l) (upd H l (.tup ys)))\/(SqT X.K H p ys/\Q (.ref p) H))):=by
 intro pins s σ H xs us Q I r h
 obtain ⟨p,ys,rfl,h⟩:=h
 obtain ⟨u,rfl,rx⟩:=ZdH r
 cases rx
 rcases h with ⟨hq,q⟩ | ⟨hq,q⟩
 ·obtain ⟨its,r',pl,hz⟩:=I.list hq
  have hlen:=r'.length
  refine call_tuple_list pl.isList (fun h' kp=> ?_) (by simp only[List.size_toArray]<;>omega)
  have I1:Inv X pins σ H { s with heap:=h' }:=I.kept (t':=s.toks) kp
  have I2:Inv X pins σ (upd H h'.objs.size (.tup ys)) { s with heap:=h'.push { cls:= .type "tuple",data:= .seq its.toArray } }:=
   I1.laid (t':=s.toks) (fun b o e=>Heap.get?_push_of_some _ e) (Nat.le_refl _) (show Zbg X.prog X.w _ _ _ (.tup ys) from ⟨hz,its,r',IsTup.new _ _⟩)
  exact ⟨.ref h'.objs.size,_,I2,rfl,q _ (I1.hok.fresh (Nat.le_refl _))⟩
 ·obtain ⟨its,r',pl,hz⟩:=I.tuple hq
  exact call_tuple_same pl ⟨.ref p,H,I,rfl,q⟩
noncomputable def tyV (K:PySem.W.Frag) (T:String) (x:V) (H:Hp):Prop:=match x with
 | .str _=>T="str"
 | .int _=>T="int"
 | .ref p=>(T="list"/\ ∃ xs,SqL K H p xs)\/(T="tuple"/\ ∃ o,K.lookup p=some o/\o.cls= .type "tuple"/\o.dict=none)\/
   (T="dict"/\((∃ kvs,H p=some (.dK kvs))\/ ∃ kvs,H p=some (.dT kvs)))\/(T="set"/\ ∃ S n,H p=some (.set S n))
 |_=>False
theorem Zm9 {pins:List (Addr × Obj)} {σ:St} {H:Hp} {s:Shared} {T:String} {x:V} {v:Value} (I:Inv X pins σ H s) (r:Z4 x v) (ty:tyV X.K T x H):
  s.TypeIs v T/\ ∀ a,v= .ref a-> ∃ ob,s.heap.get? a=some ob/\ob.dict=none:=by
 cases x with
 |str z=>
  obtain ⟨t,rfl⟩:=r
  cases (show T="str" from ty)
  exact ⟨typeIs_str s z t,fun _ e=>nomatch e⟩
 |int i=>
  obtain ⟨t,rfl⟩:=r
  cases (show T="int" from ty)
  exact ⟨typeIs_int s i t,fun _ e=>nomatch e⟩
 |ref p=>
  cases r
  rcases ty with ⟨rfl,xs,hq⟩ | ⟨rfl,o,hk,hc,hd⟩ | ⟨rfl,hk⟩ | ⟨rfl,S,n,hk⟩
  ·obtain ⟨its,_,pl,_⟩:=I.list hq
   refine ⟨pl.isList.typeIs,fun a e=> ?_⟩
   cases e
   obtain ⟨o,n,e,c,hd,_⟩:=pl
   exact ⟨o,e,hd⟩
  ·refine ⟨⟨o,I.kIn p o hk,hc⟩,fun a e=> ?_⟩
   cases e
   exact ⟨o,I.kIn _ o hk,hd⟩
  ·have z: ∃ o,s.heap.get? p=some o/\o.ExactDict:=by
    rcases hk with ⟨kvs,hk⟩ | ⟨kvs,hk⟩
    ·obtain ⟨_,_,_,_,o,_,_,e,ex,_⟩:=I.hok p _ hk
     exact ⟨o,e,ex⟩
    ·obtain ⟨_,_,_,_,o,_,_,e,ex,_⟩:=I.hok p _ hk
     exact ⟨o,e,ex⟩
   obtain ⟨o,e,ex⟩:=z
   refine ⟨⟨o,e,ex.1⟩,fun a e2=> ?_⟩
   cases e2
   exact ⟨o,e,ex.2.1⟩
  ·obtain ⟨o,_,_,_,e,ex,_⟩:=I.hok p _ hk
   refine ⟨⟨o,e,ex.1⟩,fun a e2=> ?_⟩
   cases e2
   exact ⟨o,e,ex.2.1⟩
 |_=>exact False.elim ty
noncomputable def tBM (K:PySem.W.Frag) (T:String) (r:V->List V->Hp->VK->Prop) (to:TE) (t:TA):TE:=fun σ H Q=>to σ H fun x H1=>tyV K T x H1/\t σ H1 fun xs H2=>r x xs H2 Q
variable {o e:Expr} {es:List Expr} {to:TE} {t:TA} {name:Str} {apos cpos:Pos} {T id:String} {r:V->List V->Hp->VK->Prop}
theorem Zna (pa:PlainAttrs T) (slot:Slot T name id) (hty:typeOf (.builtin id)=pure (.type "method_descriptor")) (hm:MtR X id r) (ho:PE X o to) (ha:PA X (e :: es) t)
  (hbase:attributeBase o name X.env (eval o X.env)=eval o X.env:=by rfl)
  (hfew:((backTo cpos (starEach (e :: es) X.env)).all (fun x=> !x.1) && (backToKw cpos (keywordEach [] X.env)).all (fun x=>x.1.isSome)
   && decide ((e :: es).length + ([]:List Keyword).length + (if ([]:List Keyword).isEmpty then 0 else 1) < 30))=true:=by rfl)
  (hline:(apos.endLine == cpos.line)=true:=by rfl) (hs:starEach (e :: es) X.env=(false,eval e X.env) :: starEach es X.env:=by rfl) (hplain:(backTo cpos (starEach es X.env)).any (·.1)=false:=by rfl):
  PE X (.Call (.Attribute o name apos) (e :: es) [] cpos) (tBM X.K T r to t):=by
 intro pins s σ H Q I h
 refine wpAny_Call_method_late hbase hfew hline rfl (thn (ho pins s σ H _ I h) fun v s1 ⟨x,H1,I1,r1,ty,q1⟩=> ?_)
 obtain ⟨h1,h2⟩:=Zm9 I1 r1 ty
 refine ⟨T,id,pa,slot,hty,h1,h2,?_⟩
 have hA:=ha cpos pins s1 σ H1 _ I1 q1
 rw[hs] at hA ⊢
 refine Calls.callWith_builtin (by show (false || (backTo cpos (starEach es X.env)).any (·.1))=false;rw[hplain]<;>rfl) (Calls.evalArgs_plain ?_)
 exact thn hA fun us s2 ⟨vs,H2,I2,r2,q2⟩=>hm pins s2 σ H2 x vs v us Q I2 r1 r2 q2
end
end L2
namespace L2
open PySem PySem.Spec PyProof.Rows
noncomputable def MtM (X:Cx) (id:String) (r:V->List V->Hp->VK->Prop):Prop:=
 ∀ (pins:List (Addr × Obj)) (s:Shared) (σ:St) (H:Hp) (x:V) (xs:List V) (v:Value) (us:List Value) (Q:VK),Inv X pins σ H s->Z4 x v->Z8 xs us->r x xs H Q->
  wpAny (model X.prog X.w) X.A (call (.builtin id) (v :: us)) (EP X pins σ Q) X.xe s
theorem Z8.one: ∀ {x:V} {us:List Value},Z8 [x] us-> ∃ u,us=[u]/\Z4 x u
 |_,_,.cons r .nil=>⟨_,rfl,r⟩
theorem Z8.reverse {xs:List V} {us:List Value} (h:Z8 xs us):Z8 xs.reverse us.reverse:=by
 induction h with
 |nil=>exact .nil
 |cons r t ih=>rw[List.reverse_cons,List.reverse_cons];exact Z8.append ih (.cons r .nil)
section
variable {X:Cx} {pins:List (Addr × Obj)} {σ:St} {H:Hp} {s:Shared} {l b:Addr} {xs ys zs:List V}
theorem Inv.lset {its its':List Value} {n:Nat} {f:Array Value->Array Value} {t':Nat} (I:Inv X pins σ H s) (hH:H l=some (.lst xs))
  (e:s.heap.get? l=some { cls:= .type "list",data:= .seq its.toArray n }) (hf:f its.toArray=its'.toArray) (hv:Z8 ys its') (hz:ys.length<=sizeLine):
  Inv X pins σ (upd H l (.lst ys)) { s with heap:=s.heap.update l (Obj.mapSeq f),toks:=t' }:=by
 have q:=PySem.IsL.update e f
 rw[hf] at q
 refine I.write (x:=l) (e:=l) (by rw[hH];exact trivial) (.inl rfl) (fun b' u hb hu=>(Heap.get?_update_other s.heap (Obj.mapSeq f) (Ne.symm hb)).trans hu) ⟨_,q⟩ ?_
 exact ⟨hz,its',_,hv,q⟩
theorem Inv.lnew {its:List Value} {t':Nat} (I:Inv X pins σ H s) (hv:Z8 ys its) (hz:ys.length<=sizeLine):
  Inv X pins σ (upd H s.heap.objs.size (.lst ys)) { s with heap:=s.heap.push { cls:= .type "list",data:= .seq its.toArray },toks:=t' }:=
 I.laid (fun _ _ q=>Heap.get?_push_of_some _ q) (Nat.le_refl _) ⟨hz,its,0,hv,Heap.get?_push_size _ rfl⟩
theorem Inv.fresh (I:Inv X pins σ H s):H s.heap.objs.size=none:=I.hok.fresh (Nat.le_refl _)
theorem Inv.lstM (I:Inv X pins σ H s) (hH:H l=some (.lst xs)):xs.length<=sizeLine/\ ∃ (its:List Value) (n:Nat),Z8 xs its/\xs.length=its.length/\s.heap.get? l=some { cls:= .type "list",data:= .seq its.toArray n }:=by
 obtain ⟨z,its,n,r,e⟩:=I.hok l _ hH
 exact ⟨z,its,n,r,r.length,e⟩
theorem ZjE {n:Nat} (h:n<=sizeLine):Builtin.List.listTooLong n=false:=by
 unfold Builtin.List.listTooLong
 exact decide_eq_false (by omega)
end
section
variable {X:Cx}
noncomputable def rAppend:V->List V->Hp->VK->Prop:=fun x vs H Q=> ∃ l xs y,x= .ref l/\vs=[y]/\H l=some (.lst xs)/\xs.length < sizeLine/\Q .non (upd H l (.lst (xs ++ [y])))
theorem ZeX:MtM X "list.append" rAppend:=by
 intro pins s σ H x vs v us Q I rx rv h
 obtain ⟨l,xs,y,rfl,rfl,hH,hz,q⟩:=h
 cases rx
 obtain ⟨u,rfl,ru⟩:=rv.one
 obtain ⟨z,its,n,r,hl,e⟩:=I.lstM hH
 refine call_meets F.slot_list_append ⟨_,e,rfl⟩ F.entry_list_append (F.args_list_append_2 _ _) (PySem.list_append l its.toArray n u (by rw[List.size_toArray];omega)) ⟨e,?_⟩
 refine ⟨.non,_,I.lset (its':=its ++ [u]) hH e (by simp) (r.append (.cons ru .nil)) ?_,rfl,q⟩
 rw[List.length_append,List.length_singleton]
 omega
noncomputable def rExtend:V->List V->Hp->VK->Prop:=fun x vs H Q=> ∃ l b xs zs,x= .ref l/\vs=[.ref b]/\H l=some (.lst xs)/\H b=some (.lst zs)/\xs.length + zs.length<=sizeLine/\Q .non (upd H l (.lst (xs ++ zs)))
theorem ZeY:MtM X "list.extend" rExtend:=by
 intro pins s σ H x vs v us Q I rx rv h
 obtain ⟨l,b,xs,zs,rfl,rfl,hH,hB,hz,q⟩:=h
 cases rx
 obtain ⟨u,rfl,ru⟩:=rv.one
 cases ru
 obtain ⟨z,its,n,r,hl,e⟩:=I.lstM hH
 obtain ⟨z2,its2,n2,r2,hl2,e2⟩:=I.lstM hB
 have hsz:its.toArray.size + its2.toArray.size<=sizeLine:=by rw[List.size_toArray,List.size_toArray];omega
 have hlong: ¬ (!its.toArray.isEmpty && Builtin.List.listTooLong (its.toArray.size + its2.toArray.size))=true:=by
  rw[ZjE hsz,Bool.and_false]
  exact Bool.false_ne_true
 refine call_meets F.slot_list_extend ⟨_,e,rfl⟩ F.entry_list_extend (F.args_list_extend_2 _ _)
  (AutoSeq1.list_extend_list_list_0 l its.toArray n b its2.toArray n2 hlong (by rw[List.size_toArray];omega) (by omega)) ⟨e,e2,?_⟩
 refine ⟨.non,_,I.lset (its':=its ++ its2) hH e (by simp) (r.append r2) ?_,rfl,q⟩
 rw[List.length_append]
 omega
noncomputable def rCat:R2:=fun x y H Q=> ∃ l b xs zs,x= .ref l/\y= .ref b/\H l=some (.lst xs)/\H b=some (.lst zs)/\xs.length + zs.length<=sizeLine/\ ∀ p,H p=none->Q (.ref p) (upd H p (.lst (xs ++ zs)))
theorem Znb:OpR X (binaryOp .Add) rCat:=by
 intro pins s σ H x y v u Q I rx ry h
 obtain ⟨l,b,xs,zs,rfl,rfl,hH,hB,hz,q⟩:=h
 cases rx
 cases ry
 obtain ⟨z,its,n,r,hl,e⟩:=I.lstM hH
 obtain ⟨z2,its2,n2,r2,hl2,e2⟩:=I.lstM hB
 refine PySem.P.add_list e e2 ?_ (by rw[List.size_toArray,List.size_toArray];omega)
 have ea:its.toArray ++ its2.toArray=(its ++ its2).toArray:=by simp
 rw[ea]
 exact ⟨.ref _,_,I.lnew (t':=s.toks) (r.append r2) (by rw[List.length_append];omega),rfl,q _ I.fresh⟩
end
section
variable {prog:Program} {w:World} {A:Around} {E:Value->Shared->Prop} {s:Shared}
end
section
variable {X:Cx}
end
end L2
namespace Att
open PySem PySem.W PySem.Calls PyProof.Rows
theorem Zc8 {P:Params} {h:Heap}: ∀ (ns:List Int) (vs:List Value),WellAll P h vs (ns.map WData.int)->IntsAre vs ns:=by
 intro ns
 induction ns with
 |nil=>
  intro vs w
  rw[List.map_nil] at w
  cases w
  exact .nil
 |cons n ns ih=>
  intro vs w
  rw[List.map_cons] at w
  cases w with
  |cons a b=>
   cases a
   exact .cons _ _ (ih _ b)
theorem Zh3 {l:OpenLaw} {n:Nat} (hn:l.most=some n) {P:Params} {h:Heap} {args:List WData} {vals:List Value}
  (hpre:l.row.toRowW.claim.pre args=true) (hwl:WellAll P h vals args):
  ∃ a vs ns,vals=[Value.ref a]/\args=[WData.list (ns.map WData.int)]/\h.get? a=some { cls:= .type "list",data:= .seq vs.toArray }/\IntsAre vs ns/\ns.length<=n:=by
 have hsh:WShape.hasAll [] args [.list .int]=true:=(pre_splitW hpre).1
 have hc:l.pre.holds [] { args:=args }=true:=(pre_splitW hpre).2
 obtain ⟨d,r,rfl,h1,h2⟩:=hasAllW_cons hsh
 obtain rfl:=hasAllW_nil h2
 obtain ⟨xs,rfl,h3⟩:=hasW_list h1
 obtain ⟨ns,rfl⟩:=items_int h3
 have hlen:ns.length<=n:=by
  unfold OpenLaw.pre at hc
  have h4:(WTm.not (.lt (.lit (.int (n:Int))) (.len (.arg 0)))).holds [] { args:=[.list (ns.map .int)] }=true:=by
   have h4:=(holds_andW hc).1
   rw[hn] at h4
   exact h4
  have h5:=condW_of h4 (w_not (w_lt w_lit (w_len_list (w_arg rfl))))
  rw[List.length_map] at h5
  refine Nat.le_of_not_lt fun q=> ?_
  have q':(n:Int) < ((ns.length:Nat):Int):=by omega
  first
   | (rw[decide_eq_true q'] at h5;exact absurd h5 (by decide))
   | (simp at h5;omega)
 cases hwl with
 |cons w1 w2=>
  cases w2
  cases w1 with
  |list ho hall=>exact ⟨_,_,ns,rfl,rfl,ho,Zc8 ns _ hall,hlen⟩
theorem Zh4 (l:OpenLaw) (args:List WData):l.row.toRowW.claim.post args (.bool true) args=true:=
 postW_of (r:=l.row.toRowW) (X:=(true == true))
  (show WShape.has [] (.bool true) .bool=true by first | rfl | decide | simp[WShape.has,WShape.arms,WShape.armsAll])
  (show (WTm.eq .res (.lit (.bool true))).value [] { args:=args,res:=some (.bool true),after:=args }=some (.bool (true == true)) from w_eq_bool (w_res rfl) w_lit) rfl
theorem ZfM {l:OpenLaw} {n:Nat} {q:Program} {loose:List Str} {XP:(Str->Option Value)->Heap->Prop} {YP:World->Heap->Prop} {d:DefRec}
  (hn:l.most=some n) (hdf:d.params.defaults=[])
  (call: ∀ (w:World) (s₀ s₁:Shared) (mg mb:Str->Option Value) (fa:Addr) (o:Obj) (pm cd doc:Value) (a:Addr) (vs:List Value) (ns:List Int),
   Ground q loose [] XP w s₀ mg mb s₁.heap->YP w s₁.heap->
   s₁.heap.get? fa=some o->o.data= .func (docDef d.name d.params d.body d.scope pm cd doc)->s₁.heap.CodeRec cd d.name->mg d.name=some (.ref fa)->
   s₁.heap.get? a=some { cls:= .type "list",data:= .seq vs.toArray }->IntsAre vs ns->ns.length<=n->s₁.gens= #[]->
   codeAny (model l.prog w) callerA (.call (.ref fa) ⟨[.ref a],[]⟩) (fun r s'=>r= .ok (.ret (.bool true))/\OldK s₁.heap s'.heap/\s'.os=s₁.os/\AllBare s'.gens) s₁):
  WalkO q loose XP YP l.row.toRowW d [] (fun f vs=>PySem.call f vs):=by
 intro w s₀ s₁ mg mb G Y fa o pm cd doc dV kV ho hd hcd hD hmg hg args vals as hpre hlay hrd hwl hlo
 obtain rfl:dV= .none:=Dflts.none hD hdf
 obtain rfl:kV= .none:=Dflts.noKw hD
 obtain ⟨a,vs,ns,rfl,rfl,hobj,hints,hlen⟩:=Zh3 hn hpre hwl
 refine enter_call (codeAny_mono (call w s₀ s₁ mg mb fa o pm cd doc a vs ns G Y ho (fd_plain hd) hcd hmg hobj hints hlen hg) fun r s' hq=> ?_)
 obtain ⟨rfl,h2,h3,h4⟩:=hq
 exact ⟨.inl ⟨.bool true,.bool true,[],rfl,fun _=>rfl,.bool true,Zh4 l _,fun _=>⟨List.Pairwise.nil,fun _ hm=>(nomatch hm)⟩⟩,h2,h3,h4⟩
section
variable {prog:Program} {w:World} {A:Around} {E:Value->Shared->Prop} {s:Shared} {K:Frag}
end
end Att
namespace L2
open PySem PySem.Spec PyProof.Rows
theorem ZeZ: ∀ {vs:List Value} {ns:List Int},IntsAre vs ns->Z8 (ns.map V.int) vs
 |_,_,.nil=> .nil
 |_,_,.cons n t h=> .cons ⟨t,rfl⟩ (ZeZ h)
noncomputable def ZpK (H:Hp):Prop:= ∀ b,H b=none\/ ∃ o xs,H b=some (.frz o (.lst xs))
theorem ZjF {P:Program} {w:World} {K:PySem.W.Frag} {mg mb:Str->Option Value} {CX:CXT} {k:Nat} {fa a:Addr} {fd:FuncData} {x:Str} {sp:Sp} {s₁:Shared} {vs:List Value} {ns:List Int}
  (KX:K.In s₁.heap) (hns:s₁.heap.Ns mainGlobals mg) (hb:s₁.heap.Ns builtinsNs mb) (hbb: ∀ x:Str,x≠"__name__"->mb x=bootBuiltins x) (hlim:s₁.heap.NoLimit) (hg:s₁.gens= #[])
  (ha:s₁.heap.get? a=some { cls:= .type "list",data:= .seq vs.toArray }) (hi:IntsAre vs ns) (hl:ns.length<=sizeLine) (hr:Room k callerA)
  (F: ∀ base:Heap,K.In base->base.Ns mainGlobals mg->FnOk P w K mg base CX k fa fd [x] sp) (hbind: ∀ (s:Shared) (u:Value),BindsTo s fd ⟨[u],[]⟩ [(x,u)])
  (hsp: ∀ H:Hp,ZpK H->SqL K H a (ns.map V.int)->sp [.ref a] H (fun v _=>v= .bl true) fun _ _ _=>False)
  (hCX: ∀ H e s',CX [] H s₁ (fun _ _ _=>False) e s'->False):
  codeAny (model P w) callerA (.call (.ref fa) ⟨[.ref a],[]⟩) (fun r s'=>r= .ok (.ret (.bool true))/\OldK s₁.heap s'.heap/\s'.os=s₁.os/\AllBare s'.gens) s₁:=by
 have rv:=ZeZ hi
 have lenV:=hi.length
 have core: ∀ H:Hp,ZpK H->SqL K H a (ns.map V.int)->HOk P w H s₁.heap->(∀ b,H b≠none->b=a)->(H a≠none->K.lookup a=none)->
   codeAny (model P w) callerA (.call (.ref fa) ⟨[.ref a],[]⟩) (fun r s'=>r= .ok (.ret (.bool true))/\OldK s₁.heap s'.heap/\s'.os=s₁.os/\AllBare s'.gens) s₁:=by
  intro H hO hS hok hA hK
  have base_of: ∀ {b:Addr} {o:Obj},s₁.heap.get? b=some o->H b=none->(Zjo s₁.heap H).get? b=some o:=fun e n=>Zgp e n
  have noA: ∀ {b:Addr} {o:Obj} {es:Array DictEntry} {ep:Nat},s₁.heap.get? b=some o->o.data= .dict es ep->H b=none:=fun {b o es ep} e d=>by
   cases q:H b with
   |none=>rfl
   |some u=>
    have e':b=a:=hA b (by rw[q];simp)
    subst e'
    rw[ha] at e;cases e
    have d':Data.seq vs.toArray _=Data.dict es ep:=d
    cases d'
  have nsK: ∀ {b:Addr} {m:Str->Option Value},s₁.heap.Ns b m->(Zjo s₁.heap H).Ns b m:=fun {b m} ⟨o,es,ep,e,d,r⟩=>⟨o,es,ep,base_of e (noA e d),d,r⟩
  have hKb:K.In (Zjo s₁.heap H):=fun b o e=>base_of (KX b o e) (by
   cases q:H b with
   |none=>rfl
   |some u=>
    have e':b=a:=hA b (by rw[q];simp)
    subst e'
    rw[hK (by rw[q];simp)] at e;cases e)
  have hM:Mod K mg (Zjo s₁.heap H):=⟨hKb,nsK hns,⟨mb,nsK hb,hbb⟩,let ⟨mc,h1,h2⟩:=hlim;⟨mc,nsK h1,h2⟩⟩
  have e0:Env0 P w K mg (Zjo s₁.heap H) callerA [] s₁ H:=⟨rfl,hM,fun b o e=>ZhL e,Nat.le_of_eq (ZhK _ _),trivial,fun b hb=>absurd (show b∈([]:List Addr) from hb) (by simp),hok,.of_eq hg,.inl rfl⟩
  refine codeAny_mono ((F _ hKb (nsK hns)).run callerA [] s₁ H ⟨[.ref a],[]⟩ [.ref a] [.ref a] _ _ hr e0 (hbind s₁ (.ref a)) (.cons rfl .nil) (hsp H hO hS)) fun r s' h=> ?_
  cases r with
  |error e=>exact (hCX H e s' h).elim
  |ok fl=>
   cases fl with
   |next=>exact False.elim h
   |brk=>exact False.elim h
   |cont=>exact False.elim h
   |ret u=>
    obtain ⟨v,H',os,bare,un,hok',r',q⟩:=h
    have q':v= .bl true:=q
    subst q'
    obtain rfl:u=Value.bool true:=r'
    refine ⟨rfl,OldK.of_keep fun b o e=> ?_,os,bare⟩
    cases q:H b with
    |none=>exact un.keep b o e q (by intro z;exact absurd (show b∈([]:List Addr) from z) (by simp)) (by simp)
    |some u=>
     rcases hO b with z | ⟨ob,xs,z⟩
     ·rw[q] at z;cases z
     ·have z2:=un.frzs b ob _ z
      obtain ⟨e1,_⟩:=hok b _ z
      obtain ⟨e2,_⟩:=hok' b _ z2
      rw[e] at e1;cases e1
      exact e2
 cases hk:K.lookup a with
 |some o=>
  have e:=KX a o hk
  rw[ha] at e
  cases e
  refine core (fun _=>none) (fun _=> .inl rfl) (.inr ⟨_,vs.toArray,_,hk,rfl,rfl,rfl,by rw[List.size_toArray,lenV];exact hl,by simpa using rv⟩) (fun b u z=>by have z':(none:Option HO)=some u:=z;cases z') (fun b z=>absurd rfl z) fun z=>absurd rfl z
 |none=>
  refine core (fun b=>if b=a then some (.frz { cls:= .type "list",data:= .seq vs.toArray } (.lst (ns.map V.int))) else none) (fun b=> ?_) (.inl (.inr ⟨{ cls:= .type "list",data:= .seq vs.toArray },if_pos rfl⟩)) (fun b u z=> ?_) (fun b z=> ?_) fun _=>hk
  ·by_cases hb:b=a
   ·exact .inr ⟨_,_,if_pos hb⟩
   ·exact .inl (if_neg hb)
  ·by_cases hb:b=a
   ·have z':=(if_pos hb).symm.trans z
    cases z'
    subst hb
    exact ⟨ha,by rw[List.length_map];exact hl,vs,_,rv,ha⟩
   ·have z':=(if_neg hb).symm.trans z
    cases z'
  ·by_cases hb:b=a
   ·exact hb
   ·exact absurd (if_neg hb) z
end L2
namespace L2
open PySem PySem.Spec PyProof.Rows
theorem Zlm {l:PySem.W.OpenLaw} {n k:Nat} {q:Program} {loose:List Str} {XP:(Str->Option Value)->Heap->Prop} {YP:World->Heap->Prop} {d:DefRec} {K:Params->PySem.W.Frag} {CX:World->CXT} {sp:World->Sp} {x:Str}
  (hn:l.most=some n) (hn2:n<=sizeLine) (hdf:d.params.defaults=[]) (hr:Room k callerA)
  (hY: ∀ (w:World) (h:Heap),YP w h->(K w.params).In h)
  (F: ∀ (w:World) (mg:Str->Option Value) (fa:Addr) (h:Heap),(K w.params).In h->h.Ns mainGlobals mg->mg d.name=some (.ref fa)->
   ∃ fd:FuncData,(∀ (s:Shared) (u:Value),BindsTo s fd ⟨[u],[]⟩ [(x,u)])/\
    ∀ base:Heap,(K w.params).In base->base.Ns mainGlobals mg->FnOk l.prog w (K w.params) mg base (CX w) k fa fd [x] (sp w))
  (hsp: ∀ (w:World) (H:Hp) (a:Addr) (ns:List Int),ns.length<=n->ZpK H->SqL (K w.params) H a (ns.map V.int)->sp w [.ref a] H (fun v _=>v= .bl true) fun _ _ _=>False)
  (hCX: ∀ (w:World) (H:Hp) (s:Shared) (e:Value) (s':Shared),CX w [] H s (fun _ _ _=>False) e s'->False):
  PySem.W.WalkO q loose XP YP l.row.toRowW d [] (fun f vs=>PySem.call f vs):=by
 refine Att.ZfM hn hdf fun w s₀ s₁ mg mb fa o pm cd doc a vs ns G Y ho hd hcd hmg hobj hints hlen hg=> ?_
 have KX:=hY w _ Y
 obtain ⟨fd,hb,hF⟩:=F w mg fa _ KX G.T.g hmg
 exact ZjF KX G.T.g G.T.b G.T.builtins G.T.nolimit hg hobj hints (Nat.le_trans hlen hn2) hr hF hb (fun H hO hS=>hsp w H a ns hlen hO hS) fun H e s'=>hCX w H s₁ e s'
end L2
namespace L2
open PySem PySem.Spec PyProof.Rows
noncomputable def Zo (s:Stmt):Arguments:=match s with
 | .FunctionDef _ a _ _ _ _ _ _ _ _=>a
 |_=>{ posonlyargs:=[],args:=[],vararg:=none,kwonlyargs:=[],kw_defaults:=[],kwarg:=none,defaults:=[] }
noncomputable def Zn (s:Stmt):List Stmt:=match s with
 | .FunctionDef _ _ b _ _ _ _ _ _ _=>b
 |_=>[]
noncomputable def Zh (s:Stmt):Scope:=match s with
 | .FunctionDef _ _ _ _ _ _ sc _ _ _=>sc
 |_=>{ kind:= .function,names:=[],isGenerator:=false,isCoroutine:=false }
noncomputable abbrev E0:XK:=fun _ _ _=>False
structure Fun (K:PySem.W.Frag) (x qual:Str) (st:Stmt) (f:Addr) (fd:FuncData):Prop where
 ex: ∃ (oc:Value) (od:Option Addr) (kV doc pm:Value) (an:Option Addr) (cdv ct:Value) (osl:Array (Option Value)),
  fd=PySem.W.fnOf x qual (Zo st) (Zn st) (Zh st) .none kV doc pm an cdv ct/\K.lookup f=some ⟨oc,od,.func fd,osl⟩/\PySem.W.codeIn K cdv qual=true
 kp:PySem.W.keepIn K (.ref f)=true
section
variable {P:Program} {w:World} {K:PySem.W.Frag} {mg:Str->Option Value} {base:Heap}
theorem Fun.binds {x qual:Str} {st:Stmt} {f:Addr} {fd:FuncData} {ps:List Str} (F:Fun K x qual st f fd)
  (h: ∀ (kV doc pm:Value) (an:Option Addr) (cdv ct:Value) (us:List Value),us.length=ps.length->bindArgs (PySem.W.fnOf x qual (Zo st) (Zn st) (Zh st) .none kV doc pm an cdv ct) ⟨us,[]⟩=pure (ps.zip us)):ZfL K fd ps []:=by
 obtain ⟨oc,od,kV,doc,pm,an,cdv,ct,osl,rfl,lk,hcd⟩:=F.ex
 exact .all (h kV doc pm an cdv ct)
theorem ZB {x qual:Str} {st:Stmt} {f:Addr} {oc:Value} {od an:Option Addr} {osl:Array (Option Value)} {kV doc pm cdv ct:Value} (l:K.lookup f=some ⟨oc,od,.func (PySem.W.fnOf x qual (Zo st) (Zn st) (Zh st) .none kV doc pm an cdv ct),osl⟩)
  (c:PySem.W.codeIn K cdv qual=true) (k:PySem.W.keepIn K (.ref f)=true):Fun K x qual st f (PySem.W.fnOf x qual (Zo st) (Zn st) (Zh st) .none kV doc pm an cdv ct):=⟨⟨oc,od,kV,doc,pm,an,cdv,ct,osl,rfl,l,c⟩,k⟩
end
theorem Zh5 {n:Nat} (h:n<=1000):n < sizeLine:=Nat.lt_of_le_of_lt h (by decide)
section
variable {X:Cx}
theorem pv (i:Nat) {x:Str} {pos:Pos} (hN:X.N[i]?=some x:=by rfl) (hv:Vis X.env.scope x:=by first | exact Or.inl rfl | exact Or.inr (Or.inl rfl) | exact Or.inr (Or.inr rfl)) (hd:(x == ("__debug__":Str))=false:=by decide)
  (hcd:(x == ("__classdict__":Str))=false:=by decide):PE X (.Name x pos) (ZrU i):=Zks hN hv hd hcd
end
theorem Zkx {A B:Prop} (h:B):if false=true then A else B:=by
 rw[if_neg Bool.false_ne_true]
 exact h
theorem Zky {A B:Prop} (h:A):if true=true then A else B:=by
 rw[if_pos rfl]
 exact h
end L2
end
section
namespace L2
open PySem PySem.Spec PyProof.Rows
end L2
namespace L2
open PySem PySem.Spec PyProof.Rows
section
variable (P:Program) (w:World)
end
section
variable {P:Program} {w:World} {H H':Hp} {h h':Heap} {a:Addr} {o:HO}
end
section
variable {P:Program} {w:World} {H:Hp} {h h':Heap} {x e:Addr} {o':HO}
end
section
variable {fs fs' ex ex':List Addr} {H H1 H2:Hp} {h h1 h2 h':Heap} {a x e:Addr} {o:HO}
end
end L2
namespace L2
open PySem PySem.Spec PyProof.Rows
section
variable {X:Cx} {pins:List (Addr × Obj)} {σ:List (Option V)} {H H':Hp} {s:Shared} {h':Heap}
end
end L2
namespace L2
open PySem PySem.Spec PyProof.Rows
section
variable {X:Cx}
variable {a b:Expr} {ta tb:TE} {pos:Pos}
variable {tA tB':TT} {rest:List Expr}
end
end L2
namespace L2
open PySem PySem.Spec PyProof.Rows
section
variable {X:Cx} {pins:List (Addr × Obj)} {σ:St} {H:Hp} {s:Shared} {a:Addr} {xs ys:List V}
end
section
variable {X:Cx} {pins:List (Addr × Obj)} {σ:St} {H:Hp} {s:Shared} {E:Value->Shared->Prop}
end
section
variable {X:Cx} {st:Stmt} {rest:List Stmt} {t u:TS} {e:Expr} {te:TE} {pos:Pos}
end
section
variable {X:Cx} {pos:Pos}
end
section
variable {X:Cx} {pos:Pos}
end
end L2
namespace L2
open PySem PySem.Spec PyProof.Rows
section
variable {X:Cx} {tg:Expr}
end
end L2
namespace L2
open PySem PySem.Spec PyProof.Rows
section
variable {X:Cx} {a b c:Expr} {ta tb tc:TE} {pos:Pos}
end
section
variable {X:Cx} {a b c:Expr} {ta tb tc:TE} {pos:Pos}
end
end L2
namespace L2
open PySem PySem.Spec PyProof.Rows
section
variable {prog:Program} {w:World} {A:Around} {E:Value->Shared->Prop} {s:Shared} {K:PySem.W.Frag} {x dx C f:Addr} {mA:Str->Option Value} {name:Str} {v:Value}
end
section
variable {P:Program} {w:World} {H H':Hp} {h h':Heap} {a C dx:Addr} {fs fs':List (Str × V)}
end
section
variable {X:Cx} {pins:List (Addr × Obj)} {σ:St} {H:Hp} {s:Shared} {a C dx:Addr} {fs:List (Str × V)} {f:Str} {v:V} {A:Around} {E:Value->Shared->Prop}
end
section
variable {X:Cx} {o e value:Expr} {f:Str} {pos pos' tpos:Pos} {ta tv:TE}
end
section
variable {X:Cx} {pins:List (Addr × Obj)} {σ:St} {H:Hp} {s:Shared} {A:Around} {E:Value->Shared->Prop} {Q:Value->Shared->Prop} {c:Value} {b:Bool}
end
end L2
namespace L2
open PySem PySem.Spec PyProof.Rows
section
variable {X:Cx} {e:Expr} {es:List Expr} {te:TE} {t:TA} {pos:Pos}
end
section
variable {X:Cx} {pins:List (Addr × Obj)} {σ:St} {H:Hp} {s s':Shared}
end
section
variable {X:Cx} {CX:CXT} {k:Nat} {f C:Addr} {fd:FuncData} {ps:List Str} {sp:Sp} {dvs:List V} {ds:List Value} {E:XK} {x m:Str} {p pos apos:Pos} {e o:Expr} {es:List Expr} {ta:TE} {t:TA}
end
section
variable {X:Cx} {CX:CXT} {k:Nat} {f C:Addr} {fd:FuncData} {ps ks:List Str} {sp:Sp} {E:XK} {x m:Str} {p pos apos kpos:Pos} {e o:Expr} {es:List Expr} {kws:List Keyword} {te ta:TE} {t tk:TA} {nm:Option Str}
variable {g:List Value->List Value->List Value} {gV:List V->List V->List V}
end
end L2
namespace L2
open PySem PySem.Spec PyProof.Rows
section
variable {X:Cx} {x:Str} {p pos:Pos} {e:Expr} {es:List Expr} {t:TA} {id T:String} {r:List V->Hp->VK->Prop}
end
end L2
namespace L2
open PySem PySem.Spec PyProof.Rows
section
variable {κ:Type} [DecidableEq κ]
noncomputable def ZfG (kvs:List (κ × V)) (k:κ):Option V:=(kvs.find? fun kv=>decide (kv.1=k)).map (·.2)
noncomputable def Zh6 (kvs:List (κ × V)) (k:κ) (v:V):List (κ × V):=
 if (kvs.any fun kv=>decide (kv.1=k))=true then kvs.map (fun kv=>if kv.1=k then (kv.1,v) else kv) else kvs ++ [(k,v)]
theorem ZcY {p:κ × V} {r:List (κ × V)} {k:κ} (e:p.1=k):ZfG (p :: r) k=some p.2:=by simp[ZfG,List.find?_cons,e]
theorem ZcZ {p:κ × V} {r:List (κ × V)} {k:κ} (e: ¬ p.1=k):ZfG (p :: r) k=ZfG r k:=by simp[ZfG,List.find?_cons,e]
theorem Zee (k:κ): ∀ kvs:List (κ × V),(kvs.any fun kv=>decide (kv.1=k))=(ZfG kvs k).isSome
 | []=>rfl
 |p :: r=>by
  rw[List.any_cons]
  by_cases e:p.1=k
  ·simp only[ZcY e,decide_eq_true e,Bool.true_or,Option.isSome_some]
  ·rw[ZcZ e,decide_eq_false e,Bool.false_or];exact Zee k r
theorem ZfN (kvs:List (κ × V)) (k:κ) (v:V):(Zh6 kvs k v).length<=kvs.length + 1:=by
 unfold Zh6
 split
 ·rw[List.length_map];omega
 ·rw[List.length_append,List.length_cons,List.length_nil];omega
theorem ZmD.isSome_eq {o:Option V} {u:Option Value} (r:ZmD o u):o.isSome=u.isSome:=by
 cases o with
 |none=>cases u with
  |none=>rfl
  |some _=>exact (show False from r).elim
 |some _=>cases u with
  |none=>exact (show False from r).elim
  |some _=>rfl
theorem KV.val {kvs:List (κ × V)} {vs:List (κ × Value)} (r:KV kvs vs) (k:κ):ZmD (ZfG kvs k) (valueAt vs k):=by
 unfold KV at r
 induction r with
 |nil=>exact True.intro
 | @cons p q ps qs h t ih=>
  obtain ⟨h1,h2⟩:=h
  by_cases e:p.1=k
  ·have e':q.1=k:=h1.symm.trans e
   have b:valueAt (q :: qs) k=some q.2:=by simp[valueAt,List.find?_cons,e']
   rw[ZcY e,b];exact h2
  ·have e': ¬ q.1=k:=fun z=>e (h1.trans z)
   have b:valueAt (q :: qs) k=valueAt qs k:=by simp[valueAt,List.find?_cons,e']
   rw[ZcZ e,b];exact ih
end
theorem Znc {P:Program} {w:World} {k:Key} {u:Value} (r:Z4 (kV k) u):(ZaQ P w).is k u=true:=by
 cases k with
 |inl i=>obtain ⟨t,e⟩:=(show ∃ t,u=Value.int i t from r);subst e;exact ZfI P w i t
 |inr x=>obtain ⟨t,e⟩:=(show ∃ t,u=Value.str x t from r);subst e;exact ZfJ P w x t
theorem Ze0 {P:Program} {w:World}: ∀ {ks:List Key} {us:List Value},Z8 (ks.map kV) us->ItemsAre (ZaQ P w) ks us
 | [],_,r=>by rw[List.map_nil] at r;cases r;exact .nil
 |k :: ks,_,r=>by
  rw[List.map_cons] at r
  cases r with
  |cons h t=>exact .cons (Znc h) (Ze0 t)
noncomputable abbrev KT (H:Hp):List (List Key × V)->List (List Key × Addr × Value)->Prop:=Paired fun p q=>p.1=q.1/\H q.2.1=some (.tup (p.1.map kV))/\Z4 p.2 q.2.2
theorem KT.val {H:Hp} {kvs:List (List Key × V)} {xs:List (List Key × Addr × Value)} (r:KT H kvs xs) (k:List Key):ZmD (ZfG kvs k) ((atKey xs k).map (·.2)):=by
 induction r with
 |nil=>exact True.intro
 | @cons p q ps qs h t ih=>
  obtain ⟨h1,_,h2⟩:=h
  by_cases e:p.1=k
  ·have e':q.1=k:=h1.symm.trans e
   have b:atKey (q :: qs) k=some q.2:=by simp[atKey,List.find?_cons,e']
   rw[ZcY e,b];exact h2
  ·have e': ¬ q.1=k:=fun z=>e (h1.trans z)
   have b:atKey (q :: qs) k=atKey qs k:=by simp[atKey,List.find?_cons,e']
   rw[ZcZ e,b];exact ih
theorem KT.repl {H:Hp} {kvs:List (List Key × V)} {xs:List (List Key × Addr × Value)} (r:KT H kvs xs) (k:List Key) {y:V} {u:Value} (ry:Z4 y u):
  KT H (kvs.map fun kv=>if kv.1=k then (kv.1,y) else kv) (xs.map (putAt k u)):=by
 induction r with
 |nil=>exact .nil
 | @cons p q ps qs h t ih=>
  rw[List.map_cons,List.map_cons]
  refine .cons ?_ ih
  obtain ⟨h1,h2,h3⟩:=h
  unfold putAt
  by_cases e:p.1=k
  ·rw[if_pos e,if_pos (h1.symm.trans e)];exact ⟨h1,h2,ry⟩
  ·rw[if_neg e,if_neg (fun z=>e (h1.trans z))];exact ⟨h1,h2,h3⟩
theorem KT.put {H:Hp} {kvs:List (List Key × V)} {xs:List (List Key × Addr × Value)} (r:KT H kvs xs) (k:List Key) {b:Addr} {y:V} {u:Value} (hb:H b=some (.tup (k.map kV))) (ry:Z4 y u):
  KT H (Zh6 kvs k y) (storedH xs k b u):=by
 have e:(kvs.any fun kv=>decide (kv.1=k))=(atKey xs k).isSome:=by
  rw[Zee,(r.val k).isSome_eq,Option.isSome_map]
 unfold Zh6 storedH
 rw[e]
 by_cases q:(atKey xs k).isSome=true
 ·rw[if_pos q,if_pos q];exact r.repl k ry
 ·rw[if_neg q,if_neg q];exact Paired.snoc r ⟨rfl,hb,ry⟩
theorem KT.keeps {H H':Hp} {kvs:List (List Key × V)} {xs:List (List Key × Addr × Value)} (r:KT H kvs xs) (ht: ∀ b ys,H b=some (.tup ys)->H' b=some (.tup ys)):KT H' kvs xs:=
 Paired.mapP r fun _ _ z=>⟨z.1,ht _ _ z.2.1,z.2.2⟩
section
variable {P:Program} {w:World} {H:Hp} {h:Heap} {a:Addr}
theorem Znd {u:HO} (ok:HOk P w H h) (e:Rd H a u):Zbg P w H h a u:=e.ok ok
theorem Zqb {kvs:List (Key × V)} (ok:HOk P w H h) (e:Rd H a (.dK kvs)):kvs.length<=sizeLine/\(a == sysModules)=false/\ ∃ vs,KV kvs vs/\h.DictOf (ZaQ P w) a vs:=
 show Zbg P w H h a (.dK kvs) from Znd ok e
theorem Zh7 {ks:List Key} (ok:HOk P w H h) (e:H a=some (.tup (ks.map kV))):(tupleKind (ZaQ P w)).is h ks a:=by
 obtain ⟨_,its,r,o,h1,h2,n,h3⟩:=(show Zbg P w H h a (.tup (ks.map kV)) from ok a _ e)
 exact ⟨o,its.toArray,n,h1,h2,h3,by simpa using Ze0 r⟩
theorem Zne {kvs:List (List Key × V)} (ok:HOk P w H h) (e:Rd H a (.dT kvs)):kvs.length<=sizeLine/\(a == sysModules)=false/\
  ∃ xs,KT H kvs xs/\h.DictOfH (tupleKind (ZaQ P w)) a xs:=by
 obtain ⟨z,y,xs,r,o,es,ep,h1,h2,h3,h4,h5⟩:=(show Zbg P w H h a (.dT kvs) from Znd ok e)
 refine ⟨z,y,xs,r,o,es,ep,h1,h2,h3,h4,fun x hx=> ?_,h5⟩
 have all: ∀ {l:List (List Key × V)} {m:List (List Key × Addr × Value)},KT H l m-> ∀ x∈m,(tupleKind (ZaQ P w)).is h x.1 x.2.1:=by
  intro l m q
  induction q with
  |nil=>intro x hx;exact nomatch hx
  | @cons p q ps qs hq t ih=>
   intro x hx
   rcases List.mem_cons.mp hx with e | hx
   ·subst e
    exact Zh7 ok (by rw[<- hq.1];exact hq.2.1)
   ·exact ih x hx
 exact all r x hx
theorem ZjG {kvs:List (List Key × V)} (ok:HOk P w H h) (e:H a=some (.dT kvs)):kvs.length<=sizeLine/\(a == sysModules)=false/\
  ∃ xs,KT H kvs xs/\h.DictOfH (tupleKind (ZaQ P w)) a xs:=Zne ok (.inl e)
end
noncomputable def Zqc (H:Hp) (a:Addr) (y:V) (r:Option V):Prop:=
 (∃ kvs k,Rd H a (.dK kvs)/\y=kV k/\r=ZfG kvs k)\/ ∃ kvs k b,Rd H a (.dT kvs)/\y= .ref b/\H b=some (.tup (k.map kV))/\r=ZfG kvs k
section
variable {X:Cx} {pins:List (Addr × Obj)} {σ:St} {H:Hp} {s:Shared} {a:Addr} {y v:V} {u r:Value} {o:Option V} {A:Around} {E:Value->Shared->Prop}
theorem Inv.big (I:Inv X pins σ H s):sysModules < s.heap.objs.size:=by
 have h:mainGlobals < s.heap.objs.size:=(I.mod.glob.keeps I.bk).lt
 exact Nat.lt_trans (by decide) h
theorem Zti {Q:Value->Shared->Prop} (hu:A.units + 1 < cLine) (I:Inv X pins σ H s) (g:Zqc H a y o) (ry:Z4 y u) (h: ∀ s',Inv X pins σ H s'->Q (.bool o.isSome) s'):
  wpAny (model X.prog X.w) A (compareOp .In u (.ref a)) Q E s:=by
 rcases g with ⟨kvs,k,e,ey,l⟩ | ⟨kvs,k,b,e,ey,eb,l⟩
 ·subst ey
  obtain ⟨z,hd,vs,rel,dd⟩:=Zqb I.hok e
  refine wpAny_in_of (Znc ry) hd dd.mapOf ?_
  rw[<- (rel.val k).isSome_eq,<- l]
  exact h _ (I.tok _)
 ·subst ey
  cases (show u=Value.ref b from ry)
  obtain ⟨z,hd,xs,rel,dd⟩:=Zne I.hok e
  refine wpAny_in_heap (tupleKind_room_in1 hu) (Zh7 I.hok eb) hd dd ?_
  have q:=(rel.val k).isSome_eq
  rw[Option.isSome_map] at q
  rw[<- q,<- l]
  exact h _ (I.tok _)
theorem Zln {h':Heap} {t':Nat} {ob:HO} (I:Inv X pins σ H s) (mu:Mut (H a)) (hs:Heap.SameBut a s.heap h') (he: ∃ q,h'.get? a=some q) (new:Zbg X.prog X.w (upd H a ob) h' a ob):
  Inv X pins σ (upd H a ob) { s with heap:=h',toks:=t' }:=
 I.write (x:=a) (e:=a) mu (.inl rfl) (fun b q hb z=>(hs.2 b hb).trans z) he new
end
section
variable {X:Cx} {pins:List (Addr × Obj)} {σ:St} {H:Hp} {s:Shared} {a:Addr} {kvs:List (Key × V)} {k:Key} {u:Value} {A:Around} {E:Value->Shared->Prop}
end
section
variable {X:Cx} {o i e value:Expr} {pos pos' tpos:Pos} {td ty tv:TE}
end
theorem ZjH {P:Program} {w:World} {H:Hp} (h:Heap) (hb:sysModules < h.objs.size):Zbg P w H (h.push { cls:= .type "dict",data:= .dict #[] }) h.objs.size (.dT []):=
 ⟨Nat.zero_le _,beq_eq_false_iff_ne.mpr (Ne.symm (Nat.ne_of_lt hb)),[],.nil,_,#[],0,Heap.get?_push_size _ rfl,⟨rfl,rfl,rfl⟩,rfl,rfl,List.nodup_nil⟩
section
variable {X:Cx} {pos:Pos}
end
structure M1 (X:Cx) (o:Expr) (m:Str) (apos:Pos) (e:Expr) (cpos:Pos):Prop where
 base:attributeBase o m X.env (eval o X.env)=eval o X.env
 few:((backTo cpos (starEach [e] X.env)).all (fun x=> !x.1) && (backToKw cpos (keywordEach [] X.env)).all (fun x=>x.1.isSome)
  && decide (([e]:List Expr).length + ([]:List Keyword).length + (if ([]:List Keyword).isEmpty then 0 else 1) < 30))=true
 line:(apos.endLine == cpos.line)=true
 trees:backTo cpos (starEach [e] X.env)=[(false,eval e X.env)]
structure M2 (X:Cx) (o:Expr) (m:Str) (apos:Pos) (e f:Expr) (cpos:Pos):Prop where
 base:attributeBase o m X.env (eval o X.env)=eval o X.env
 few:((backTo cpos (starEach [e,f] X.env)).all (fun x=> !x.1) && (backToKw cpos (keywordEach [] X.env)).all (fun x=>x.1.isSome)
  && decide (([e,f]:List Expr).length + ([]:List Keyword).length + (if ([]:List Keyword).isEmpty then 0 else 1) < 30))=true
 line:(apos.endLine == cpos.line)=true
 trees:backTo cpos (starEach [e,f] X.env)=[(false,eval e X.env),(false,eval f X.env)]
noncomputable def IsD (H:Hp) (a:Addr):Prop:=(∃ kvs,Rd H a (.dK kvs))\/ ∃ kvs,Rd H a (.dT kvs)
section
variable {X:Cx} {pins:List (Addr × Obj)} {σ:St} {H:Hp} {s:Shared} {a:Addr} {y d:V} {u r:Value} {o:Option V} {A:Around} {E:Value->Shared->Prop}
end
section
variable {X:Cx} {o e f:Expr} {apos cpos:Pos} {td ty tx:TE}
end
section
variable {X:Cx} {pins:List (Addr × Obj)} {σ:St} {H:Hp} {s:Shared} {a:Addr} {kvs:List (Key × V)} {A:Around} {E:Value->Shared->Prop}
end
section
variable {X:Cx} {pins:List (Addr × Obj)} {σ:St} {H:Hp} {s:Shared} {a:Addr} {y:V} {u:Value} {A:Around} {E:Value->Shared->Prop}
end
end L2
namespace Att
open PySem PySem.W PySem.Calls PyProof.Rows
section
variable {prog:Program} {w:World} {A:Around} {E:Value->Shared->Prop} {s:Shared} {K:Frag}
end
end Att
namespace L2
open PySem PySem.Spec PyProof.Rows
end L2
namespace L2
open PySem PySem.Spec PyProof.Rows
end L2
namespace L2
open PySem PySem.Spec PyProof.Rows
section
variable {P:Program} {w:World} {K:PySem.W.Frag} {mg:Str->Option Value} {base:Heap}
end
section
variable {X:Cx}
end
section
variable {κ:Type} [DecidableEq κ]
end
end L2
end
section
namespace DQ
open PySem PySem.Spec PyProof.Rows
structure Fly (B:Heap) (l:List Env) (e:Addr) (cls:Value) (dct:Option Addr) (fl:Value) (h:Heap):Prop where
 stay:B.StaysIn h
 new:B.get? e=none
 frames:h.FunFrames B l
 obj: ∃ oe vs T oT ts,h.get? e=some oe/\oe.cls=cls/\oe.dict=dct/\oe.data= .fields vs/\vs[2]?=some .none/\vs[1]?=some (.ref T)/\B.get? T=none/\T≠e/\h.get? T=some oT/\oT.data= .fields ts/\ts[3]?=some fl
theorem Fly.tail {B:Heap} {env:Env} {l:List Env} {e:Addr} {cls:Value} {dct:Option Addr} {fl:Value} {h:Heap} (f:Fly B (env :: l) e cls dct fl h):Fly B l e cls dct fl h:=⟨f.stay,f.new,f.frames.2.2,f.obj⟩
section
variable {M:Model} {A:Around} {E:Value->Shared->Prop} {s:Shared} {B:Heap} {env:Env} {outer l:List Env} {L e:Addr} {cls:Value} {dct:Option Addr} {fl:Value}
theorem apart {h:Heap} {oe:Obj} {vs:Array Value} (hl:h.FunFrames B l) (he:h.get? e=some oe) (hd:oe.data= .fields vs):e ∉ l.filterMap (·.frame):=fun z=>by
 obtain ⟨_,o,h1,h2⟩:=hl.mem z
 rw[he] at h1
 cases h1
 exact h2 vs hd
theorem Zc9 {oe:Obj} {vs:Array Value} {head:Value} {hn:Bool} {Q:Unit->Shared->Prop} (hfr:A.frames=some (env :: outer)) (hl:s.heap.FunFrames B (env :: outer)) (hf:env.frame=some L)
  (he:s.heap.get? e=some oe) (hs:B.StaysIn s.heap) (hb:B.get? e=none) (hd:oe.data= .fields vs) (hz:2 < vs.size) (h2:vs[2]?=some .none)
  (h: ∀ h',Fly B (env :: outer) e oe.cls oe.dict (rawInt L) h'->s.heap.UpToSlots h'->Q () { s with heap:=h' }):
  wpAny M A (frameOf env >>= fun a=>entryPlaceOf L hn >>= fun pl=>EntryCells.newEntry head a .none (rawInt L) .none pl >>= fun b=>setField (.ref e) 1 b) Q E s:=by
 have ne:=apart hl he hd
 refine wpAny_bind (wpAny_frameOf_fun hfr hl hf fun h1 k1=>wpAny_bind (wpAny_entryPlaceOf fun pl hpl=>wpAny_bind ?_))
 unfold EntryCells.newEntry newFields
 refine wpAny_newObj_type ?_ (hpl.sizeOk5 _ _ _ _ _)
 generalize hT:([head,Value.ref L,Value.none,rawInt L,Value.none] ++ (if pl.isEmpty then List.replicate 6 Value.none else pl)).toArray=ts
 have h3:ts[3]?=some (rawInt L):=by
  rw[<- hT]
  rcases hpl with rfl | ⟨_,_,_,_,_,_,_,rfl⟩<;>simp
 have e1:h1.get? e=some oe:=(k1.2.1 e ne).trans he
 have s1:B.StaysIn h1:=fun b o hbo=>(k1.2.1 b fun z=>by rw[(hl.mem z).1] at hbo;cases hbo).trans (hs b o hbo)
 generalize hoT:({ cls:= .type "traceback",dict:=none,data:= .fields ts }:Obj)=oT
 have dT:oT.data= .fields ts:=by rw[<- hoT]
 have fT:oT.isFreed=false:=Obj.isFreed_of_fields dT
 have e2:(h1.push oT).get? e=some oe:=Heap.get?_push_of_some _ e1
 have nT:h1.objs.size≠e:=Nat.ne_of_gt (Heap.lt_size e1)
 refine wpAny_setField e2 hd (Nat.lt_trans (by decide) hz) (h _ ?_ ?_)
 ·have d3:=Obj.data_mapFields hd (·.setIfInBounds 1 (Value.ref h1.objs.size))
  have e3:=Heap.get?_update_self (Obj.mapFields (·.setIfInBounds 1 (Value.ref h1.objs.size))) e2 (Obj.isFreed_of_fields d3)
  have keep: ∀ b o,b≠e->h1.get? b=some o->((h1.push oT).update e (Obj.mapFields (·.setIfInBounds 1 (Value.ref h1.objs.size)))).get? b=some o:=fun b o hbe x=>by
   rw[Heap.get?_update_other _ _ (Ne.symm hbe)]
   exact Heap.get?_push_of_some _ x
  have gT:(h1.push oT).get? h1.objs.size=some oT:=Heap.get?_push_size _ fT
  refine ⟨fun b o x=>keep b o (fun z=>by rw[z,hb] at x;cases x) (s1 b o x),hb,hl.of_keeps fun b o x y=> ?_,_,_,h1.objs.size,oT,ts,e3,Obj.cls_mapFields _ _,?_,d3,?_,?_,s1.fresh,nT,?_,dT,h3⟩
  ·obtain ⟨sl,z⟩:=k1.2.2 b o x
   exact ⟨_,keep b _ (fun w=>y vs (by rw[w,he] at x;cases x;exact hd)) z,rfl⟩
  ·obtain ⟨c,d,dd,sl⟩:=oe
   cases hd
   rfl
  ·rw[Array.getElem?_setIfInBounds_ne (by decide)]
   exact h2
  ·rw[Array.getElem?_setIfInBounds_self_of_lt (Nat.lt_trans (by decide) hz)]
  ·rw[Heap.get?_update_other _ _ (Ne.symm nT)]
   exact gT
 ·intro b o x y
  obtain ⟨sl,z⟩:=k1.2.2 b o x
  refine ⟨sl,?_⟩
  rw[Heap.get?_update_other _ _ (fun w=>y vs (by rw[<- w,he] at x;cases x;exact hd))]
  exact Heap.get?_push_of_some _ z
theorem Zc0 {Q:Unit->Shared->Prop} (f:Fly B l e cls dct fl s.heap) (h: ∀ h',Fly B l e cls dct .none h'->s.heap.UpToSlots h'->Q () { s with heap:=h' }):wpAny M A (setFlight (.ref e) none) Q E s:=by
 obtain ⟨st,nw,fr,oe,vs,T,oT,ts,g1,g2,g3,g4,g5,g6,g7,g8,g9,g10,g11⟩:=f
 have hz:3 < ts.size:=(Array.getElem?_eq_some_iff.mp g11).1
 unfold setFlight
 refine wpAny_bind (wpAny_field g1 g4 g6 ?_)
 rw[if_pos (by simp)]
 have oth: ∀ b o,b≠T->s.heap.get? b=some o->(s.heap.update T (Obj.mapFields (·.setIfInBounds 3 Value.none))).get? b=some o:=fun b o hb x=>by
  rw[Heap.get?_update_other _ _ (Ne.symm hb)]
  exact x
 have nr: ∀ b o,s.heap.get? b=some o->(∀ vs,o.data≠ .fields vs)->b≠T:=fun b o x y z=>by
  rw[z,g9] at x
  cases x
  exact y ts g10
 refine wpAny_setField g9 g10 hz (h _ ⟨fun b o x=>oth b o (fun z=>by rw[z,g7] at x;cases x) (st b o x),nw,fr.of_keeps fun b o x y=>⟨o,oth b o (nr b o x y) x,rfl⟩,?_⟩ fun b o x y=>⟨o.slots,oth b o (nr b o x y) x⟩)
 exact ⟨oe,vs,T,_,_,oth e oe (Ne.symm g8) g1,g2,g3,g4,g5,g6,g7,g8,Heap.get?_update_self _ g9 (Obj.isFreed_of_fields (Obj.data_mapFields g10 _)),Obj.data_mapFields g10 _,by rw[Array.getElem?_setIfInBounds_self_of_lt hz];rfl⟩
theorem Zgv {Q:Unit->Shared->Prop} (hfr:A.frames=some (env :: outer)) (hf:env.frame=some L) (f:Fly B (env :: outer) e cls dct .none s.heap)
  (h: ∀ h',Fly B (env :: outer) e cls dct (rawInt L) h'->s.heap.UpToSlots h'->Q () { s with heap:=h' }):wpAny M A (noteFrame (.ref e) env) Q E s:=by
 obtain ⟨st,nw,fr,oe,vs,T,oT,ts,g1,g2,g3,g4,g5,g6,g7,g8,g9,g10,g11⟩:=f
 unfold noteFrame
 simp only[hf]
 refine wpAny_bind (wpAny_field g1 g4 g6 ?_)
 rw[if_pos (by simp)]
 refine wpAny_bind (wpAny_field g9 g10 g11 ?_)
 rw[if_neg (by simp[rawInt])]
 have oth: ∀ b o,b≠T->s.heap.get? b=some o->(s.heap.update T (Obj.mapFields (·.setIfInBounds 3 Value.none))).get? b=some o:=fun b o hb x=>by
  rw[Heap.get?_update_other _ _ (Ne.symm hb)]
  exact x
 have nr: ∀ b o,s.heap.get? b=some o->(∀ vs,o.data≠ .fields vs)->b≠T:=fun b o x y z=>by
  rw[z,g9] at x
  cases x
  exact y ts g10
 refine wpAny_bind (wpAny_setField g9 g10 (Array.getElem?_eq_some_iff.mp g11).1 ?_)
 refine Zc9 hfr (fr.of_keeps fun b o x y=>⟨o,oth b o (nr b o x y) x,rfl⟩) hf (oth e oe (Ne.symm g8) g1) (fun b o x=>oth b o (fun z=>by rw[z,g7] at x;cases x) (st b o x)) nw g4 (Array.getElem?_eq_some_iff.mp g5).1 g5 fun h' k1 k2=>h h' (g2 ▸ g3 ▸ k1) ?_
 intro b o x y
 exact k2 b o (oth b o (nr b o x y) x) y
theorem Zh8 {Q:Unit->Shared->Prop} (hfr:A.frames=some (env :: outer)) (hf:env.frame=some L) (f:Fly B (env :: outer) e cls dct .none s.heap)
  (h: ∀ h',Fly B outer e cls dct .none h'->s.heap.UpToSlots h'->Q () { s with heap:=h' }):wpAny M A (leaving env (.ref e)) Q E s:=by
 unfold leaving
 refine wpAny_bind (Zgv hfr hf f fun h1 k1 u1=> ?_)
 exact Zc0 (s:={ s with heap:=h1 }) k1 fun h2 k2 u2=>h h2 k2.tail (u1.trans u2)
theorem Zh9 {oe:Obj} {vs:Array Value} {Q:Unit->Shared->Prop} (hfr:A.frames=some (env :: outer)) (hf:env.frame=some L) (hl:s.heap.FunFrames B (env :: outer)) (he:s.heap.get? e=some oe) (hs:B.StaysIn s.heap) (hb:B.get? e=none) (hd:oe.data= .fields vs) (h1:vs[1]?=some .none) (h2:vs[2]?=some .none)
  (h: ∀ h',Fly B outer e oe.cls oe.dict .none h'->s.heap.UpToSlots h'->Q () { s with heap:=h' }):wpAny M A (leaving env (.ref e)) Q E s:=by
 unfold leaving noteFrame
 simp only[hf]
 refine wpAny_bind (wpAny_bind (wpAny_field he hd h1 ?_))
 rw[if_neg (by decide)]
 refine Zc9 hfr hl hf he hs hb hd (Array.getElem?_eq_some_iff.mp h2).1 h2 fun h' k1 u1=> ?_
 exact Zc0 (s:={ s with heap:=h' }) k1 fun h2 k2 u2=>h h2 k2.tail (u1.trans u2)
end
end DQ
end
section
namespace DQ
open PySem PySem.Spec PyProof.Rows
open PySem.W (Looks findIn mroIn specialIn takesIn clsIn looks_findIn looks_mroIn looks_find findObj KitX)
structure ExcC (K:PySem.W.Frag) (C:Addr):Prop where
 ga:findIn K (.ref C) "__getattribute__"=some (some (.builtin "BaseException.__getattribute__"))
 gt:findIn K (.ref C) "__getattr__"=some none
 cl:findIn K (.ref C) "__class__"=some (some (.builtin "object.__class__"))
 gs:specialIn K (.builtin "object.__class__") "__get__"=some (some (.builtin "getset_descriptor.__get__"))
 tk:takesIn K (.builtin "object.__class__")=some true
 bx:mroIn K C (.type "BaseException")=some true
 ob:mroIn K C (.type "object")=some true
 is:(clsIn K C).isSome=true
section
variable {prog:Program} {w:World} {A:Around} {E:Value->Shared->Prop} {s:Shared} {K:PySem.W.Frag} {e C:Addr} {oe:Obj} {od:Option Obj}
theorem ZjI {nameV:Value} {Q:Unit->Shared->Prop} (c:ExcC K C) (X:K.In s.heap) (I:PySem.W.InstAt s.heap e oe C od) (h:Q () s):wpAny (model prog w) A (checkBuiltinCall "BaseException.__getattribute__" ⟨[.ref e,nameV],[]⟩) Q E s:=by
 have hk:builtinKind "BaseException.__getattribute__"=some .slot:=by decide +kernel
 have hp:splitId "BaseException.__getattribute__"=some ("BaseException","__getattribute__"):=by decide +kernel
 obtain ⟨hh,g,d,t,os⟩:=s
 have L0:=I.type (M:=model prog w)
 have L1:=looks_mroIn (M:=model prog w) X c.bx
 have ha:=F.args_bexc_ga (.ref e) nameV
 simp only[checkBuiltinCall,hk,hp]
 refine wpAny_bind (wpAny_bind (L0.at (L1.at ?_)))
 repeat (any_goals (first | assumption | wp_step))
theorem Zia {tk:Tok} {Q:Fin->Shared->Prop} (c:ExcC K C) (X:K.In s.heap) (I:PySem.W.InstAt s.heap e oe C od) (h:Q (.done (.ret (.ref C))) s):
  wpAny (model prog w) A (Builtin.«object.__getattribute__» ⟨[.ref e,.str "__class__" tk],[]⟩) Q E s:=by
 have hf:findObj K C od "__class__"=some (.bind (.builtin "getset_descriptor.__get__") (.builtin "object.__class__")):=by
  obtain ⟨cd,hc⟩:=Option.isSome_iff_exists.mp c.is
  unfold findObj
  rw[hc,Option.bind_some,c.cl,Option.bind_some]
  simp[c.gs,c.tk]
 have fin: ∀ {E':Value->Shared->Prop} {Q':Value->Shared->Prop},Q' (.ref C) s->wpAny (model prog w) A (call (.builtin "getset_descriptor.__get__") [.builtin "object.__class__",.ref e,.ref C]) Q' E' s:=fun {E' Q'} z=>wpAny_call (PySem.W.class_get X I c.ob z)
 obtain ⟨hh,g,d,t,os⟩:=s
 have L0:=I.type (M:=model prog w)
 have L1:=looks_find (M:=model prog w) X I hf
 refine wpAny_bind (wpAny_pure (wpAny_bind (wpAny_pure (wpAny_bind (L0.at (wpAny_bind (L1.at ?_)))))))
 refine wpAny_bind (wpAny_holding (fin ?_))
 exact wpAny_pure h
theorem Znf {tk:Tok} {fill expr:Bool} {Q:Value->Shared->Prop} (c:ExcC K C) (X:K.In s.heap) (I:PySem.W.InstAt s.heap e oe C od) (h:Q (.ref C) s):wpAny (model prog w) A (getAttrBy (.ref e) (.str "__class__" tk) fill expr) Q E s:=by
 have hc: ∀ {E':Value->Shared->Prop} {Q':Value->Shared->Prop},Q' (.ref C) s->wpAny (model prog w) A (call (.builtin "BaseException.__getattribute__") [.ref e,.str "__class__" tk]) Q' E' s:=fun {E' Q'} z=>
  wpAny_call (codeAny_call_builtin F.attr_ValueError.ga.plain F.entry_bexc_ga (ZjI c X I (Zia c X I z)))
 obtain ⟨hh,g,d,t,os⟩:=s
 have L0:=I.type (M:=model prog w)
 have L1:=looks_findIn (M:=model prog w) X c.ga
 have L2:=looks_findIn (M:=model prog w) X c.gt
 have hb:=F.attr_ValueError.ga.bind (.ref e)
 have hx:(onTheHeap (Value.ref C) && Value.builtin "BaseException.__getattribute__" == Value.builtin "object.__getattribute__")=false:=by rw[show (Value.builtin "BaseException.__getattribute__" == Value.builtin "object.__getattribute__")=false by decide +kernel];rfl
 have hy:(expr && onTheHeap (Value.builtin "BaseException.__getattribute__"))=false:=by cases expr<;>rfl
 unfold getAttrBy
 refine wpAny_holding (wpAny_bind (L0.at (wpAny_bind (L1.at ?_))))
 dsimp only
 rw[hx,if_neg (by decide)]
 unfold getAttrByItsOwn hookBefore
 rw[if_pos (show onTheHeap (Value.ref C)=true from rfl)]
 refine wpAny_bind (L2.at (wpAny_bind (wpAny_attempt (wpAny_holding ?_))))
 unfold callGetattribute
 rw[hy,if_neg (by decide)]
 unfold boundAndCalled
 refine wpAny_bind (wpAny_of_eq hb (hc ?_))
 exact wpAny_pure h
theorem ZjJ {Q:Option Value->Shared->Prop} (c:ExcC K C) (X:K.In s.heap) (I:PySem.W.InstAt s.heap e oe C od) (h:Q (some (.ref C)) { s with toks:=s.toks + 1 }):wpAny (model prog w) A (getAttr? (.ref e) "__class__") Q E s:=by
 unfold getAttr? getAttrBy?
 refine wpAny_bind (wpAny_mkText (wpAny_bind (wpAny_attempt (Znf (s:={ s with toks:=s.toks + 1 }) c X I (wpAny_pure h)))))
theorem ZjK (c:ExcC K C):KitX K (.ref e) (.ref C) (fun h=>PySem.W.InstAt h e oe C od) where
 ty:=fun _ _ _ I=>I.type
 it:=fun M h X _=>by
  obtain ⟨cd,hc⟩:=Option.isSome_iff_exists.mp c.is
  unfold clsIn at hc
  split at hc
  ·rename_i o1 o2 o3 o4 ho
   intro A' Q' E' s' k q
   unfold isType loadHead
   exact wpAny_bind (wpAny_loadPart (k _ _ (X _ _ ho)) (wpAny_pure q))
  ·cases hc
 ne:=fun h tp dd its n sl X htp=>by
  obtain ⟨cd,hc⟩:=Option.isSome_iff_exists.mp c.is
  refine Bool.eq_false_iff.mpr fun q=> ?_
  cases Value.ref.inj (beq_iff_eq.mp q)
  unfold clsIn at hc
  split at hc
  ·rename_i o1 o2 o3 o4 ho
   cases (X _ _ ho).symm.trans htp
  ·cases hc
 ca:=fun X I k=>ZjJ c X I k
end
end DQ
end
section
namespace DL
open PySem PySem.Spec PyProof.Rows L2
inductive D where
 |non
 |bl (b:Bool)
 |int (i:Int)
 |str (x:Str)
 |tup (xs:List D)
 |rol (xs:List D)
 |con (xs:List D)
 |ref (n:Nat)
 |err (c:Str) (xs:List D)
 |dk (n:Nat)
 |dt (n:Nat)
 |fn (c:Str)
inductive SO where
 |lst (xs:List D)
noncomputable abbrev Sto:=List SO
noncomputable abbrev Ro:=List (Option D)
noncomputable def SqF (K:PySem.W.Frag) (H:Hp) (a:Addr) (xs:List V):Prop:=
 (∃ o,H a=some (.frz o (.lst xs)))\/ ∃ (o:Obj) (its:Array Value) (n:Nat),K.lookup a=some o/\o.cls= .type "list"/\o.dict=none/\o.data= .seq its n/\its.size<=sizeLine/\Z8 xs its.toList
theorem SqF.sq {K:PySem.W.Frag} {H:Hp} {a:Addr} {xs:List V} (h:SqF K H a xs):SqL K H a xs:=by
 rcases h with ⟨o,h⟩ | h
 ·exact .inl (.inr ⟨o,h⟩)
 ·exact .inr h
noncomputable def SqK (K:PySem.W.Frag) (a:Addr) (xs:List V):Prop:= ∃ (o:Obj) (its:Array Value) (n:Nat),K.lookup a=some o/\o.cls= .type "tuple"/\o.data= .seq its n/\its.size<=sizeLine/\Z8 xs its.toList/\o.dict=none
theorem SqK.sq {K:PySem.W.Frag} {H:Hp} {a:Addr} {xs:List V} (h:SqK K a xs):SqT K H a xs:=
 let ⟨o,its,n,h1,h2,h3,h4,h5,_⟩:=h
 .inr ⟨o,its,n,h1,h2,h3,h4,h5⟩
noncomputable def EOk (H:Hp) (p C:Addr) (xs:List V):Prop:= ∃ oe u vs,H p=some (.frz oe u)/\oe.cls= .ref C/\oe.data= .fields vs/\vs[2]?=some .none/\((xs=[]/\oe.dict=none)\/ ∃ dx fs,oe.dict=some dx/\H dx=some (.xd fs)/\fs.map (·.2)=xs)
noncomputable def Kn (H:Hp) (p:Addr):Option Nat:=match H p with | some (.lst _)=>some 0 | some (.dK _)=>some 1 | some (.dT _)=>some 2 | some (.frz _ (.dK _))=>some 1 | some (.frz _ (.dT _))=>some 2 | _=>none
structure RefK (H:Hp) (α:List Addr) (j n:Nat) (p:Addr):Prop where
 at':α[n]?=some p
 kn:Kn H p=some j
theorem Kn.lst {H:Hp} {p:Addr} {xs:List V} (h:H p=some (.lst xs)):Kn H p=some 0:=by unfold Kn;rw[h]
theorem Kn.ne {H:Hp} {p q:Addr} {j:Nat} {o:HO} (h:Kn H p=some j) (hq:H q=none):Kn (upd H q o) p=some j:=by
 have:p≠q:=by
  intro z
  unfold Kn at h
  rw[z,hq] at h
  cases h
 unfold Kn
 rw[ZI this]
 exact h
mutual
inductive Rep (K:PySem.W.Frag) (H:Hp) (α:List Addr):V->D->Prop where
 |non:Rep K H α .non .non
 |bl (b:Bool):Rep K H α (.bl b) (.bl b)
 |int (i:Int):Rep K H α (.int i) (.int i)
 |str (x:Str):Rep K H α (.str x) (.str x)
 |tup {p:Addr} {xs:List V} {ds:List D}:H p=some (.tup xs)->Reps K H α xs ds->Rep K H α (.ref p) (.tup ds)
 |rol {p:Addr} {xs:List V} {ds:List D}:SqF K H p xs->Reps K H α xs ds->Rep K H α (.ref p) (.rol ds)
 |con {p:Addr} {xs:List V} {ds:List D}:SqK K p xs->Reps K H α xs ds->Rep K H α (.ref p) (.con ds)
 |ref {p:Addr} {n:Nat}:RefK H α 0 n p->Rep K H α (.ref p) (.ref n)
 |dk {p:Addr} {n:Nat}:RefK H α 1 n p->Rep K H α (.ref p) (.dk n)
 |dt {p:Addr} {n:Nat}:RefK H α 2 n p->Rep K H α (.ref p) (.dt n)
 |fn {p:Addr} {c:Str}:PySem.W.nsIn K mainGlobals c=some (some (.ref p))->Rep K H α (.ref p) (.fn c)
 |err {p C:Addr} {c:Str} {xs:List V} {ds:List D}:PySem.W.nsIn K mainGlobals c=some (some (.ref C))->EOk H p C xs->Reps K H α xs ds->Rep K H α (.ref p) (.err c ds)
inductive Reps (K:PySem.W.Frag) (H:Hp) (α:List Addr):List V->List D->Prop where
 |nil:Reps K H α [] []
 |cons {v:V} {d:D} {vs:List V} {ds:List D}:Rep K H α v d->Reps K H α vs ds->Reps K H α (v :: vs) (d :: ds)
end
structure Ext (K:PySem.W.Frag) (H H':Hp) (α α':List Addr):Prop where
 tup: ∀ p xs,H p=some (.tup xs)->H' p=some (.tup xs)
 rol: ∀ p xs,SqF K H p xs->SqF K H' p xs
 err: ∀ p C xs,EOk H p C xs->EOk H' p C xs
 kn: ∀ p j,Kn H p=some j->Kn H' p=some j
 fz: ∀ p o u,H p=some (.frz o u)->H' p=some (.frz o u)
 al: ∃ β,α'=α ++ β
section
variable {K:PySem.W.Frag} {H H1 H2 H':Hp} {α α1 α2 α':List Addr}
theorem Ext.refl:Ext K H H α α:=⟨fun _ _ h=>h,fun _ _ h=>h,fun _ _ _ h=>h,fun _ _ h=>h,fun _ _ _ h=>h,[],(List.append_nil _).symm⟩
theorem Ext.trans (a:Ext K H H1 α α1) (b:Ext K H1 H2 α1 α2):Ext K H H2 α α2:=by
 obtain ⟨b1,e1⟩:=a.al
 obtain ⟨b2,e2⟩:=b.al
 exact ⟨fun p xs h=>b.tup p xs (a.tup p xs h),fun p xs h=>b.rol p xs (a.rol p xs h),fun p C xs h=>b.err p C xs (a.err p C xs h),fun p j h=>b.kn p j (a.kn p j h),fun p o u h=>b.fz p o u (a.fz p o u h),b1 ++ b2,by rw[e2,e1,List.append_assoc]⟩
theorem Ext.get0 (e:Ext K H H' α α') {n:Nat} {p:Addr} (h:α[n]?=some p):α'[n]?=some p:=by
 obtain ⟨β,e1⟩:=e.al
 have hl:n < α.length:=(List.getElem?_eq_some_iff.mp h).1
 rw[e1,List.getElem?_append_left hl]
 exact h
theorem Ext.get (e:Ext K H H' α α') {j n:Nat} {p:Addr} (h:RefK H α j n p):RefK H' α' j n p:=⟨e.get0 h.at',e.kn _ _ h.kn⟩
mutual
theorem Rep.mono (e:Ext K H H' α α'): ∀ {v:V} {d:D},Rep K H α v d->Rep K H' α' v d
 |_,_,.non=> .non
 |_,_,.bl b=> .bl b
 |_,_,.int i=> .int i
 |_,_,.str x=> .str x
 |_,_,.tup h r=> .tup (e.tup _ _ h) (Reps.mono e r)
 |_,_,.rol h r=> .rol (e.rol _ _ h) (Reps.mono e r)
 |_,_,.con h r=> .con h (Reps.mono e r)
 |_,_,.ref h=> .ref (e.get h)
 |_,_,.dk h=> .dk (e.get h)
 |_,_,.dt h=> .dt (e.get h)
 |_,_,.fn h=> .fn h
 |_,_,.err n h r=> .err n (e.err _ _ _ h) (Reps.mono e r)
theorem Reps.mono (e:Ext K H H' α α'): ∀ {vs:List V} {ds:List D},Reps K H α vs ds->Reps K H' α' vs ds
 |_,_,.nil=> .nil
 |_,_,.cons r t=> .cons (Rep.mono e r) (Reps.mono e t)
end
theorem Reps.length: ∀ {vs:List V} {ds:List D},Reps K H α vs ds->vs.length=ds.length
 |_,_,.nil=>rfl
 |_,_,.cons _ t=>by rw[List.length_cons,List.length_cons,Reps.length t]
theorem Reps.get: ∀ {vs:List V} {ds:List D} {i:Nat} {d:D},Reps K H α vs ds->ds[i]?=some d-> ∃ v,vs[i]?=some v/\Rep K H α v d
 |_,_,_,_,.nil,e=>by simp at e
 |_,_,0,_,.cons r _,e=>by simp at e;subst e;exact ⟨_,rfl,r⟩
 |_,_,i + 1,d,.cons _ t,e=>by
  obtain ⟨u,h1,h2⟩:=Reps.get (i:=i) (d:=d) t (by simpa using e)
  exact ⟨u,by simpa using h1,h2⟩
theorem Reps.set {v:V} {d:D} (r:Rep K H α v d): ∀ {vs:List V} {ds:List D} (i:Nat),Reps K H α vs ds->Reps K H α (vs.set i v) (ds.set i d)
 |_,_,_,.nil=> .nil
 |_,_,0,.cons _ t=> .cons r t
 |_,_,i + 1,.cons q t=> .cons q (Reps.set r i t)
theorem Reps.append: ∀ {vs ws:List V} {ds es:List D},Reps K H α vs ds->Reps K H α ws es->Reps K H α (vs ++ ws) (ds ++ es)
 |_,_,_,_,.nil,s=>s
 |_,_,_,_,.cons r t,s=> .cons r (Reps.append t s)
theorem Reps.ints: ∀ (ns:List Int),Reps K H α (ns.map V.int) (ns.map D.int)
 | []=> .nil
 |n :: r=> .cons (.int n) (Reps.ints r)
theorem Zib {p q:Addr} {xs:List V} {o:HO} (h:H q=some (.tup xs)) (hp: ∀ u,H p=some u->(∀ ys,u≠ .tup ys)/\ ∀ ob w,u≠ .frz ob w):upd H p o q=some (.tup xs):=by
 rw[ZI (fun e=>(hp _ (e ▸ h)).1 _ rfl)]
 exact h
theorem Zic {p q:Addr} {xs:List V} {o:HO} (h:SqF K H q xs) (hp: ∀ u,H p=some u-> ∀ ob w,u≠ .frz ob w):SqF K (upd H p o) q xs:=by
 rcases h with ⟨ob,h⟩ | h
 ·refine .inl ⟨ob,?_⟩
  rw[ZI (fun e=>hp _ (e ▸ h) _ _ rfl)]
  exact h
 ·exact .inr h
theorem Zkz {p q:Addr} {ob:Obj} {u o:HO} (h:H q=some (.frz ob u)) (hp: ∀ u,H p=some u-> ∀ ob w,u≠ .frz ob w):upd H p o q=some (.frz ob u):=by
 rw[ZI (fun e=>hp _ (e ▸ h) _ _ rfl)]
 exact h
theorem Zid {p q C:Addr} {xs:List V} {o:HO} (h:EOk H q C xs) (hp: ∀ u,H p=some u->(∀ ob w,u≠ .frz ob w)/\ ∀ fs,u≠ .xd fs):EOk (upd H p o) q C xs:=by
 obtain ⟨oe,u,vs,h1,h2,h3,h4,h5⟩:=h
 refine ⟨oe,u,vs,?_,h2,h3,h4,?_⟩
 ·rw[ZI (fun e=>(hp _ (e ▸ h1)).1 _ _ rfl)]
  exact h1
 ·rcases h5 with h5 | ⟨dx,fs,k1,k2,k3⟩
  ·exact .inl h5
  ·refine .inr ⟨dx,fs,k1,?_,k3⟩
   rw[ZI (fun e=>(hp _ (e ▸ k2)).2 _ rfl)]
   exact k2
theorem Ext.new {p:Addr} {o:HO} (h:H p=none) {β:List Addr}:Ext K H (upd H p o) α (α ++ β):=
 ⟨fun q xs z=>Zib z (fun u e=>(by rw[h] at e;cases e)),fun q xs z=>Zic z (fun u e=>(by rw[h] at e;cases e)),fun q C xs z=>Zid z (fun u e=>(by rw[h] at e;cases e)),fun q j z=>Kn.ne z h,fun q o u z=>Zkz z (fun u e=>(by rw[h] at e;cases e)),β,rfl⟩
theorem Ext.new0 {p:Addr} {o:HO} (h:H p=none):Ext K H (upd H p o) α α:=by
 have e:=Ext.new (K:=K) (H:=H) (α:=α) (o:=o) h (β:=[])
 rw[List.append_nil] at e
 exact e
theorem Ext.wrK {p:Addr} {o:HO} {j:Nat} (h:Kn H p=some j) (nf: ∀ ob w,H p≠some (.frz ob w)) (h':Kn (upd H p o) p=some j):Ext K H (upd H p o) α α:=by
 have ne (u:HO) (e:H p=some u):(∀ ys,u≠ .tup ys)/\(∀ ob w,u≠ .frz ob w)/\ ∀ fs,u≠ .xd fs:=by
  unfold Kn at h
  rw[e] at h
  refine ⟨fun ys z=> ?_,fun ob w z=>nf ob w (by rw[e,z]),fun fs z=> ?_⟩<;>subst z<;>cases h
 refine ⟨fun q xs z=>Zib z fun u e=>⟨(ne u e).1,(ne u e).2.1⟩,fun q xs z=>Zic z fun u e=>(ne u e).2.1,fun q C xs z=>Zid z fun u e=>⟨(ne u e).2.1,(ne u e).2.2⟩,fun q i z=> ?_,fun q ob u z=>Zkz z fun u e=>(ne u e).2.1,[],(List.append_nil _).symm⟩
 by_cases c:q=p
 ·subst c
  rw[h] at z
  cases z
  exact h'
 ·unfold Kn
  rw[ZI c]
  exact z
theorem Ext.wr {p:Addr} {xs ys:List V} (h:H p=some (.lst xs)):Ext K H (upd H p (.lst ys)) α α:=Ext.wrK (Kn.lst h) (fun ob w z=>by rw[h] at z;cases z) (Kn.lst ZC)
noncomputable def Zjp:Key->D
 | .inl i=> .int i
 | .inr x=> .str x
noncomputable def Zef (ks:List Key):D:= .tup (ks.map Zjp)
noncomputable def Za1 (K:PySem.W.Frag) (H:Hp) (α:List Addr) {κ:Type} (key:κ->D) (kvs:List (κ × V)) (ds:List D):Prop:=
 ∃ es:List D,ds=List.zipWith (fun kv e=>D.tup [key kv.1,e]) kvs es/\Reps K H α (kvs.map (·.2)) es
noncomputable def SOk (K:PySem.W.Frag) (H:Hp) (α:List Addr) (p:Addr):SO->Prop
 | .lst ds=>(∃ xs,H p=some (.lst xs)/\Reps K H α xs ds)\/(∃ kvs,H p=some (.dK kvs)/\Za1 K H α Zjp kvs ds)\/(∃ kvs,H p=some (.dT kvs)/\Za1 K H α Zef kvs ds)\/(∃ o kvs r,H p=some (.frz o (.dK kvs))/\ds= .non :: r/\Za1 K H α Zjp kvs r)\/(∃ o kvs r,H p=some (.frz o (.dT kvs))/\ds= .non :: r/\Za1 K H α Zef kvs r)
theorem SOk.there {p:Addr} {o:SO} (h:SOk K H α p o): ∃ u,H p=some u:=by
 cases o with
 |lst ds=>rcases h with ⟨_,e,_⟩ | ⟨_,e,_⟩ | ⟨_,e,_⟩ | ⟨_,_,_,e,_⟩ | ⟨_,_,_,e,_⟩<;>exact ⟨_,e⟩
theorem SOk.mono {p:Addr} {o:SO} (h:SOk K H α p o) (ex:Ext K H H' α α') (e:H' p=H p):SOk K H' α' p o:=by
 cases o with
 |lst ds=>
  rcases h with ⟨xs,h1,h2⟩ | ⟨kvs,h1,es,h2,h3⟩ | ⟨kvs,h1,es,h2,h3⟩ | ⟨o,kvs,r,h1,h0,es,h2,h3⟩ | ⟨o,kvs,r,h1,h0,es,h2,h3⟩
  ·exact .inl ⟨xs,e.trans h1,Reps.mono ex h2⟩
  ·exact .inr (.inl ⟨kvs,e.trans h1,es,h2,Reps.mono ex h3⟩)
  ·exact .inr (.inr (.inl ⟨kvs,e.trans h1,es,h2,Reps.mono ex h3⟩))
  ·exact .inr (.inr (.inr (.inl ⟨o,kvs,r,e.trans h1,h0,es,h2,Reps.mono ex h3⟩)))
  ·exact .inr (.inr (.inr (.inr ⟨o,kvs,r,e.trans h1,h0,es,h2,Reps.mono ex h3⟩)))
structure HR (K:PySem.W.Frag) (H:Hp) (α:List Addr) (M:Sto):Prop where
 len:α.length=M.length
 nd:α.Nodup
 ob: ∀ (n:Nat) (p:Addr) (o:SO),α[n]?=some p->M[n]?=some o->SOk K H α p o
theorem HR.nil:HR K H [] []:=⟨rfl,List.nodup_nil,fun n p o h=>by simp at h⟩
theorem Kn.at {H:Hp} {p:Addr} {j:Nat} {u:HO} (k:Kn H p=some j) (e:H p=some u):(match some u with | some (.lst _)=>some 0 | some (.dK _)=>some 1 | some (.dT _)=>some 2 | some (.frz _ (.dK _))=>some 1 | some (.frz _ (.dT _))=>some 2 | _=>none)=some j:=by
 unfold Kn at k
 rw[e] at k
 exact k
theorem HR.at (h:HR K H α M) {n:Nat} {p:Addr} {ds:List D} (e:RefK H α 0 n p) (m:M[n]?=some (.lst ds)): ∃ xs,H p=some (.lst xs)/\Reps K H α xs ds:=by
 rcases h.ob n p _ e.at' m with h1 | ⟨_,h1,_⟩ | ⟨_,h1,_⟩ | ⟨_,_,_,h1,_⟩ | ⟨_,_,_,h1,_⟩
 ·exact h1
 all_goals exact absurd (Kn.at e.kn h1) (fun z=>nomatch z)
noncomputable def nfz (ds:List D):Bool:=match ds with | .non :: _=>false | _=>true
theorem HR.atK (h:HR K H α M) {n:Nat} {p:Addr} {ds:List D} (e:RefK H α 1 n p) (m:M[n]?=some (.lst ds)):(∃ kvs,H p=some (.dK kvs)/\Za1 K H α Zjp kvs ds)\/ ∃ o kvs r,H p=some (.frz o (.dK kvs))/\ds= .non :: r/\Za1 K H α Zjp kvs r:=by
 rcases h.ob n p _ e.at' m with ⟨_,h1,_⟩ | h1 | ⟨_,h1,_⟩ | h1 | ⟨_,_,_,h1,_⟩
 ·exact absurd (Kn.at e.kn h1) (fun z=>nomatch z)
 ·exact .inl h1
 ·exact absurd (Kn.at e.kn h1) (fun z=>nomatch z)
 ·exact .inr h1
 ·exact absurd (Kn.at e.kn h1) (fun z=>nomatch z)
theorem HR.atT (h:HR K H α M) {n:Nat} {p:Addr} {ds:List D} (e:RefK H α 2 n p) (m:M[n]?=some (.lst ds)):(∃ kvs,H p=some (.dT kvs)/\Za1 K H α Zef kvs ds)\/ ∃ o kvs r,H p=some (.frz o (.dT kvs))/\ds= .non :: r/\Za1 K H α Zef kvs r:=by
 rcases h.ob n p _ e.at' m with ⟨_,h1,_⟩ | ⟨_,h1,_⟩ | h1 | ⟨_,_,_,h1,_⟩ | h1
 ·exact absurd (Kn.at e.kn h1) (fun z=>nomatch z)
 ·exact absurd (Kn.at e.kn h1) (fun z=>nomatch z)
 ·exact .inl h1
 ·exact absurd (Kn.at e.kn h1) (fun z=>nomatch z)
 ·exact .inr h1
theorem HR.atTn (h:HR K H α M) {n:Nat} {p:Addr} {ds:List D} (e:RefK H α 2 n p) (m:M[n]?=some (.lst ds)) (hn:nfz ds=true): ∃ kvs,H p=some (.dT kvs)/\Za1 K H α Zef kvs ds:=by
 rcases h.atT e m with h1 | ⟨_,_,_,_,rfl,_⟩
 ·exact h1
 ·cases hn
theorem RefK.lst {n:Nat} {p:Addr} (e:RefK H α 0 n p): ∃ xs,H p=some (.lst xs):=by
 have:=e.kn
 unfold Kn at this
 split at this
 ·rename_i xs h;exact ⟨xs,h⟩
 all_goals cases this
theorem HR.some_at {M:Sto} (h:HR K H α M) {n:Nat} {p:Addr} (e:RefK H α 0 n p): ∃ xs,H p=some (.lst xs):=e.lst
theorem HR.there {M:Sto} (h:HR K H α M) {n:Nat} {p:Addr} (e:α[n]?=some p): ∃ u,H p=some u:=by
 have hl:n < α.length:=(List.getElem?_eq_some_iff.mp e).1
 have hm:n < M.length:=by rw[<- h.len];exact hl
 exact (h.ob n p M[n] e (List.getElem?_eq_getElem hm)).there
theorem HR.tup {M:Sto} {p:Addr} {o:HO} (h:HR K H α M) (hp:H p=none):HR K (upd H p o) α M:=
 ⟨h.len,h.nd,fun n q so e m=>by
  obtain ⟨u,hu⟩:=h.there e
  exact (h.ob n q so e m).mono (Ext.new0 hp) (ZI (Zao hu hp))⟩
theorem HR.newO {M:Sto} {p:Addr} {o:HO} {so:SO} (h:HR K H α M) (hp:H p=none) (r:SOk K (upd H p o) (α ++ [p]) p so):HR K (upd H p o) (α ++ [p]) (M ++ [so]):=by
 have ex:Ext K H (upd H p o) α (α ++ [p]):=Ext.new hp
 refine ⟨by rw[List.length_append,List.length_append,h.len];rfl,?_,fun n q so' e m=> ?_⟩
 ·refine List.nodup_append.mpr ⟨h.nd,by simp,fun a ha b hb=> ?_⟩
  have hb':b=p:=by simpa using hb
  obtain ⟨n,hn,e⟩:=List.getElem_of_mem ha
  obtain ⟨u,z⟩:=h.there (n:=n) (p:=a) (by rw[List.getElem?_eq_getElem hn,e])
  rw[hb']
  exact Zao z hp
 ·by_cases hn:n < α.length
  ·rw[List.getElem?_append_left hn] at e
   rw[List.getElem?_append_left (by rw[<- h.len];exact hn)] at m
   obtain ⟨u,hu⟩:=h.there e
   exact (h.ob n q so' e m).mono ex (ZI (Zao hu hp))
  ·have en:n=α.length:=by
    have:n < (α ++ [p]).length:=(List.getElem?_eq_some_iff.mp e).1
    rw[List.length_append,List.length_singleton] at this
    omega
   subst en
   rw[List.getElem?_append_right (Nat.le_refl _),Nat.sub_self] at e
   rw[h.len,List.getElem?_append_right (Nat.le_refl _),Nat.sub_self] at m
   cases e
   cases m
   exact r
theorem HR.new {M:Sto} {p:Addr} {xs:List V} {ds:List D} (h:HR K H α M) (hp:H p=none) (r:Reps K H α xs ds):HR K (upd H p (.lst xs)) (α ++ [p]) (M ++ [.lst ds]):=
 h.newO hp (.inl ⟨xs,ZC,Reps.mono (Ext.new hp) r⟩)
theorem ZjL {n m:Nat} {p:Addr} (h:α.Nodup) (a:α[n]?=some p) (b:α[m]?=some p):n=m:=by
 obtain ⟨h1,e1⟩:=List.getElem?_eq_some_iff.mp a
 obtain ⟨h2,e2⟩:=List.getElem?_eq_some_iff.mp b
 exact (List.getElem_inj h).mp (e1.trans e2.symm)
theorem HR.wrO {M:Sto} {n:Nat} {p:Addr} {o:HO} {so:SO} (h:HR K H α M) (e:α[n]?=some p) (ex:Ext K H (upd H p o) α α) (r:SOk K (upd H p o) α p so):HR K (upd H p o) α (M.set n so):=by
 have hn:n < M.length:=by rw[<- h.len];exact (List.getElem?_eq_some_iff.mp e).1
 refine ⟨by rw[List.length_set];exact h.len,h.nd,fun k q so' e' m=> ?_⟩
 by_cases hk:k=n
 ·subst hk
  rw[e] at e'
  cases e'
  rw[List.getElem?_set_self hn] at m
  cases m
  exact r
 ·rw[List.getElem?_set_ne (Ne.symm hk)] at m
  have hq:q≠p:=fun z=>hk (ZjL h.nd (z ▸ e') e)
  exact (h.ob k q so' e' m).mono ex (ZI hq)
theorem HR.wr {M:Sto} {n:Nat} {p:Addr} {xs ys:List V} {ds:List D} (h:HR K H α M) (e:RefK H α 0 n p) (hp:H p=some (.lst ys)) (r:Reps K H α xs ds):HR K (upd H p (.lst xs)) α (M.set n (.lst ds)):=
 h.wrO e.at' (Ext.wr hp) (.inl ⟨xs,ZC,Reps.mono (Ext.wr hp) r⟩)
end
inductive Out (β:Type) where
 |ok (a:β) (M:Sto)
 |exc (c:Str) (M:Sto)
 |bad
noncomputable def Out.bind {β γ:Type} (o:Out β) (f:β->Sto->Out γ):Out γ:=match o with
 | .ok a M=>f a M
 | .exc c M=> .exc c M
 | .bad=> .bad
inductive Fl where
 |nx (ρ:Ro) (M:Sto)
 |ret (d:D) (M:Sto)
 |brk (ρ:Ro) (M:Sto)
 |cnt (ρ:Ro) (M:Sto)
 |exc (c:Str) (M:Sto)
 |bad
noncomputable def OG {β γ:Type} (K:PySem.W.Frag) (R:Hp->List Addr->γ->β->Prop) (H:Hp) (α:List Addr) (ξ:XK) (Q:γ->Hp->Prop):Out β->Prop
 | .ok d M'=> ∀ v H' α',Ext K H H' α α'->HR K H' α' M'->R H' α' v d->Q v H'
 | .exc c M'=> ∀ C H' α',PySem.W.nsIn K mainGlobals c=some (some (.ref C))->Ext K H H' α α'->HR K H' α' M'->ξ (.ref C) none H'
 | .bad=>False
theorem OG.ext {β γ:Type} {K:PySem.W.Frag} {R:Hp->List Addr->γ->β->Prop} {H H1:Hp} {α α1:List Addr} {ξ:XK} {Q:γ->Hp->Prop} {o:Out β} (h:OG K R H α ξ Q o) (e:Ext K H H1 α α1):OG K R H1 α1 ξ Q o:=by
 cases o with
 |ok d M'=>exact fun v H' α' e'=>h v H' α' (e.trans e')
 |exc c M'=>exact fun C H' α' n e'=>h C H' α' n (e.trans e')
 |bad=>exact h
noncomputable abbrev OP (K:PySem.W.Frag):=OG K (Rep K)
noncomputable abbrev OT (K:PySem.W.Frag):=OG (β:=Bool) (γ:=Bool) K (fun _ _ v d=>v=d)
noncomputable abbrev OA (K:PySem.W.Frag):=OG K (Reps K)
noncomputable def SR (K:PySem.W.Frag) (H:Hp) (α:List Addr) (σ:L2.St) (ρ:Ro):Prop:=σ.length=ρ.length/\ ∀ (i:Nat) (d:D),ρ[i]?=some (some d)-> ∃ v,σ[i]?=some (some v)/\Rep K H α v d
theorem SR.mono {K:PySem.W.Frag} {H H':Hp} {α α':List Addr} {σ:L2.St} {ρ:Ro} (h:SR K H α σ ρ) (e:Ext K H H' α α'):SR K H' α' σ ρ:=
 ⟨h.1,fun i d q=>let ⟨v,a,b⟩:=h.2 i d q;⟨v,a,Rep.mono e b⟩⟩
theorem SR.set {K:PySem.W.Frag} {H:Hp} {α:List Addr} {σ:L2.St} {ρ:Ro} {v:V} {d:D} (h:SR K H α σ ρ) (i:Nat) (r:Rep K H α v d):SR K H α (σ.set i (some v)) (ρ.set i (some d)):=by
 refine ⟨by rw[List.length_set,List.length_set];exact h.1,fun j e q=> ?_⟩
 by_cases hj:j=i
 ·subst hj
  have hl:j < ρ.length:=by
   have:=(List.getElem?_eq_some_iff.mp q).1
   rw[List.length_set] at this
   exact this
  rw[List.getElem?_set_self hl] at q
  cases q
  exact ⟨v,by rw[List.getElem?_set_self (by rw[h.1];exact hl)],r⟩
 ·rw[List.getElem?_set_ne (Ne.symm hj)] at q
  rw[List.getElem?_set_ne (Ne.symm hj)]
  exact h.2 j e q
noncomputable abbrev Ev:=Ro->Sto->Out D
noncomputable abbrev Tv:=Ro->Sto->Out Bool
noncomputable abbrev Av:=Ro->Sto->Out (List D)
noncomputable abbrev Sv:=Ro->Sto->Fl
noncomputable def DE (X:Cx) (ξ:XK) (e:Expr) (f:Ev):Prop:= ∃ t:TE,PE X e t/\ ∀ σ ρ H α M Q,SR X.K H α σ ρ->HR X.K H α M->OP X.K H α ξ Q (f ρ M)->t σ H Q
noncomputable def DT (X:Cx) (ξ:XK) (e:Expr) (f:Tv):Prop:= ∃ t:TT,PT X e t/\ ∀ σ ρ H α M Q,SR X.K H α σ ρ->HR X.K H α M->OT X.K H α ξ Q (f ρ M)->t σ H Q
noncomputable def DW (X:Cx) (ξ:XK) (e:Expr) (f:Tv):Prop:= ∃ t:TT,PW X e t/\ ∀ σ ρ H α M Q,SR X.K H α σ ρ->HR X.K H α M->OT X.K H α ξ Q (f ρ M)->t σ H Q
noncomputable def DA (X:Cx) (ξ:XK) (es:List Expr) (f:Av):Prop:= ∃ t:TA,PA X es t/\ ∀ σ ρ H α M Q,SR X.K H α σ ρ->HR X.K H α M->OA X.K H α ξ Q (f ρ M)->t σ H Q
theorem OG.seq {β γ β' γ':Type} {K:PySem.W.Frag} {R:Hp->List Addr->γ->β->Prop} {R':Hp->List Addr->γ'->β'->Prop} {H:Hp} {α:List Addr} {ξ:XK} {Q:γ'->Hp->Prop} {Q1:γ->Hp->Prop} {o:Out β} {f:β->Sto->Out β'}
  (h:OG K R' H α ξ Q (o.bind f)) (k: ∀ d M' v H' α',Ext K H H' α α'->HR K H' α' M'->R H' α' v d->OG K R' H' α' ξ Q (f d M')->Q1 v H'):OG K R H α ξ Q1 o:=by
 cases o with
 |ok d M'=>exact fun v H' α' e hr r=>k d M' v H' α' e hr r (OG.ext (o:=f d M') h e)
 |exc c M'=>exact h
 |bad=>exact h
section
variable {X:Cx} {ξ:XK} {a b e:Expr} {fa fb:Ev} {pos:Pos}
noncomputable def Zg (i:Nat):Ev:=fun ρ M=>match ρ[i]? with | some (some d)=> .ok d M | _=> .bad
noncomputable def eC (d:D):Ev:=fun _ M=> .ok d M
theorem Zb (i:Nat) {x:Str} (hN:X.N[i]?=some x:=by rfl) (hv:Vis X.env.scope x:=by first | exact Or.inl rfl | exact Or.inr (Or.inl rfl) | exact Or.inr (Or.inr rfl)) (hd:(x == ("__debug__":Str))=false:=by decide)
  (hcd:(x == ("__classdict__":Str))=false:=by decide):DE X ξ (.Name x pos) (Zg i):=by
 refine ⟨_,Zks hN hv hd hcd,fun σ ρ H α M Q s h q=> ?_⟩
 unfold Zg at q
 cases e:ρ[i]? with
 |none=>rw[e] at q;exact q.elim
 |some o=>
  cases o with
  |none=>rw[e] at q;exact q.elim
  |some d=>
   rw[e] at q
   obtain ⟨v,h1,h2⟩:=s.2 i d e
   exact ⟨v,h1,q v H α Ext.refl h h2⟩
theorem Ze {i:Int} {j pos}:DE X ξ (.Constant (.int i) j pos) (eC (.int i)):=⟨_,ZhM,fun _ _ H α M _ _ h q=>q _ H α Ext.refl h (.int i)⟩
theorem ZfO {i:Bool} {j pos}:DE X ξ (.Constant (.bool i) j pos) (eC (.bl i)):=⟨_,ZpU,fun _ _ H α M _ _ h q=>q _ H α Ext.refl h (.bl i)⟩
theorem ZbF {j pos}:DE X ξ (.Constant .none j pos) (eC .non):=⟨_,ZmK,fun _ _ H α M _ _ h q=>q _ H α Ext.refl h .non⟩
theorem ZU {x:Str} {j pos}:DE X ξ (.Constant (.str x) j pos) (eC (.str x)):=⟨_,ZmL,fun _ _ H α M _ _ h q=>q _ H α Ext.refl h (.str x)⟩
noncomputable abbrev Bo:=D->D->Sto->Out D
noncomputable def e2 (f:Bo) (fa fb:Ev):Ev:=fun ρ M=>(fa ρ M).bind fun x M1=>(fb ρ M1).bind fun y M2=>f x y M2
noncomputable def BO (X:Cx) (ξ:XK) (r:R2) (f:Bo):Prop:= ∀ H α M v w x y Q,HR X.K H α M->Rep X.K H α v x->Rep X.K H α w y->OP X.K H α ξ Q (f x y M)->r v w H Q
theorem two {r:R2} {f:Bo} (hb:BO X ξ r f) {ta tb:TE} (qa: ∀ σ ρ H α M Q,SR X.K H α σ ρ->HR X.K H α M->OP X.K H α ξ Q (fa ρ M)->ta σ H Q)
  (qb: ∀ σ ρ H α M Q,SR X.K H α σ ρ->HR X.K H α M->OP X.K H α ξ Q (fb ρ M)->tb σ H Q): ∀ σ ρ H α M Q,SR X.K H α σ ρ->HR X.K H α M->OP X.K H α ξ Q (e2 f fa fb ρ M)->tOp r ta tb σ H Q:=by
 intro σ ρ H α M Q s h q
 refine qa σ ρ H α M _ s h (OG.seq q fun x M1 v H1 α1 e1 h1 r1 q1=> ?_)
 refine qb σ ρ H1 α1 M1 _ (s.mono e1) h1 (OG.seq q1 fun y M2 w H2 α2 e2 h2 r2 q2=> ?_)
 exact hb H2 α2 M2 v w x y Q h2 (Rep.mono e2 r1) r2 q2
theorem Zg7 {op:Operator} {r:R2} {f:Bo} (ho:OpR X (binaryOp op) r) (hf:BO X ξ r f) (ha:DE X ξ a fa) (hb:DE X ξ b fb):DE X ξ (.BinOp a op b pos) (e2 f fa fb):=by
 obtain ⟨ta,ha,qa⟩:=ha
 obtain ⟨tb,hb,qb⟩:=hb
 exact ⟨_,Zp4 ho ha hb,two hf qa qb⟩
theorem Zng {op:CmpOp} {r:R2} {f:Bo} (ho:OpR X (compareOp op) r) (hf:BO X ξ r f) (ha:DE X ξ a fa) (hb:DE X ξ b fb) (hm:behindInMarks op b=false:=by first | exact Zkv _ | with_unfolding_all rfl):DE X ξ (.Compare a [op] [b] pos) (e2 f fa fb):=by
 obtain ⟨ta,ha,qa⟩:=ha
 obtain ⟨tb,hb,qb⟩:=hb
 exact ⟨_,Zlb ho ha hb hm,two hf qa qb⟩
noncomputable def tv (f:Ev):Tv:=fun ρ M=>(f ρ M).bind fun x M1=>match x with | .bl k=> .ok k M1 | _=> .bad
theorem ZjG {t:TE} {f:Ev} (qa: ∀ σ ρ H α M Q,SR X.K H α σ ρ->HR X.K H α M->OP X.K H α ξ Q (f ρ M)->t σ H Q): ∀ σ ρ H α M Q,SR X.K H α σ ρ->HR X.K H α M->OT X.K H α ξ Q (tv f ρ M)->Zm2 t σ H Q:=by
 intro σ ρ H α M Q s h q
 refine qa σ ρ H α M _ s h (OG.seq q fun x M1 v H1 α1 e1 h1 r1 q1=> ?_)
 cases r1 with
 |bl k=>exact ⟨k,rfl,q1 k H1 α1 Ext.refl h1 rfl⟩
 |_=>exact q1.elim
theorem Zu {op:CmpOp} {r:R2} {f:Bo} (ho:OpR X (compareOp op) r) (hf:BO X ξ r f) (ha:DE X ξ a fa) (hb:DE X ξ b fb) (hm:behindInMarks op b=false:=by first | exact Zkv _ | with_unfolding_all rfl):DT X ξ (.Compare a [op] [b] pos) (tv (e2 f fa fb)):=by
 obtain ⟨ta,ha,qa⟩:=ha
 obtain ⟨tb,hb,qb⟩:=hb
 exact ⟨_,Zlc ho ha hb hm,ZjG (two hf qa qb)⟩
theorem ZdV (h:DE X ξ e fa) (he: ∀ whole,isTrue e X.env whole=(do let v <- whole;standAt e.pos;holding [v] (truthy v)):=by intro _;rfl):DT X ξ e (tv fa):=by
 obtain ⟨ta,ha,qa⟩:=h
 exact ⟨_,ZmM ha he,ZjG qa⟩
variable {ga gb:Tv} {rest:List Expr}
noncomputable def Zcy (f g:Tv):Tv:=fun ρ M=>(f ρ M).bind fun k M1=>if k=true then g ρ M1 else .ok false M1
noncomputable def ZhB (f g:Tv):Tv:=fun ρ M=>(f ρ M).bind fun k M1=>if k=true then .ok true M1 else g ρ M1
noncomputable def ZfP (f:Tv):Tv:=fun ρ M=>(f ρ M).bind fun k M1=> .ok (!k) M1
theorem Zbh (ha:DT X ξ a ga):DW X ξ (.BoolOp .And [a] pos) ga:=let ⟨_,h,q⟩:=ha;⟨_,pw_and1 h,q⟩
theorem Zcf (ha:DT X ξ a ga):DW X ξ (.BoolOp .Or [a] pos) ga:=let ⟨_,h,q⟩:=ha;⟨_,pw_or1 h,q⟩
theorem ZbY (ha:DT X ξ a ga) (hb:DW X ξ (.BoolOp .And (b :: rest) pos) gb):DW X ξ (.BoolOp .And (a :: b :: rest) pos) (Zcy ga gb):=by
 obtain ⟨ta,ha,qa⟩:=ha
 obtain ⟨tb,hb,qb⟩:=hb
 refine ⟨_,pw_and ha hb,fun σ ρ H α M Q s h q=> ?_⟩
 refine qa σ ρ H α M _ s h (OG.seq q fun k M1 v H1 α1 e1 h1 r1 q1=> ?_)
 cases r1
 cases k with
 |true=>exact Zky (qb σ ρ H1 α1 M1 Q (s.mono e1) h1 q1)
 |false=>exact Zkx (q1 false H1 α1 Ext.refl h1 rfl)
theorem Zeg (ha:DT X ξ a ga) (hb:DW X ξ (.BoolOp .Or (b :: rest) pos) gb):DW X ξ (.BoolOp .Or (a :: b :: rest) pos) (ZhB ga gb):=by
 obtain ⟨ta,ha,qa⟩:=ha
 obtain ⟨tb,hb,qb⟩:=hb
 refine ⟨_,pw_or ha hb,fun σ ρ H α M Q s h q=> ?_⟩
 refine qa σ ρ H α M _ s h (OG.seq q fun k M1 v H1 α1 e1 h1 r1 q1=> ?_)
 cases r1
 cases k with
 |true=>exact Zky (q1 true H1 α1 Ext.refl h1 rfl)
 |false=>exact Zkx (qb σ ρ H1 α1 M1 Q (s.mono e1) h1 q1)
theorem Zeh (h:DW X ξ e ga):DT X ξ e ga:=let ⟨_,h,q⟩:=h;⟨_,h.pt,q⟩
theorem Zie (ha:DT X ξ a ga):DT X ξ (.UnaryOp .Not a pos) (ZfP ga):=by
 obtain ⟨ta,ha,qa⟩:=ha
 refine ⟨_,ZmN ha,fun σ ρ H α M Q s h q=> ?_⟩
 refine qa σ ρ H α M _ s h (OG.seq q fun k M1 v H1 α1 e1 h1 r1 q1=> ?_)
 cases r1
 exact q1 (!k) H1 α1 Ext.refl h1 rfl
noncomputable def ZjM (f g:Ev):Ev:=fun ρ M=>(f ρ M).bind fun x M1=>match x with | .bl k=>if k=true then g ρ M1 else .ok (.bl false) M1 | _=> .bad
noncomputable def Zr2 (f g:Ev):Ev:=fun ρ M=>(f ρ M).bind fun x M1=>match x with | .bl k=>if k=true then .ok (.bl true) M1 else g ρ M1 | _=> .bad
noncomputable def ZjN (f:Ev):Ev:=fun ρ M=>(f ρ M).bind fun x M1=>match x with | .bl k=> .ok (.bl (!k)) M1 | _=> .bad
theorem Znh {op} (ha:DE X ξ a fa):DE X ξ (.BoolOp op [a] pos) fa:=let ⟨_,h,q⟩:=ha;⟨_,ZmO h,q⟩
theorem Zni (ha:DE X ξ a fa) (hb:DE X ξ (.BoolOp .And (b :: rest) pos) fb):DE X ξ (.BoolOp .And (a :: b :: rest) pos) (ZjM fa fb):=by
 obtain ⟨ta,ha,qa⟩:=ha
 obtain ⟨tb,hb,qb⟩:=hb
 refine ⟨_,ZmP ha hb,fun σ ρ H α M Q s h q=> ?_⟩
 refine qa σ ρ H α M _ s h (OG.seq q fun x M1 v H1 α1 e1 h1 r1 q1=> ?_)
 cases r1 with
 |bl k=>
  refine ⟨k,rfl,?_⟩
  cases k with
  |true=>exact Zky (qb σ ρ H1 α1 M1 Q (s.mono e1) h1 q1)
  |false=>exact Zkx (q1 _ H1 α1 Ext.refl h1 (.bl false))
 |_=>exact q1.elim
theorem Znj (ha:DE X ξ a fa):DE X ξ (.UnaryOp .Not a pos) (ZjN fa):=by
 obtain ⟨ta,ha,qa⟩:=ha
 refine ⟨_,ZmQ ha,fun σ ρ H α M Q s h q=> ?_⟩
 refine qa σ ρ H α M _ s h (OG.seq q fun x M1 v H1 α1 e1 h1 r1 q1=> ?_)
 cases r1 with
 |bl k=>exact ⟨k,rfl,q1 _ H1 α1 Ext.refl h1 (.bl (!k))⟩
 |_=>exact q1.elim
noncomputable def eIf (c:Tv) (f g:Ev):Ev:=fun ρ M=>(c ρ M).bind fun k M1=>if k=true then f ρ M1 else g ρ M1
theorem Zqd {c:Expr} (hc:DT X ξ c ga) (ha:DE X ξ a fa) (hb:DE X ξ b fb):DE X ξ (.IfExp c a b pos) (eIf ga fa fb):=by
 obtain ⟨tc,hc,qc⟩:=hc
 obtain ⟨ta,ha,qa⟩:=ha
 obtain ⟨tb,hb,qb⟩:=hb
 refine ⟨_,Zjs hc ha hb,fun σ ρ H α M Q s h q=> ?_⟩
 refine qc σ ρ H α M _ s h (OG.seq q fun k M1 v H1 α1 e1 h1 r1 q1=> ?_)
 cases r1
 cases k with
 |true=>exact Zky (qa σ ρ H1 α1 M1 Q (s.mono e1) h1 q1)
 |false=>exact Zkx (qb σ ρ H1 α1 M1 Q (s.mono e1) h1 q1)
variable {es:List Expr} {fs:Av}
noncomputable def aNil:Av:=fun _ M=> .ok [] M
noncomputable def Zc (f:Ev) (g:Av):Av:=fun ρ M=>(f ρ M).bind fun x M1=>(g ρ M1).bind fun xs M2=> .ok (x :: xs) M2
theorem Zd:DA X ξ [] aNil:=⟨_,ZhV,fun _ _ H α M _ _ h q=>q _ H α Ext.refl h .nil⟩
theorem Za (ha:DE X ξ e fa) (hr:DA X ξ es fs) (hs:starEach (e :: es) X.env=(false,eval e X.env) :: starEach es X.env:=by rfl):DA X ξ (e :: es) (Zc fa fs):=by
 obtain ⟨ta,ha,qa⟩:=ha
 obtain ⟨tb,hb,qb⟩:=hr
 refine ⟨_,Zc6 ha hb hs,fun σ ρ H α M Q s h q=> ?_⟩
 refine qa σ ρ H α M _ s h (OG.seq q fun x M1 v H1 α1 e1 h1 r1 q1=> ?_)
 refine qb σ ρ H1 α1 M1 _ (s.mono e1) h1 (OG.seq q1 fun y M2 w H2 α2 e2 h2 r2 q2=> ?_)
 exact q2 _ H2 α2 Ext.refl h2 (.cons (Rep.mono e2 r1) r2)
noncomputable def Zah (f:Av):Ev:=fun ρ M=>(f ρ M).bind fun xs M1=>if xs.length<=1000 then .ok (.tup xs) M1 else .bad
noncomputable def ZbZ (f:Av):Ev:=fun ρ M=>(f ρ M).bind fun xs M1=>if xs.length<=1000 then .ok (.ref M1.length) (M1 ++ [.lst xs]) else .bad
theorem Zlo {n:Nat} (h:n<=1000):n<=sizeLine:=Nat.le_of_lt (Zh5 h)
theorem Zx {x1} (ha:DA X ξ es fs):DE X ξ (.Tuple es x1 pos) (Zah fs):=by
 obtain ⟨ta,ha,qa⟩:=ha
 refine ⟨_,Zm3 ha,fun σ ρ H α M Q s h q=> ?_⟩
 refine qa σ ρ H α M _ s h (OG.seq q fun xs M1 vs H1 α1 e1 h1 r1 q1=> ?_)
 by_cases hl:xs.length<=1000
 ·rw[if_pos hl] at q1
  refine ⟨by rw[r1.length];exact Zlo hl,fun p hp=>q1 _ _ α1 (Ext.new0 hp) (h1.tup hp) (.tup ZC (Reps.mono (Ext.new0 hp) r1))⟩
 ·rw[if_neg hl] at q1
  exact q1.elim
theorem HR.last {K:PySem.W.Frag} {H:Hp} {α:List Addr} {M:Sto} (h:HR K H α M) (p:Addr):(α ++ [p])[M.length]?=some p:=by
 rw[<- h.len,List.getElem?_append_right (Nat.le_refl _),Nat.sub_self]
 rfl
theorem ZV (ha:DA X ξ es fs):DE X ξ (.List es pos) (ZbZ fs):=by
 obtain ⟨ta,ha,qa⟩:=ha
 refine ⟨_,Zm4 ha,fun σ ρ H α M Q s h q=> ?_⟩
 refine qa σ ρ H α M _ s h (OG.seq q fun xs M1 vs H1 α1 e1 h1 r1 q1=> ?_)
 by_cases hl:xs.length<=1000
 ·rw[if_pos hl] at q1
  refine ⟨by rw[r1.length];exact Zlo hl,fun p hp=>q1 _ _ (α1 ++ [p]) (Ext.new hp) (h1.new hp r1) (.ref ⟨h1.last p,Kn.lst ZC⟩)⟩
 ·rw[if_neg hl] at q1
  exact q1.elim
end
end DL
end
section
namespace DL
open PySem PySem.Spec PyProof.Rows L2
open PySem.SeqAt (EqAt RcAt RcNeAt)
noncomputable def Zag (i j:Int):Prop:=Builtin.Int.intBits i<=64\/Builtin.Int.intBits j<=64\/(Builtin.Int.intBits i<=60000000/\Builtin.Int.intBits j<=60000000)
noncomputable instance (i j:Int):Decidable (Zag i j):=by unfold Zag;infer_instance
theorem Zag.ok {i j:Int} (h:Zag i j):IntMulOk i j:=by
 rcases h with h | h | ⟨h1,h2⟩
 ·exact .of_left h
 ·exact .of_right h
 ·exact .of_le h1 h2 (by decide)
theorem Zg8 {i j:Int} (m n:Nat) (h1:i.natAbs < 2 ^ m) (h2:j.natAbs < 2 ^ n) (hm:m<=60000000:=by decide) (hn:n<=60000000:=by decide):Zag i j:=
 .inr (.inr ⟨Nat.le_trans (intBits_le_iff.mpr h1) hm,Nat.le_trans (intBits_le_iff.mpr h2) hn⟩)
noncomputable def Zbi (j:Int):Prop:=j≠0/\j.natAbs.log2 < 9000
noncomputable instance (j:Int):Decidable (Zbi j):=by unfold Zbi;infer_instance
section
variable {X:Cx}
theorem Zlp:OpR X (binaryOp .Mult) (rI Zag fun i j=> .int (i * j)):=opI fun _ _ _ _ _ _ _ hc q=>mul_int q hc.ok
theorem ZjO:OpR X (binaryOp .FloorDiv) (rI (fun _ j=>Zbi j) fun i j=> .int (i.fdiv j)):=opI fun _ _ _ _ _ _ _ hc q=>floordiv_int hc.1 q (.inl (PyProof.noPylong_of_log2 hc.2))
end
noncomputable def dAdd:Bo:=fun x y M=>match x,y with
 | .int i,.int j=> .ok (.int (i + j)) M
 | .str i,.str j=>if i.length + j.length<=100000 then .ok (.str (i ++ j)) M else .bad
 | .ref n,.ref m=>match M[n]?,M[m]? with
  |some (.lst xs),some (.lst ys)=>if xs.length + ys.length<=10000000 then .ok (.ref M.length) (M ++ [.lst (xs ++ ys)]) else .bad
  |_,_=> .bad
 | .tup xs,.tup ys=>if xs.length + ys.length<=100000/\xs≠[] then .ok (.tup (xs ++ ys)) M else .bad
 |_,_=> .bad
noncomputable def dSub:Bo:=fun x y M=>match x,y with | .int i,.int j=> .ok (.int (i - j)) M | _,_=> .bad
noncomputable def dMul:Bo:=fun x y M=>match x,y with | .int i,.int j=>if Zag i j then .ok (.int (i * j)) M else .bad | _,_=> .bad
noncomputable def dDiv:Bo:=fun x y M=>match x,y with | .int i,.int j=>if Zbi j then .ok (.int (i.fdiv j)) M else .bad | _,_=> .bad
noncomputable def dMod:Bo:=fun x y M=>match x,y with | .int i,.int j=>if j≠0 then .ok (.int (i.fmod j)) M else .bad | _,_=> .bad
noncomputable def dPow:Bo:=fun x y M=>match x,y with | .int i,.int j=>if 0<=j/\j<=1000000/\i.natAbs < 2 ^ 64 then .ok (.int (i ^ j.toNat)) M else .bad | _,_=> .bad
noncomputable def dLt:Bo:=fun x y M=>match x,y with | .int i,.int j=> .ok (.bl (decide (i < j))) M | _,_=> .bad
noncomputable def dLe:Bo:=fun x y M=>match x,y with | .int i,.int j=> .ok (.bl (decide (i<=j))) M | _,_=> .bad
noncomputable def dGt:Bo:=fun x y M=>match x,y with | .int i,.int j=> .ok (.bl (decide (j < i))) M | _,_=> .bad
noncomputable def dGe:Bo:=fun x y M=>match x,y with | .int i,.int j=> .ok (.bl (decide (j<=i))) M | _,_=> .bad
theorem Znk {n:Nat} (h:n<=100000):n<=sizeLine:=Nat.le_trans h (by decide)
section
variable {X:Cx} {ξ:XK}
theorem Zcg {r:R2} {f:Bo} {C:Int->Int->Prop} [∀ i j,Decidable (C i j)] {g:Int->Int->D} {gV:Int->Int->V} (hg: ∀ H α i j,Rep X.K H α (gV i j) (g i j))
  (hf: ∀ x y M,f x y M=match x,y with | .int i,.int j=>if C i j then .ok (g i j) M else .bad | _,_=> .bad) (hr: ∀ i j H Q,C i j->Q (gV i j) H->r (.int i) (.int j) H Q):BO X ξ r f:=by
 intro H α M v w x y Q h rv rw' q
 rw[hf] at q
 cases rv<;>first | exact q.elim | skip
 cases rw'<;>first | exact q.elim | skip
 rename_i i j
 by_cases c:C i j
 ·simp only[if_pos c] at q
  exact hr i j H Q c (q _ H α Ext.refl h (hg H α i j))
 ·simp only[if_neg c] at q
  exact q.elim
theorem Znl:BO X ξ (rI0 fun i j=> .int (i - j)) dSub:=Zcg (C:=fun _ _=>True) (fun _ _ i j=> .int (i - j)) (fun x y M=>by cases x<;>cases y<;>simp[dSub]) fun i j H Q _ q=>⟨i,j,rfl,rfl,q⟩
theorem Znm:BO X ξ (rI Zag fun i j=> .int (i * j)) dMul:=Zcg (C:=Zag) (fun _ _ i j=> .int (i * j)) (fun x y M=>by cases x<;>cases y<;>rfl) fun i j H Q c q=>⟨i,j,rfl,rfl,c,q⟩
theorem Znn:BO X ξ (rI (fun _ j=>Zbi j) fun i j=> .int (i.fdiv j)) dDiv:=Zcg (C:=fun _ j=>Zbi j) (fun _ _ i j=> .int (i.fdiv j)) (fun x y M=>by cases x<;>cases y<;>rfl) fun i j H Q c q=>⟨i,j,rfl,rfl,c,q⟩
theorem Zno:BO X ξ (rI (fun _ j=>j≠0) fun i j=> .int (i.fmod j)) dMod:=Zcg (C:=fun _ j=>j≠0) (fun _ _ i j=> .int (i.fmod j)) (fun x y M=>by cases x<;>cases y<;>rfl) fun i j H Q c q=>⟨i,j,rfl,rfl,c,q⟩
theorem Znp:BO X ξ (rI ZrZ fun i j=> .int (i ^ j.toNat)) dPow:=Zcg (C:=fun i j=>0<=j/\j<=1000000/\i.natAbs < 2 ^ 64) (fun _ _ i j=> .int (i ^ j.toNat)) (fun x y M=>by cases x<;>cases y<;>rfl) fun i j H Q c q=>⟨i,j,rfl,rfl,c,q⟩
theorem ZcP:BO X ξ (rI0 fun i j=> .bl (decide (i < j))) dLt:=Zcg (C:=fun _ _=>True) (fun _ _ i j=> .bl _) (fun x y M=>by cases x<;>cases y<;>simp[dLt]) fun i j H Q _ q=>⟨i,j,rfl,rfl,q⟩
theorem Zg9:BO X ξ (rI0 fun i j=> .bl (decide (i<=j))) dLe:=Zcg (C:=fun _ _=>True) (fun _ _ i j=> .bl _) (fun x y M=>by cases x<;>cases y<;>simp[dLe]) fun i j H Q _ q=>⟨i,j,rfl,rfl,q⟩
theorem ZcQ:BO X ξ (rI0 fun i j=> .bl (decide (j < i))) dGt:=Zcg (C:=fun _ _=>True) (fun _ _ i j=> .bl _) (fun x y M=>by cases x<;>cases y<;>simp[dGt]) fun i j H Q _ q=>⟨i,j,rfl,rfl,q⟩
theorem Zqe:BO X ξ (rI0 fun i j=> .bl (decide (j<=i))) dGe:=Zcg (C:=fun _ _=>True) (fun _ _ i j=> .bl _) (fun x y M=>by cases x<;>cases y<;>simp[dGe]) fun i j H Q _ q=>⟨i,j,rfl,rfl,q⟩
theorem Zlq:OpR X (binaryOp .Add) (fun x y H Q=>(rI0 (fun i j=> .int (i + j)) x y H Q\/(∃ i j,x= .str i/\y= .str j/\i.length + j.length<=sizeLine/\Q (.str (i ++ j)) H))\/(rCat x y H Q\/Zlh X.K x y H Q)):=
 OpR.or (OpR.or ZmZ Zg1) (OpR.or Znb Zli)
theorem Znq:BO X ξ (fun x y H Q=>(rI0 (fun i j=> .int (i + j)) x y H Q\/(∃ i j,x= .str i/\y= .str j/\i.length + j.length<=sizeLine/\Q (.str (i ++ j)) H))\/(rCat x y H Q\/Zlh X.K x y H Q)) dAdd:=by
 intro H α M v w x y Q h rv rw' q
 unfold dAdd at q
 split at q
 ·rename_i i j
  cases rv
  cases rw'
  exact .inl (.inl ⟨i,j,rfl,rfl,q _ H α Ext.refl h (.int (i + j))⟩)
 ·rename_i i j
  cases rv
  cases rw'
  split at q
  ·rename_i c
   exact .inl (.inr ⟨i,j,rfl,rfl,Znk c,q _ H α Ext.refl h (.str _)⟩)
  ·exact q.elim
 ·rename_i n m
  cases rv with
  | @ref p _ hp=>
   cases rw' with
   | @ref p2 _ hp2=>
    split at q
    ·rename_i ds ds2 e1 e2
     split at q
     ·rename_i c
      obtain ⟨xs,g1,r1⟩:=h.at hp e1
      obtain ⟨ys,g2,r2⟩:=h.at hp2 e2
      refine .inr (.inl ⟨p,p2,xs,ys,rfl,rfl,g1,g2,by rw[r1.length,r2.length];exact Nat.le_trans c (by decide),fun l hl=> ?_⟩)
      exact q _ _ (α ++ [l]) (Ext.new hl) (h.new hl (r1.append r2)) (.ref ⟨h.last l,Kn.lst ZC⟩)
     ·exact q.elim
    ·exact q.elim
 ·rename_i ds ds2
  cases rv with
  | @tup p xs _ hp rp=>
   cases rw' with
   | @tup p2 xs2 _ hp2 rp2=>
    split at q
    ·rename_i c
     have nx:xs≠[]:=fun z=>c.2 (by have:=rp.length;rw[z] at this;exact List.eq_nil_of_length_eq_zero this.symm)
     refine .inr (.inr ⟨p,p2,xs,xs2,rfl,rfl,(SqT.of hp),(SqT.of hp2),nx,by rw[rp.length,rp2.length];exact Znk c.1,fun z=> ?_,fun _ l hl=> ?_⟩)
     ·subst z
      cases rp2
      rw[List.append_nil] at q
      exact q _ H α Ext.refl h (.tup hp rp)
     ·exact q _ _ α (Ext.new0 hl) (h.tup hl) (.tup ZC (Reps.mono (Ext.new0 hl) (rp.append rp2)))
    ·exact q.elim
 ·exact q.elim
variable {a b e:Expr} {fa fb:Ev} {pos:Pos}
theorem ZH (ha:DE X ξ a fa) (hb:DE X ξ b fb):DE X ξ (.BinOp a .Add b pos) (e2 dAdd fa fb):=Zg7 Zlq Znq ha hb
theorem ZP (ha:DE X ξ a fa) (hb:DE X ξ b fb):DE X ξ (.BinOp a .Sub b pos) (e2 dSub fa fb):=Zg7 Zm0 Znl ha hb
theorem ZD (ha:DE X ξ a fa) (hb:DE X ξ b fb):DE X ξ (.BinOp a .Mult b pos) (e2 dMul fa fb):=Zg7 Zlp Znm ha hb
theorem ZN (ha:DE X ξ a fa) (hb:DE X ξ b fb):DE X ξ (.BinOp a .FloorDiv b pos) (e2 dDiv fa fb):=Zg7 ZjO Znn ha hb
theorem Z3 (ha:DE X ξ a fa) (hb:DE X ξ b fb):DE X ξ (.BinOp a .Mod b pos) (e2 dMod fa fb):=Zg7 Zla Zno ha hb
theorem ZdW (ha:DE X ξ a fa) (hb:DE X ξ b fb):DE X ξ (.BinOp a .Pow b pos) (e2 dPow fa fb):=Zg7 Zm1 Znp ha hb
noncomputable def Zb3 (f:Ev):Ev:=fun ρ M=>(f ρ M).bind fun x M1=>match x with | .int i=> .ok (.int (-i)) M1 | _=> .bad
theorem ZW (ha:DE X ξ a fa):DE X ξ (.UnaryOp .USub a pos) (Zb3 fa):=by
 obtain ⟨ta,ha,qa⟩:=ha
 refine ⟨_,ZmY Zku ha,fun σ ρ H α M Q s h q=> ?_⟩
 refine qa σ ρ H α M _ s h (OG.seq q fun x M1 v H1 α1 e1 h1 r1 q1=> ?_)
 cases r1 with
 |int i=>exact ⟨i,rfl,q1 _ H1 α1 Ext.refl h1 (.int (-i))⟩
 |_=>exact q1.elim
noncomputable def atD (xs:List D) (i:Int) (M:Sto):Out D:=match atI xs i with | some d=> .ok d M | none=> .bad
noncomputable def dIx:Bo:=fun x y M=>match x,y with
 | .tup xs,.int i=>atD xs i M
 | .rol xs,.int i=>atD xs i M
 | .ref n,.int i=>match M[n]? with | some (.lst xs)=>atD xs i M | _=> .bad
 |_,_=> .bad
theorem Reps.atI {K:PySem.W.Frag} {H:Hp} {α:List Addr} {vs:List V} {ds:List D} {i:Int} {d:D} (r:Reps K H α vs ds) (h:L2.atI ds i=some d): ∃ v,L2.atI vs i=some v/\Rep K H α v d:=by
 unfold L2.atI at h ⊢
 rw[r.length]
 cases e:ixN ds.length i with
 |none=>rw[e] at h;cases h
 |some j=>
  rw[e] at h
  exact r.get h
theorem Zqf:BO X ξ (fun x y H Q=>Zr0 X.K x y H Q\/Zr1 X.K x y H Q) dIx:=by
 intro H α M v w x y Q h rv rw' q
 have at': ∀ {ds:List D} {i:Int},OP X.K H α ξ Q (atD ds i M)-> ∃ d,L2.atI ds i=some d/\OP X.K H α ξ Q (.ok d M):=fun {ds i} q=>by
  unfold atD at q
  cases e:L2.atI ds i with
  |none=>rw[e] at q;exact q.elim
  |some d=>rw[e] at q;exact ⟨d,rfl,q⟩
 unfold dIx at q
 split at q
 ·rename_i ds i
  cases rw'
  cases rv with
  | @tup p xs _ hp rp=>
   obtain ⟨d,e,q⟩:=at' q
   obtain ⟨v,h1,h2⟩:=rp.atI e
   exact .inr ⟨p,xs,i,v,rfl,rfl,(SqT.of hp),h1,q v H α Ext.refl h h2⟩
 ·rename_i ds i
  cases rw'
  cases rv with
  | @rol p xs _ hp rp=>
   obtain ⟨d,e,q⟩:=at' q
   obtain ⟨v,h1,h2⟩:=rp.atI e
   exact .inl ⟨p,xs,i,v,rfl,rfl,hp.sq,h1,q v H α Ext.refl h h2⟩
 ·rename_i n i
  cases rw'
  cases rv with
  | @ref p _ hp=>
   split at q
   ·rename_i ds e1
    obtain ⟨d,e,q⟩:=at' q
    obtain ⟨xs,g1,r1⟩:=h.at hp e1
    obtain ⟨v,h1,h2⟩:=r1.atI e
    exact .inl ⟨p,xs,i,v,rfl,rfl,SqL.of g1,h1,q v H α Ext.refl h h2⟩
   ·exact q.elim
 ·exact q.elim
theorem Zq (ha:DE X ξ a fa) (hb:DE X ξ b fb) (hs:Zh2 b:=by exact fun _ _=>rfl):DE X ξ (.Subscript a b pos) (e2 dIx fa fb):=by
 obtain ⟨ta,ha,qa⟩:=ha
 obtain ⟨tb,hb,qb⟩:=hb
 exact ⟨_,Zqa (IxR.or Zlk Zm8) ha hb hs,two Zqf qa qb⟩
end
inductive Kd where
 |non | bl (b:Bool) | int (i:Int) | str (x:Str) | tup (xs:List D) | lst (xs:List D)
noncomputable def kd (M:Sto):D->Option Kd
 | .non=>some .non
 | .bl b=>some (.bl b)
 | .int i=>some (.int i)
 | .str x=>some (.str x)
 | .tup xs=>some (.tup xs)
 | .rol xs=>some (.lst xs)
 | .con xs=>some (.tup xs)
 | .ref n=>match M[n]? with | some (.lst xs)=>some (.lst xs) | _=>none
 | .err _ _=>none
 | .dk _=>none
 | .dt _=>none
 | .fn _=>none
noncomputable def eqL (f:D->D->Option Bool):List D->List D->Option Bool
 | [],[]=>some true
 |x :: xs,y :: ys=>match f x y with | some a=>(match eqL f xs ys with | some b=>some (a && b) | none=>none) | none=>none
 |_,_=>some false
noncomputable def eqK (f:D->D->Option Bool):Kd->Kd->Option Bool
 | .non,.non=>some true
 | .bl a,.bl b=>some (a == b)
 | .bl a,.int b=>some ((if a then 1 else 0) == b)
 | .int a,.bl b=>some (a == (if b then 1 else 0))
 | .int a,.int b=>some (a == b)
 | .str a,.str b=>some (a == b)
 | .tup xs,.tup ys=>eqL f xs ys
 | .lst xs,.lst ys=>if xs.length=ys.length then eqL f xs ys else some false
 |_,_=>some false
noncomputable def eqF:Nat->Sto->D->D->Option Bool
 |0,_,_,_=>none
 |n + 1,M,x,y=>match kd M x,kd M y with | some a,some b=>eqK (eqF n M) a b | _,_=>none
inductive Vw (X:Cx) (H:Hp) (α:List Addr) (s:Shared):Kd->Value->Prop where
 |non:Vw X H α s .non .none
 |bl (b:Bool):Vw X H α s (.bl b) (.bool b)
 |int (i:Int) (t:Tok):Vw X H α s (.int i) (.int i t)
 |str (x:Str) (t:Tok):Vw X H α s (.str x) (.str x t)
 |tup {p:Addr} {xs:List V} {ds:List D} {its:List Value}:s.heap.IsTuple p its.toArray->Z8 xs its->Reps X.K H α xs ds->Vw X H α s (.tup ds) (.ref p)
 |lst {p:Addr} {xs:List V} {ds:List D} {its:List Value}:s.heap.IsList p its.toArray->Z8 xs its->Reps X.K H α xs ds->Vw X H α s (.lst ds) (.ref p)
section
variable {X:Cx} {ξ:XK} {pins:List (Addr × Obj)} {σ:L2.St} {H:Hp} {s:Shared} {α:List Addr} {M:Sto}
theorem vw (I:Inv X pins σ H s) (h:HR X.K H α M) {v:V} {x:D} {u:Value} {k:Kd} (r:Rep X.K H α v x) (ru:Z4 v u) (e:kd M x=some k):Vw X H α s k u:=by
 cases r with
 |non=>cases e;cases ru;exact .non
 |bl b=>cases e;cases ru;exact .bl b
 |int i=>cases e;obtain ⟨t,rfl⟩:=ru;exact .int i t
 |str x=>cases e;obtain ⟨t,rfl⟩:=ru;exact .str x t
 |err _ _ _=>cases e
 |dk _=>cases e
 |dt _=>cases e
 |fn _=>cases e
 | @tup p xs ds hp rp=>
  cases e;cases ru
  obtain ⟨its,h1,h2,_⟩:=I.tuple (SqT.of hp)
  exact .tup h2 h1 rp
 | @con p xs ds hp rp=>
  cases e;cases ru
  obtain ⟨its,h1,h2,_⟩:=I.tuple hp.sq
  exact .tup h2 h1 rp
 | @rol p xs ds hp rp=>
  cases e;cases ru
  obtain ⟨its,h1,h2,_⟩:=I.list hp.sq
  exact .lst h2.isList h1 rp
 | @ref p n hp=>
  cases ru
  cases e1:M[n]? with
  |none=>simp only[kd,e1] at e;cases e
  |some o=>
   cases o with
   |lst ds=>
    simp only[kd,e1] at e
    cases e
    obtain ⟨xs,g1,r1⟩:=h.at hp e1
    obtain ⟨its,h1,h2,_⟩:=I.list (SqL.of g1)
    exact .lst h2.isList h1 r1
noncomputable def Eq3 (A:Around) (s:Shared) (u z:Value) (b:Bool):Prop:=EqAt A s u z b/\RcAt A s u z b/\RcNeAt A s u z (!b)
theorem Zif {f:D->D->Option Bool}: ∀ {xs ys:List D} {b:Bool},eqL f xs ys=some b->
  (∀ (j:Nat) x y,xs[j]?=some x->ys[j]?=some y-> ∃ c,f x y=some c)/\
  b=((List.range (min xs.length ys.length)).all (fun j=>match xs[j]?,ys[j]? with | some x,some y=>(f x y).getD false | _,_=>false) && xs.length == ys.length)
 | [],[],b,e=>by
  simp only[eqL,Option.some.injEq] at e
  subst e
  exact ⟨fun j x y h=>(by simp at h),(by simp)⟩
 |x :: xs,[],b,e=>by
  simp only[eqL,Option.some.injEq] at e
  subst e
  exact ⟨fun j x y h1 h2=>(by simp at h2),(by simp)⟩
 | [],y :: ys,b,e=>by
  simp only[eqL,Option.some.injEq] at e
  subst e
  exact ⟨fun j x y h1 h2=>(by simp at h1),(by simp)⟩
 |x :: xs,y :: ys,b,e=>by
  cases e1:f x y with
  |none=>simp only[eqL,e1] at e;cases e
  |some a=>
   cases e2:eqL f xs ys with
   |none=>simp only[eqL,e1,e2] at e;cases e
   |some c=>
    simp only[eqL,e1,e2,Option.some.injEq] at e
    subst e
    obtain ⟨h1,h2⟩:=Zif e2
    refine ⟨fun j x' y' g1 g2=> ?_,?_⟩
    ·cases j with
     |zero=>
      simp at g1 g2
      subst g1 g2
      exact ⟨a,e1⟩
     |succ j=>
      simp at g1 g2
      exact h1 j x' y' g1 g2
    ·have em:min (x :: xs).length (y :: ys).length=min xs.length ys.length + 1:=by simp only[List.length_cons];omega
     rw[em,List.range_succ_eq_map,List.all_cons,List.all_map,h2]
     simp[e1,Bool.and_assoc,Function.comp_def]
theorem ZjP (I:Inv X pins σ H s) (h:HR X.K H α M): ∀ (n:Nat) {v:V} {x y:D} {b:Bool},Rep X.K H α v x->Rep X.K H α v y->eqF n M x y=some b->b=true:=by
 intro n
 induction n with
 |zero=>intro v x y b _ _ e;simp only[eqF] at e;cases e
 |succ n ih=>
  have lists: ∀ (vs:List V) (xs ys:List D) (b:Bool),Reps X.K H α vs xs->Reps X.K H α vs ys->eqL (eqF n M) xs ys=some b->b=true:=by
   intro vs
   induction vs with
   |nil=>
    intro xs ys b r1 r2 e
    cases r1;cases r2
    simp only[eqL,Option.some.injEq] at e
    exact e.symm
   |cons v vs iv=>
    intro xs ys b r1 r2 e
    cases r1 with
    |cons p1 t1=>
     cases r2 with
     |cons p2 t2=>
      rename_i d1 ds1 d2 ds2
      cases e1:eqF n M d1 d2 with
      |none=>simp only[eqL,e1] at e;cases e
      |some a=>
       cases e2:eqL (eqF n M) ds1 ds2 with
       |none=>simp only[eqL,e1,e2] at e;cases e
       |some c=>
        simp only[eqL,e1,e2,Option.some.injEq] at e
        rw[<- e,ih p1 p2 e1,iv _ _ _ t1 t2 e2]
        rfl
  intro v x y b r1 r2 e
  have nl: ∀ {p:Addr} {xs ys:List V},SqT X.K H p xs->SqL X.K H p ys->False:=fun {p xs ys} a c=>by
   obtain ⟨i1,_,⟨o1,g1,c1,_⟩,_⟩:=I.tuple a
   obtain ⟨i2,_,⟨o2,_,g2,c2,_⟩,_⟩:=I.list c
   rw[g1] at g2
   cases g2
   rw[c1] at c2
   exact absurd c2 (by decide)
  have ll: ∀ {p:Addr} {n:Nat} {ds:List D},RefK H α 0 n p->M[n]?=some (.lst ds)-> ∃ vs,SqL X.K H p vs/\Reps X.K H α vs ds:=fun {p n ds} a c=>by
   obtain ⟨xs,g1,r1⟩:=h.at a c
   exact ⟨xs,SqL.of g1,r1⟩
  cases r1 with
  |non=>cases r2;simp only[eqF,kd,eqK,Option.some.injEq] at e;exact e.symm
  |bl c=>cases r2;simp only[eqF,kd,eqK,Option.some.injEq,beq_self_eq_true] at e;exact e.symm
  |int c=>cases r2;simp only[eqF,kd,eqK,Option.some.injEq,beq_self_eq_true] at e;exact e.symm
  |str c=>cases r2;simp only[eqF,kd,eqK,Option.some.injEq,beq_self_eq_true] at e;exact e.symm
  |err _ _ _=>simp[eqF,kd] at e
  |dk _=>simp[eqF,kd] at e
  |dt _=>simp[eqF,kd] at e
  |fn _=>simp[eqF,kd] at e
  | @tup p xs ds hp rp=>
   cases r2 with
   | @tup _ xs2 ds2 hp2 rp2=>
    cases I.tuple_inj (SqT.of hp) (SqT.of hp2)
    simp only[eqF,kd,eqK] at e
    exact lists _ _ _ _ rp rp2 e
   | @con _ xs2 ds2 hp2 rp2=>
    cases I.tuple_inj (SqT.of hp) hp2.sq
    simp only[eqF,kd,eqK] at e
    exact lists _ _ _ _ rp rp2 e
   | @rol _ xs2 ds2 hp2 rp2=>exact (nl (SqT.of hp) hp2.sq).elim
   |err _ _ _=>simp[eqF,kd] at e
   |dk _=>simp[eqF,kd] at e
   |dt _=>simp[eqF,kd] at e
   |fn _=>simp[eqF,kd] at e
   | @ref _ n2 hp2=>
    obtain ⟨ys,g⟩:=h.some_at hp2
    exact (nl (SqT.of hp) (SqL.of g)).elim
  | @con p xs ds hp rp=>
   cases r2 with
   | @tup _ xs2 ds2 hp2 rp2=>
    cases I.tuple_inj hp.sq (SqT.of hp2)
    simp only[eqF,kd,eqK] at e
    exact lists _ _ _ _ rp rp2 e
   | @con _ xs2 ds2 hp2 rp2=>
    cases I.tuple_inj hp.sq hp2.sq
    simp only[eqF,kd,eqK] at e
    exact lists _ _ _ _ rp rp2 e
   | @rol _ xs2 ds2 hp2 rp2=>exact (nl hp.sq hp2.sq).elim
   |err _ _ _=>simp[eqF,kd] at e
   |dk _=>simp[eqF,kd] at e
   |dt _=>simp[eqF,kd] at e
   |fn _=>simp[eqF,kd] at e
   | @ref _ n2 hp2=>
    obtain ⟨ys,g⟩:=h.some_at hp2
    exact (nl hp.sq (SqL.of g)).elim
  | @rol p xs ds hp rp=>
   cases r2 with
   | @tup _ xs2 ds2 hp2 rp2=>exact (nl (SqT.of hp2) hp.sq).elim
   | @con _ xs2 ds2 hp2 rp2=>exact (nl hp2.sq hp.sq).elim
   |err _ _ _=>simp[eqF,kd] at e
   |dk _=>simp[eqF,kd] at e
   |dt _=>simp[eqF,kd] at e
   |fn _=>simp[eqF,kd] at e
   | @rol _ xs2 ds2 hp2 rp2=>
    cases I.list_inj hp.sq hp2.sq
    simp only[eqF,kd,eqK,if_pos (rp.length.symm.trans rp2.length)] at e
    exact lists _ _ _ _ rp rp2 e
   | @ref _ n2 hp2=>
    cases e1:M[n2]? with
    |none=>simp only[eqF,kd,e1] at e;cases e
    |some o=>
     cases o with
     |lst ds2=>
      obtain ⟨ys,g,r⟩:=ll hp2 e1
      cases I.list_inj hp.sq g
      simp only[eqF,kd,e1,eqK,if_pos (rp.length.symm.trans r.length)] at e
      exact lists _ _ _ _ rp r e
  | @ref p n1 hp=>
   cases e0:M[n1]? with
   |none=>simp only[eqF,kd,e0] at e;cases e
   |some o0=>
    cases o0 with
    |lst ds=>
     obtain ⟨xs,g0,rp⟩:=ll hp e0
     cases r2 with
     | @tup _ xs2 ds2 hp2 rp2=>exact (nl (SqT.of hp2) g0).elim
     | @con _ xs2 ds2 hp2 rp2=>exact (nl hp2.sq g0).elim
     |err _ _ _=>simp[eqF,kd,e0] at e
     |dk _=>simp[eqF,kd,e0] at e
     |dt _=>simp[eqF,kd,e0] at e
     |fn _=>simp[eqF,kd,e0] at e
     | @rol _ xs2 ds2 hp2 rp2=>
      cases I.list_inj g0 hp2.sq
      simp only[eqF,kd,e0,eqK,if_pos (rp.length.symm.trans rp2.length)] at e
      exact lists _ _ _ _ rp rp2 e
     | @ref _ n2 hp2=>
      cases e1:M[n2]? with
      |none=>simp only[eqF,kd,e0,e1] at e;cases e
      |some o=>
       cases o with
       |lst ds2=>
        obtain ⟨ys,g,r⟩:=ll hp2 e1
        cases I.list_inj g0 g
        simp only[eqF,kd,e0,e1,eqK,if_pos (rp.length.symm.trans r.length)] at e
        exact lists _ _ _ _ rp r e
end
end DL
end
section
namespace DL
open PySem PySem.Spec PyProof.Rows L2
open PySem.SeqAt (EqAt RcAt RcNeAt)
section
variable {X:Cx} {ξ:XK} {pins:List (Addr × Obj)} {σ:L2.St} {H:Hp} {s:Shared} {α:List Addr} {M:Sto}
theorem Zgw {A:Around} {n:Nat} {xs1 xs2:List V} {ds1 ds2:List D} {i1 i2:List Value} {b:Bool} (v1:Z8 xs1 i1) (v2:Z8 xs2 i2) (r1:Reps X.K H α xs1 ds1) (r2:Reps X.K H α xs2 ds2)
  (ih: ∀ (x y:D) (v w:V) (u z:Value) (b:Bool),eqF n M x y=some b->Rep X.K H α v x->Rep X.K H α w y->Z4 v u->Z4 w z->EqAt A s u z b) (e:eqL (eqF n M) ds1 ds2=some b):
  ∃ f:Nat->Bool,(∀ (j:Nat) (h1:j < i1.toArray.size) (h2:j < i2.toArray.size),EqAt A s i1.toArray[j] i2.toArray[j] (f j))/\b=((List.range (min i1.toArray.size i2.toArray.size)).all f && i1.toArray.size == i2.toArray.size):=by
 obtain ⟨g1,g2⟩:=Zif e
 have l1:i1.toArray.size=ds1.length:=by rw[List.size_toArray,<- v1.length,r1.length]
 have l2:i2.toArray.size=ds2.length:=by rw[List.size_toArray,<- v2.length,r2.length]
 refine ⟨_,fun j h1 h2=> ?_,by rw[l1,l2];exact g2⟩
 have k1:j < ds1.length:=by rw[<- l1];exact h1
 have k2:j < ds2.length:=by rw[<- l2];exact h2
 obtain ⟨c,hc⟩:=g1 j _ _ (List.getElem?_eq_getElem k1) (List.getElem?_eq_getElem k2)
 obtain ⟨v,a1,a2⟩:=r1.get (List.getElem?_eq_getElem k1)
 obtain ⟨w,b1,b2⟩:=r2.get (List.getElem?_eq_getElem k2)
 obtain ⟨u,a3,a4⟩:=v1.get a1
 obtain ⟨z,b3,b4⟩:=v2.get b1
 have q:=ih _ _ v w u z c hc a2 b2 a4 b4
 simp only[List.getElem?_eq_getElem k1,List.getElem?_eq_getElem k2,hc,Option.getD_some]
 have e1:i1.toArray[j]=u:=by
  have:=List.getElem?_eq_some_iff.mp a3
  obtain ⟨_,z⟩:=this
  simpa using z
 have e2:i2.toArray[j]=z:=by
  have:=List.getElem?_eq_some_iff.mp b3
  obtain ⟨_,z⟩:=this
  simpa using z
 rw[e1,e2]
 exact q
theorem Zig (I:Inv X pins σ H s) (h:HR X.K H α M) {n:Nat} {x y:D} {v w:V} {p q:Addr} {b:Bool} {A:Around} (e:eqF n M x y=some b) (rx:Rep X.K H α v x) (ry:Rep X.K H α w y) (rv:Z4 v (.ref p)) (rw':Z4 w (.ref q))
  (k:RcAt A s (.ref p) (.ref q) b) (k':RcNeAt A s (.ref p) (.ref q) (!b)):Eq3 A s (.ref p) (.ref q) b:=by
 refine ⟨?_,k,k'⟩
 by_cases c:p=q
 ·subst c
  cases Z4.inj rv rw'
  rw[ZjP I h n rx ry e]
  exact EqAt.same _
 ·exact EqAt.of_refs c k
theorem eq3 (I:Inv X pins σ H s) (h:HR X.K H α M): ∀ (n:Nat) (x y:D) (v w:V) (u z:Value) (b:Bool) (A:Around),A.units + n < cLine->eqF n M x y=some b->Rep X.K H α v x->Rep X.K H α w y->Z4 v u->Z4 w z->Eq3 A s u z b:=by
 intro n
 induction n with
 |zero=>intro x y v w u z b A _ e;simp only[eqF] at e;cases e
 |succ n ih=>
  intro x y v w u z b A hn e rx ry rv rw'
  have hu:A.units < cLine:=by omega
  have e0:=e
  unfold eqF at e
  cases ka:kd M x with
  |none=>rw[ka] at e;cases e
  |some ka'=>
   cases kb:kd M y with
   |none=>rw[ka,kb] at e;cases e
   |some kb'=>
    rw[ka,kb] at e
    have va:=vw I h rx rv ka
    have vb:=vw I h ry rw' kb
    have deep: ∀ (x y:D) (v w:V) (u z:Value) (b:Bool),eqF n M x y=some b->Rep X.K H α v x->Rep X.K H α w y->Z4 v u->Z4 w z->EqAt A.in1 s u z b:=fun x y v w u z b e a1 a2 a3 a4=>
     (ih x y v w u z b A.in1 (by rw[Around.in1_units];omega) e a1 a2 a3 a4).1
    cases va with
    |non=>
     cases vb<;>simp only[eqK,Option.some.injEq] at e<;>subst e
     ·exact ⟨EqAt.same _,.none_none,.none_none⟩
     ·exact ⟨.none_bool _,.none_bool _,.none_bool _⟩
     ·exact ⟨.none_int _ _,.none_int _ _,.none_int _ _⟩
     ·exact ⟨.none_str _ _,.none_str _ _,.none_str _ _⟩
     ·rename_i g _ _;exact ⟨.none_tuple g hu,.none_tuple g hu,.none_tuple g hu⟩
     ·rename_i g _ _;exact ⟨.none_list g hu,.none_list g hu,.none_list g hu⟩
    |bl c=>
     cases vb<;>simp only[eqK,Option.some.injEq] at e<;>subst e
     ·exact ⟨.bool_none _,.bool_none _,.bool_none _⟩
     ·exact ⟨.bool_bool _ _,.bool_bool _ _,.bool_bool _ _⟩
     ·exact ⟨.bool_int _ _ _,.bool_int _ _ _,.bool_int _ _ _⟩
     ·exact ⟨.bool_str _ _ _,.bool_str _ _ _,.bool_str _ _ _⟩
     ·rename_i g _ _;exact ⟨.bool_tuple _ g hu,.bool_tuple _ g hu,.bool_tuple _ g hu⟩
     ·rename_i g _ _;exact ⟨.bool_list _ g hu,.bool_list _ g hu,.bool_list _ g hu⟩
    |int c t=>
     cases vb<;>simp only[eqK,Option.some.injEq] at e<;>subst e
     ·exact ⟨.int_none _ _,.int_none _ _,.int_none _ _⟩
     ·exact ⟨.int_bool _ _ _,.int_bool _ _ _,.int_bool _ _ _⟩
     ·exact ⟨.int_int _ _ _ _,.int_int _ _ _ _,.int_int _ _ _ _⟩
     ·exact ⟨.int_str _ _ _ _,.int_str _ _ _ _,.int_str _ _ _ _⟩
     ·rename_i g _ _;exact ⟨.int_tuple _ _ g hu,.int_tuple _ _ g hu,.int_tuple _ _ g hu⟩
     ·rename_i g _ _;exact ⟨.int_list _ _ g hu,.int_list _ _ g hu,.int_list _ _ g hu⟩
    |str c t=>
     cases vb<;>simp only[eqK,Option.some.injEq] at e<;>subst e
     ·exact ⟨.str_none _ _,.str_none _ _,.str_none _ _⟩
     ·exact ⟨.str_bool _ _ _,.str_bool _ _ _,.str_bool _ _ _⟩
     ·exact ⟨.str_int _ _ _ _,.str_int _ _ _ _,.str_int _ _ _ _⟩
     ·exact ⟨.str_str _ _ _ _,.str_str _ _ _ _,.str_str _ _ _ _⟩
     ·rename_i g _ _;exact ⟨.str_tuple _ _ g hu,.str_tuple _ _ g hu,.str_tuple _ _ g hu⟩
     ·rename_i g _ _;exact ⟨.str_list _ _ g hu,.str_list _ _ g hu,.str_list _ _ g hu⟩
    | @tup p xs ds its g1 w1 q1=>
     cases vb with
     | @tup p2 xs2 ds2 its2 g2 w2 q2=>
      simp only[eqK] at e
      obtain ⟨f,hf,hb⟩:=Zgw w1 w2 q1 q2 deep e
      subst hb
      exact Zig I h e0 rx ry rv rw' (.tuples g1 g2 hu hf) (.tuples g1 g2 hu hf)
     | @lst p2 xs2 ds2 its2 g2 w2 q2=>
      simp only[eqK,Option.some.injEq] at e
      subst e
      exact Zig I h e0 rx ry rv rw' (.tuple_list g1 g2 hu) (.tuple_list g1 g2 hu)
     |non=>simp only[eqK,Option.some.injEq] at e;subst e;exact ⟨.tuple_none g1 hu,.tuple_none g1 hu,.tuple_none g1 hu⟩
     |bl c=>simp only[eqK,Option.some.injEq] at e;subst e;exact ⟨.tuple_bool _ g1 hu,.tuple_bool _ g1 hu,.tuple_bool _ g1 hu⟩
     |int c t=>simp only[eqK,Option.some.injEq] at e;subst e;exact ⟨.tuple_int _ _ g1 hu,.tuple_int _ _ g1 hu,.tuple_int _ _ g1 hu⟩
     |str c t=>simp only[eqK,Option.some.injEq] at e;subst e;exact ⟨.tuple_str _ _ g1 hu,.tuple_str _ _ g1 hu,.tuple_str _ _ g1 hu⟩
    | @lst p xs ds its g1 w1 q1=>
     cases vb with
     | @lst p2 xs2 ds2 its2 g2 w2 q2=>
      simp only[eqK] at e
      have l1:its.toArray.size=ds.length:=by rw[List.size_toArray,<- w1.length,q1.length]
      have l2:its2.toArray.size=ds2.length:=by rw[List.size_toArray,<- w2.length,q2.length]
      by_cases c:ds.length=ds2.length
      ·rw[if_pos c] at e
       have hs:its.toArray.size=its2.toArray.size:=by rw[l1,l2,c]
       obtain ⟨f,hf,hb⟩:=Zgw w1 w2 q1 q2 deep e
       rw[hs,Nat.min_self,beq_self_eq_true,Bool.and_true,<- hs] at hb
       subst hb
       exact Zig I h e0 rx ry rv rw' (.lists g1 g2 hs hu hf) (.lists g1 g2 hs hu hf)
      ·rw[if_neg c] at e
       have e':false=b:=Option.some.inj e
       subst e'
       have hs:(its.toArray.size != its2.toArray.size)=true:=by rw[l1,l2];simpa using c
       exact Zig I h e0 rx ry rv rw' (.lists_lengths g1 g2 hs hu) (.lists_lengths g1 g2 hs hu)
     | @tup p2 xs2 ds2 its2 g2 w2 q2=>
      simp only[eqK,Option.some.injEq] at e
      subst e
      exact Zig I h e0 rx ry rv rw' (.list_tuple g1 g2 hu) (.list_tuple g1 g2 hu)
     |non=>simp only[eqK,Option.some.injEq] at e;subst e;exact ⟨.list_none g1 hu,.list_none g1 hu,.list_none g1 hu⟩
     |bl c=>simp only[eqK,Option.some.injEq] at e;subst e;exact ⟨.list_bool _ g1 hu,.list_bool _ g1 hu,.list_bool _ g1 hu⟩
     |int c t=>simp only[eqK,Option.some.injEq] at e;subst e;exact ⟨.list_int _ _ g1 hu,.list_int _ _ g1 hu,.list_int _ _ g1 hu⟩
     |str c t=>simp only[eqK,Option.some.injEq] at e;subst e;exact ⟨.list_str _ _ g1 hu,.list_str _ _ g1 hu,.list_str _ _ g1 hu⟩
end
section
variable {X:Cx} {ξ:XK}
noncomputable def ZpL (X:Cx) (neg:Bool):R2:=fun v w H Q=> ∃ α M x y b,HR X.K H α M/\Rep X.K H α v x/\Rep X.K H α w y/\eqF 12 M x y=some b/\Q (.bl (neg ^^ b)) H
theorem ZcG (hu:X.A.units + 64 < cLine):OpR X (compareOp .Eq) (ZpL X false):=by
 intro pins s σ H v w u z Q I rv rw' ⟨α,M,x,y,b,h,rx,ry,e,q⟩
 refine (eq3 I h 12 x y v w u z b X.A (by omega) e rx ry rv rw').2.1 _ _ _ _ ⟨.bl b,H,I,rfl,?_⟩
 simpa using q
theorem Zb0 (hu:X.A.units + 64 < cLine):OpR X (compareOp .NotEq) (ZpL X true):=by
 intro pins s σ H v w u z Q I rv rw' ⟨α,M,x,y,b,h,rx,ry,e,q⟩
 refine (eq3 I h 12 x y v w u z b X.A (by omega) e rx ry rv rw').2.2 _ _ _ _ ⟨.bl (!b),H,I,rfl,?_⟩
 simpa using q
noncomputable def dEq:Bo:=fun x y M=>match eqF 12 M x y with | some b=> .ok (.bl b) M | none=> .bad
noncomputable def dNe:Bo:=fun x y M=>match eqF 12 M x y with | some b=> .ok (.bl (!b)) M | none=> .bad
theorem Ze1:BO X ξ (ZpL X false) dEq:=by
 intro H α M v w x y Q h rv rw' q
 unfold dEq at q
 cases e:eqF 12 M x y with
 |none=>rw[e] at q;exact q.elim
 |some b=>rw[e] at q;exact ⟨α,M,x,y,b,h,rv,rw',e,by simpa using q _ H α Ext.refl h (.bl b)⟩
theorem ZdK:BO X ξ (ZpL X true) dNe:=by
 intro H α M v w x y Q h rv rw' q
 unfold dNe at q
 cases e:eqF 12 M x y with
 |none=>rw[e] at q;exact q.elim
 |some b=>rw[e] at q;exact ⟨α,M,x,y,b,h,rv,rw',e,by simpa using q _ H α Ext.refl h (.bl (!b))⟩
noncomputable def Zih:V->Bool
 | .non=>true
 | .bl _=>true
 |_=>false
noncomputable def rIs (neg:Bool):R2:=fun v w H Q=>Zih w=true/\Q (.bl (neg ^^ decide (v=w))) H
theorem Zgx {v w:V} {u z:Value} (rv:Z4 v u) (rw':Z4 w z) (p:Zih w=true):plainIs u z=true/\(u == z)=decide (v=w):=by
 cases w with
 |non=>
  cases rw'
  cases v with
  |non=>cases rv;exact ⟨rfl,rfl⟩
  |bl b=>cases rv;exact ⟨rfl,by rw[decide_eq_false (fun z=>(nomatch z))];rfl⟩
  |int b=>obtain ⟨t,rfl⟩:=rv;exact ⟨rfl,by rw[decide_eq_false (fun z=>(nomatch z))];rfl⟩
  |str b=>obtain ⟨t,rfl⟩:=rv;exact ⟨rfl,by rw[decide_eq_false (fun z=>(nomatch z))];rfl⟩
  |byt b=>obtain ⟨t,rfl⟩:=rv;exact ⟨rfl,by rw[decide_eq_false (fun z=>(nomatch z))];rfl⟩
  |flt b=>obtain ⟨t,rfl⟩:=rv;exact ⟨rfl,by rw[decide_eq_false (fun z=>(nomatch z))];rfl⟩
  |ref b=>cases rv;exact ⟨rfl,by rw[decide_eq_false (fun z=>(nomatch z))];rfl⟩
  |ty b=>cases rv;exact ⟨rfl,by rw[decide_eq_false (fun z=>(nomatch z))];rfl⟩
 |bl c=>
  cases rw'
  cases v with
  |non=>cases rv;exact ⟨rfl,by rw[decide_eq_false (fun z=>(nomatch z))];rfl⟩
  |bl b=>cases rv;refine ⟨rfl,?_⟩;cases b<;>cases c<;>rfl
  |int b=>obtain ⟨t,rfl⟩:=rv;exact ⟨rfl,by rw[decide_eq_false (fun z=>(nomatch z))];rfl⟩
  |str b=>obtain ⟨t,rfl⟩:=rv;exact ⟨rfl,by rw[decide_eq_false (fun z=>(nomatch z))];rfl⟩
  |byt b=>obtain ⟨t,rfl⟩:=rv;exact ⟨rfl,by rw[decide_eq_false (fun z=>(nomatch z))];rfl⟩
  |flt b=>obtain ⟨t,rfl⟩:=rv;exact ⟨rfl,by rw[decide_eq_false (fun z=>(nomatch z))];rfl⟩
  |ref b=>cases rv;exact ⟨rfl,by rw[decide_eq_false (fun z=>(nomatch z))];rfl⟩
  |ty b=>cases rv;exact ⟨rfl,by rw[decide_eq_false (fun z=>(nomatch z))];rfl⟩
 |_=>cases p
theorem ZdX:OpR X (compareOp .Is) (rIs false):=by
 intro pins s σ H v w u z Q I rv rw' ⟨p,q⟩
 obtain ⟨h1,h2⟩:=Zgx rv rw' p
 refine wpAny_is_plain h1 ⟨.bl (u == z),H,I,rfl,?_⟩
 rw[h2]
 simpa using q
theorem Zii:OpR X (compareOp .IsNot) (rIs true):=by
 intro pins s σ H v w u z Q I rv rw' ⟨p,q⟩
 obtain ⟨h1,h2⟩:=Zgx rv rw' p
 refine wpAny_isNot_plain h1 ⟨.bl (!(u == z)),H,I,rfl,?_⟩
 rw[h2]
 simpa using q
noncomputable def isP:D->D->Option Bool
 | .non,.non=>some true
 | .bl a,.bl b=>some (a == b)
 |_,.non=>some false
 |_,.bl _=>some false
 |_,_=>none
noncomputable def dIs:Bo:=fun x y M=>match isP x y with | some b=> .ok (.bl b) M | none=> .bad
noncomputable def dIsNot:Bo:=fun x y M=>match isP x y with | some b=> .ok (.bl (!b)) M | none=> .bad
theorem ZkA {K:PySem.W.Frag} {H:Hp} {α:List Addr} {v w:V} {x y:D} {b:Bool} (rv:Rep K H α v x) (rw':Rep K H α w y) (e:isP x y=some b):Zih w=true/\decide (v=w)=b:=by
 unfold isP at e
 split at e
 ·cases rv;cases rw';cases e;exact ⟨rfl,rfl⟩
 ·rename_i c d
  cases rv;cases rw';cases e
  refine ⟨rfl,?_⟩
  cases c<;>cases d<;>rfl
 ·rename_i hx
  cases rw';cases e
  refine ⟨rfl,decide_eq_false fun z=> ?_⟩
  subst z
  cases rv
  exact hx rfl
 ·rename_i c hx
  cases rw';cases e
  refine ⟨rfl,decide_eq_false fun z=> ?_⟩
  subst z
  cases rv
  exact hx _ rfl
 ·cases e
theorem Zha:BO X ξ (rIs false) dIs:=by
 intro H α M v w x y Q h rv rw' q
 unfold dIs at q
 cases e:isP x y with
 |none=>rw[e] at q;exact q.elim
 |some b=>
  rw[e] at q
  obtain ⟨p,d⟩:=ZkA rv rw' e
  exact ⟨p,by rw[d];simpa using q _ H α Ext.refl h (.bl b)⟩
theorem ZjQ:BO X ξ (rIs true) dIsNot:=by
 intro H α M v w x y Q h rv rw' q
 unfold dIsNot at q
 cases e:isP x y with
 |none=>rw[e] at q;exact q.elim
 |some b=>
  rw[e] at q
  obtain ⟨p,d⟩:=ZkA rv rw' e
  exact ⟨p,by rw[d];simpa using q _ H α Ext.refl h (.bl (!b))⟩
noncomputable def Znr:D->Bool
 | .non=>true
 | .bl _=>true
 | .int _=>true
 | .str _=>true
 |_=>false
noncomputable def Ztj:D->D->Bool
 | .non,.non=>true
 | .bl a,.bl b=>a == b
 | .bl a,.int b=>(if a then 1 else 0) == b
 | .int a,.bl b=>a == (if b then 1 else 0)
 | .int a,.int b=>a == b
 | .str a,.str b=>a == b
 |_,_=>false
noncomputable def Ze2 (M:Sto):D->Option (List D)
 | .tup xs=>some xs
 | .rol xs=>some xs
 | .con xs=>some xs
 | .ref n=>match M[n]? with | some (.lst xs)=>some xs | _=>none
 |_=>none
theorem Zij {K:PySem.W.Frag} {H:Hp} {α:List Addr} {M:Sto} (h:HR K H α M) {v:V} {x:D} {ds:List D} (r:Rep K H α v x) (e:Ze2 M x=some ds): ∃ p xs,v= .ref p/\(SqL K H p xs\/SqT K H p xs)/\Reps K H α xs ds:=by
 cases r with
 | @tup p xs ds hp rp=>cases e;exact ⟨p,xs,rfl,.inr (SqT.of hp),rp⟩
 | @con p xs ds hp rp=>cases e;exact ⟨p,xs,rfl,.inr hp.sq,rp⟩
 | @rol p xs ds hp rp=>cases e;exact ⟨p,xs,rfl,.inl hp.sq,rp⟩
 | @ref p n hp=>
  cases e1:M[n]? with
  |none=>simp only[Ze2,e1] at e;cases e
  |some o=>
   cases o with
   |lst es=>
    simp only[Ze2,e1] at e
    cases e
    obtain ⟨xs,g1,r1⟩:=h.at hp e1
    exact ⟨p,xs,rfl,.inl (SqL.of g1),r1⟩
 |_=>cases e
theorem ZjR {K:PySem.W.Frag} {H:Hp} {α:List Addr} {M:Sto} (h:HR K H α M) {v:V} {x:D} {ds:List D} (r:Rep K H α v x) (e:Ze2 M x=some ds) (nc: ∀ ys,x≠ .con ys): ∃ p xs,v= .ref p/\(SqL K H p xs\/H p=some (.tup xs))/\Reps K H α xs ds:=by
 cases r with
 |con _ _=>exact absurd rfl (nc _)
 | @tup p xs ds hp rp=>cases e;exact ⟨p,xs,rfl,.inr hp,rp⟩
 | @rol p xs ds hp rp=>cases e;exact ⟨p,xs,rfl,.inl hp.sq,rp⟩
 | @ref p n hp=>
  cases e1:M[n]? with
  |none=>simp only[Ze2,e1] at e;cases e
  |some o=>
   cases o with
   |lst es=>
    simp only[Ze2,e1] at e
    cases e
    obtain ⟨xs,g1,r1⟩:=h.at hp e1
    exact ⟨p,xs,rfl,.inl (SqL.of g1),r1⟩
 |_=>cases e
noncomputable def inD (x y:D) (M:Sto):Option Bool:=match Ze2 M y with | some ds=>if Znr x=true/\ds.all Znr=true then some (ds.any fun y=>Ztj y x) else none | none=>none
variable {e:Expr} {es:List Expr} {fs:Av} {fa:Ev} {p pos:Pos} {x:Str} {id T:String} {r:List V->Hp->VK->Prop} {f:List D->Sto->Out D}
noncomputable def Zk (f:List D->Sto->Out D) (fs:Av):Ev:=fun ρ M=>(fs ρ M).bind f
noncomputable def CO (X:Cx) (ξ:XK) (r:List V->Hp->VK->Prop) (f:List D->Sto->Out D):Prop:= ∀ H α M vs ds Q,HR X.K H α M->Reps X.K H α vs ds->OP X.K H α ξ Q (f ds M)->r vs H Q
theorem Zr (hc:Zcd X (.builtin id) r) (hf:CO X ξ r f) (hm:X.mg x=none) (hv:bootBuiltins x=some (.builtin id)) (ha:DA X ξ (e :: es) fs) (hg:Gl X x:=by rfl) (hn:x≠"__name__":=by decide) (hdb:(x == ("__debug__":Str))=false:=by decide)
  (he:starEach (e :: es) X.env=(false,eval e X.env) :: starEach es X.env:=by rfl) (hpl:(backTo pos (starEach es X.env)).any (·.1)=false:=by rfl):DE X ξ (.Call (.Name x p) (e :: es) [] pos) (Zk f fs):=by
 obtain ⟨ta,ha,qa⟩:=ha
 refine ⟨_,Zd9 hc hg hm hv ha hn hdb he hpl,fun σ ρ H α M Q s h q=> ?_⟩
 exact qa σ ρ H α M _ s h (OG.seq q fun ds M1 vs H1 α1 e1 h1 r1 q1=>hf H1 α1 M1 vs ds Q h1 r1 q1)
theorem Zch (hc:Zcd X (.type T) r) (hf:CO X ξ r f) (hm:X.mg x=none) (hv:bootBuiltins x=some (.type T)) (ha:DA X ξ (e :: es) fs) (hg:Gl X x:=by rfl) (hn:x≠"__name__":=by decide) (hdb:(x == ("__debug__":Str))=false:=by decide)
  (he:starEach (e :: es) X.env=(false,eval e X.env) :: starEach es X.env:=by rfl) (hpl:(backTo pos (starEach es X.env)).any (·.1)=false:=by rfl):DE X ξ (.Call (.Name x p) (e :: es) [] pos) (Zk f fs):=by
 obtain ⟨ta,ha,qa⟩:=ha
 refine ⟨_,ZhY hc hg hm hv ha hn hdb he hpl,fun σ ρ H α M Q s h q=> ?_⟩
 exact qa σ ρ H α M _ s h (OG.seq q fun ds M1 vs H1 α1 e1 h1 r1 q1=>hf H1 α1 M1 vs ds Q h1 r1 q1)
noncomputable def bLen:List D->Sto->Out D:=fun ds M=>match ds with
 | [x]=>match Ze2 M x with | some xs=> .ok (.int xs.length) M | none=> .bad
 |_=> .bad
theorem Zax:CO X ξ (fun xs H Q=> ∃ p ys,xs=[.ref p]/\(SqL X.K H p ys\/SqT X.K H p ys)/\Q (.int ys.length) H) bLen:=by
 intro H α M vs ds Q h rs q
 unfold bLen at q
 cases rs with
 |nil=>exact q.elim
 | @cons v x vs ds r t=>
  cases t with
  |cons _ _=>exact q.elim
  |nil=>
  cases e:Ze2 M x with
  |none=>simp only[e] at q;exact q.elim
  |some ys=>
   simp only[e] at q
   obtain ⟨p,xs,rfl,h2,h3⟩:=Zij h r e
   exact ⟨p,xs,rfl,h2,by rw[h3.length];exact q _ H α Ext.refl h (.int _)⟩
noncomputable def bAbs:List D->Sto->Out D:=fun ds M=>match ds with | [.int i]=> .ok (.int (if i < 0 then -i else i)) M | _=> .bad
theorem Zda:CO X ξ (fun xs H Q=> ∃ i,xs=[.int i]/\Q (.int (if i < 0 then -i else i)) H) bAbs:=by
 intro H α M vs ds Q h rs q
 unfold bAbs at q
 split at q
 ·cases rs with
  |cons r t=>
   cases t
   cases r
   exact ⟨_,rfl,q _ H α Ext.refl h (.int _)⟩
 ·exact q.elim
noncomputable def bMax:List D->Sto->Out D:=fun ds M=>match ds with | [.int i,.int j]=> .ok (.int (if j > i then j else i)) M | _=> .bad
noncomputable def bMin:List D->Sto->Out D:=fun ds M=>match ds with | [.int i,.int j]=> .ok (.int (if j < i then j else i)) M | _=> .bad
theorem ZkB {g:Int->Int->Int} {f:List D->Sto->Out D} (hf: ∀ ds M,f ds M=match ds with | [.int i,.int j]=> .ok (.int (g i j)) M | _=> .bad):CO X ξ (fun xs H Q=> ∃ i j,xs=[.int i,.int j]/\Q (.int (g i j)) H) f:=by
 intro H α M vs ds Q h rs q
 rw[hf] at q
 split at q
 ·rename_i i j
  cases rs with
  |cons r t=>
   cases t with
   |cons r' t'=>
    cases t'
    cases r
    cases r'
    exact ⟨i,j,rfl,q _ H α Ext.refl h (.int _)⟩
 ·exact q.elim
theorem Zns:CO X ξ (fun xs H Q=> ∃ i j,xs=[.int i,.int j]/\Q (.int (if j > i then j else i)) H) bMax:=ZkB (g:=fun i j=>if j > i then j else i) fun ds M=>rfl
theorem Znt:CO X ξ (fun xs H Q=> ∃ i j,xs=[.int i,.int j]/\Q (.int (if j < i then j else i)) H) bMin:=ZkB (g:=fun i j=>if j < i then j else i) fun ds M=>rfl
noncomputable def Zr3:List D->Sto->Out D:=fun ds M=>match ds with | [.int i]=> .ok (.int i) M | [.bl k]=> .ok (.int (if k then 1 else 0)) M | _=> .bad
noncomputable def bList:List D->Sto->Out D:=fun ds M=>match ds with
 | [x]=>match Ze2 M x with | some xs=> .ok (.ref M.length) (M ++ [.lst xs]) | none=> .bad
 |_=> .bad
theorem ZfQ:CO X ξ (fun xs H Q=> ∃ p ys,xs=[.ref p]/\(SqL X.K H p ys\/SqT X.K H p ys)/\ ∀ l,H l=none->Q (.ref l) (upd H l (.lst ys))) bList:=by
 intro H α M vs ds Q h rs q
 unfold bList at q
 cases rs with
 |nil=>exact q.elim
 | @cons v x vs ds r t=>
  cases t with
  |cons _ _=>exact q.elim
  |nil=>
  cases e:Ze2 M x with
  |none=>simp only[e] at q;exact q.elim
  |some ys=>
   simp only[e] at q
   obtain ⟨p,xs,rfl,h2,h3⟩:=Zij h r e
   exact ⟨p,xs,rfl,h2,fun l hl=>q _ _ (α ++ [l]) (Ext.new hl) (h.new hl h3) (.ref ⟨h.last l,Kn.lst ZC⟩)⟩
noncomputable def ZbG (M:Sto) (x:D):Option String:=match kd M x with
 |some .non=>some "NoneType"
 |some (.bl _)=>some "bool"
 |some (.int _)=>some "int"
 |some (.str _)=>some "str"
 |some (.tup _)=>some "tuple"
 |some (.lst _)=>some "list"
 |none=>none
noncomputable def Zdb (t T:String):Bool:=t == T || (t == "bool" && T == "int")
noncomputable def Znu (T:String) (f:Ev):Ev:=fun ρ M=>(f ρ M).bind fun x M1=>match ZbG M1 x with | some t=> .ok (.bl (Zdb t T)) M1 | none=> .bad
noncomputable def Ztk (X:Cx) (T:String):List V->Hp->VK->Prop:=fun vs H Q=> ∃ v α M x t,vs=[v,.ty T]/\HR X.K H α M/\Rep X.K H α v x/\ZbG M x=some t/\Q (.bl (Zdb t T)) H
structure Kit (K:PySem.W.Frag) (T:String):Prop where
 non:PySem.W.kitOne K (.type "NoneType") (.type T)=some (Zdb "NoneType" T)
 bl:PySem.W.kitOne K (.type "bool") (.type T)=some (Zdb "bool" T)
 int:PySem.W.kitOne K (.type "int") (.type T)=some (Zdb "int" T)
 str:PySem.W.kitOne K (.type "str") (.type T)=some (Zdb "str" T)
 tup:PySem.W.kitOne K (.type "tuple") (.type T)=some (Zdb "tuple" T)
 lst:PySem.W.kitOne K (.type "list") (.type T)=some (Zdb "list" T)
theorem Zlr {K:PySem.W.Frag}:Kit K "int":=⟨rfl,rfl,rfl,rfl,rfl,rfl⟩
theorem ZjS {K:PySem.W.Frag}:Kit K "bool":=⟨rfl,rfl,rfl,rfl,rfl,rfl⟩
theorem ZjT (kt:Kit X.K T):Zcd X (.builtin "isinstance") (Ztk X T):=by
 intro pins s σ H vs us Q I rs ⟨v,α,M,x,t,e1,h,rx,et,q⟩
 subst e1
 obtain ⟨u,w,rfl,ru,rw'⟩:=ZhS rs
 cases rw'
 unfold ZbG at et
 cases ek:kd M x with
 |none=>rw[ek] at et;cases et
 |some k=>
  rw[ek] at et
  have va:=vw I h rx ru ek
  have fin: ∀ tk,EP X pins σ Q (.bool (Zdb t T)) { s with toks:=tk }:=fun tk=>⟨.bl _,H,I.tok tk,rfl,q⟩
  cases va with
  |non=>cases et;exact PySem.W.kia_one PySem.W.kitx_none I.kIn True.intro kt.non (fun z=>nomatch z) fin
  |bl b=>cases et;exact PySem.W.kia_one PySem.W.kitx_bool I.kIn True.intro kt.bl (fun z=>nomatch z) fin
  |int i t=>cases et;exact PySem.W.kia_one PySem.W.kitx_int I.kIn True.intro kt.int (fun z=>nomatch z) fin
  |str i t=>cases et;exact PySem.W.kia_one PySem.W.kitx_str I.kIn True.intro kt.str (fun z=>nomatch z) fin
  |tup g _ _=>cases et;obtain ⟨o,h1,h2,_⟩:=g;exact PySem.W.kia_one PySem.W.kitx_tuple I.kIn ⟨o,h1,h2⟩ kt.tup (fun z=>nomatch z) fin
  |lst g _ _=>cases et;obtain ⟨o,h1,h2,_⟩:=g;exact PySem.W.kia_one PySem.W.kitx_list I.kIn ⟨o,h1,h2⟩ kt.lst (fun z=>nomatch z) fin
theorem ZkC {y:Str} {p2:Pos} (kt:Kit X.K T) (hm:X.mg "isinstance"=none) (hmT:X.mg y=none) (hvT:bootBuiltins y=some (.type T)) (ha:DE X ξ e fa) (hg:Gl X "isinstance":=by rfl) (hgT:Gl X y:=by rfl) (hn:y≠"__name__":=by decide) (hdb:(y == ("__debug__":Str))=false:=by decide)
  (he:starEach [e,.Name y p2] X.env=(false,eval e X.env) :: starEach [.Name y p2] X.env:=by rfl) (he2:starEach [.Name y p2] X.env=(false,eval (.Name y p2) X.env) :: starEach [] X.env:=by rfl) (hpl:(backTo pos (starEach [.Name y p2] X.env)).any (·.1)=false:=by rfl):DE X ξ (.Call (.Name "isinstance" p) [e,.Name y p2] [] pos) (Znu T fa):=by
 obtain ⟨ta,ha,qa⟩:=ha
 refine ⟨_,Zd9 (ZjT kt) hg hm (by with_unfolding_all rfl) (Zc6 ha (Zc6 (ZhO hgT hmT hvT (v:= .ty T) rfl hn hdb) ZhV he2) he) (by decide) (by decide) he hpl,fun σ ρ H α M Q s h q=> ?_⟩
 refine qa σ ρ H α M _ s h (OG.seq q fun x M1 v H1 α1 e1 h1 r1 q1=> ?_)
 cases et:ZbG M1 x with
 |none=>simp only[et] at q1;exact q1.elim
 |some t=>
  simp only[et] at q1
  exact ⟨v,α1,M1,x,t,rfl,h1,r1,et,q1 _ H1 α1 Ext.refl h1 (.bl _)⟩
end
end DL
end
section
namespace DL
open PySem PySem.Spec PyProof.Rows L2
noncomputable def CXE (P:Program) (w:World):CXT:=fun outer H s E e s'=> ∃ (ea C:Addr) (dct:Option Addr) (B:Heap) (H':Hp),e= .ref ea/\s'.os=s.os/\AllBare s'.gens/\Un (frs outer) [] H H' s.heap s'.heap/\HOk P w H' s'.heap/\
 DQ.Fly B outer ea (.ref C) dct .none s'.heap/\(∀ b u,H' b=some u-> ∃ o,B.get? b=some o)/\(∀ b o,s.heap.get? b=some o->b ∉ frs outer-> ∃ o',B.get? b=some o')/\E (.ref C) dct H'
structure Thr (X:Cx) (ξ:XK):Prop where
 own:PassesOwn (model X.prog X.w) X.A X.env X.xe
 ps:ZhW (CXE X.prog X.w) X ξ
 mak: ∀ (pins:List (Addr × Obj)) (σ:L2.St) (H:Hp) (s:Shared) (h':Heap) (e:Addr) (oe:Obj) (vs:Array Value) (C:Addr),Inv X pins σ H s->(∀ b o,s.heap.get? b=some o->h'.get? b=some o)->s.heap.get? e=none->h'.get? e=some oe->oe.cls= .ref C->oe.dict=none->
  oe.data= .fields vs->vs[1]?=some .none->vs[2]?=some .none->ξ (.ref C) none H->X.xe (.ref e) { s with heap:=h' }
theorem Zdc {h b1 b2:Heap}: ∀ {l:List Env},h.FunFrames b1 l->(∀ b∈frs l,b2.get? b=none)->h.FunFrames b2 l
 | [],_,_=>trivial
 |env :: r,⟨h1,⟨L,o,h2,h3,h4,h5⟩,h6⟩,k=>⟨h1,⟨L,o,h2,k L (by unfold frs;rw[List.filterMap_cons,h2];exact List.mem_cons_self),h4,h5⟩,Zdc h6 fun b hb=>k b (by
   unfold frs
   rw[List.filterMap_cons,h2]
   exact List.mem_cons_of_mem _ hb)⟩
section
variable {X:Cx} {pins:List (Addr × Obj)} {σ:L2.St} {H H':Hp} {s:Shared} {h1 h2 B:Heap}
theorem ZkD (hx:X.ex=[]) (I:Inv X pins σ H s) (u:Un (frs X.stack) [] H H' s.heap h1) (hok:HOk X.prog X.w H' h1) (t1: ∀ b q,H' b=some q-> ∃ o,B.get? b=some o) (t2: ∀ b o,s.heap.get? b=some o->b ∉ frs X.stack-> ∃ o',B.get? b=some o')
  (st1:B.StaysIn h1) (st2:B.StaysIn h2) (up:h1.UpToSlots h2):Un X.fs [] X.H₀ H' X.s₀.heap h2/\HOk X.prog X.w H' h2/\ ∀ b o,X.s₀.heap.get? b=some o->b ∉ X.fs-> ∃ o',B.get? b=some o':=by
 have kB: ∀ b ob o,B.get? b=some ob->h1.get? b=some o->h2.get? b=some o:=fun b ob o e x=>by
  have z:=st1 b ob e
  rw[x] at z
  cases z
  exact st2 b _ e
 have nx: ∀ b,b ∉ X.ex:=fun b=>by rw[hx];simp
 have nL: ∀ b o,X.s₀.heap.get? b=some o->b ∉ X.fs->b ∉ frs X.stack:=fun b o e n z=>by
  rcases List.mem_cons.mp (I.stkSub b z) with q | q
  ·exact absurd (Heap.lt_size e) (by rw[q];exact Nat.not_lt_of_le I.ok.above)
  ·exact n q
 have th: ∀ b o,X.s₀.heap.get? b=some o->b ∉ X.fs-> ∃ o',B.get? b=some o':=fun b o e n=>by
  obtain ⟨o',e'⟩:=I.base.there b o e (nx b)
  exact t2 b o' e' (nL b o e n)
 have sl: ∀ b o,X.s₀.heap.get? b=some o->X.H₀ b=none->b∈X.fs-> ∃ sl,h2.get? b=some { o with slots:=sl }:=fun b o e n hb=>by
  obtain ⟨s1,e1⟩:=I.base.slot b o e n hb (nx b)
  obtain ⟨s2,e2⟩:=u.any e1 (I.base.free b o e n (nx b)) (by simp)
  obtain ⟨_,o',g1,g2⟩:=I.ok.funs.mem hb
  rw[e] at g1
  cases g1
  obtain ⟨s3,e3⟩:=up b _ e2 g2
  exact ⟨s3,e3⟩
 refine ⟨⟨fun b o e n hb _=> ?_,fun b o e n hb _=>sl b o e n hb,fun b o e n _=> ?_,fun b o e _=> ?_,fun b xs e=>u.tups b xs (I.base.tups b xs e),fun b o xs e=>u.frzs b o xs (I.base.frzs b o xs e),fun b ps e=> ?_⟩,fun a o e=> ?_,th⟩
 ·obtain ⟨ob,g⟩:=th b o e hb
  exact kB b ob o g (u.keep b o (I.base.keep b o e n hb (nx b)) (I.base.free b o e n (nx b)) (nL b o e hb) (by simp))
 ·obtain ⟨o',e'⟩:=I.base.there b o e (nx b)
  exact u.free b o' e' (I.base.free b o e n (nx b)) (by simp)
 ·by_cases hb:b∈X.fs
  ·obtain ⟨s1,e1⟩:=sl b o e (I.ok.frf b hb) hb
   exact ⟨_,e1⟩
  ·obtain ⟨ob,g⟩:=th b o e hb
   exact ⟨ob,st2 b ob g⟩
 ·obtain ⟨m1,e1⟩:=I.base.tbls b ps e
  obtain ⟨m2,e2⟩:=u.tbls b _ e1
  exact ⟨m1 ++ m2,by rw[e2,Array.append_assoc]⟩
 ·refine (hok a o e).stay (fun b q hb x=> ?_) (fun _ q=>q) fun _ _ q=>q
  have tr: ∃ q,H' b=some q:=by
   rcases hb with z | z
   ·exact ⟨o,z ▸ e⟩
   ·exact ⟨_,z⟩
  obtain ⟨q',z⟩:=tr
  obtain ⟨ob,g⟩:=t1 b q' z
  exact kB b ob q g x
end
theorem Zei {P:Program} {w:World} {H:Hp} {h:Heap} {a:Addr} {o:HO} (x:Zbg P w H h a o): ∃ ob,h.get? a=some ob:=by
 cases o with
 |lst xs=>obtain ⟨_,_,_,_,e⟩:=x;exact ⟨_,e⟩
 |tup xs=>obtain ⟨_,_,_,ob,e,_⟩:=x;exact ⟨_,e⟩
 |dK kvs=>obtain ⟨_,_,_,_,o,_,_,e,_⟩:=x;exact ⟨_,e⟩
 |dT kvs=>obtain ⟨_,_,_,_,o,_,_,e,_⟩:=x;exact ⟨_,e⟩
 |set S n=>obtain ⟨o,_,_,_,e,_⟩:=x;exact ⟨_,e⟩
 |ins C dx fs=>obtain ⟨_,_,_,e,_⟩:=x;exact ⟨_,e⟩
 |own y=>exact x
 |xd fs=>obtain ⟨_,⟨_,_,_,e,_⟩,_⟩:=x;exact ⟨_,e⟩
 |rng lo hi=>obtain ⟨_,_,_,e⟩:=x;exact ⟨_,e⟩
 |frz ob u=>obtain ⟨e,_⟩:=x;exact ⟨_,e⟩
 |tbl ps=>exact ⟨_,(show h.get? a=some _ from x)⟩
 |met f y=>exact ⟨_,(show h.get? a=some _ from x)⟩
 |ext φ=>obtain ⟨_,e,_⟩:=x;exact e
noncomputable def Ze3 (h:Heap) (l:List Addr):Heap:=Zjo h fun b=>if b∈l then some (.own 0) else none
theorem Zc1 {h:Heap} {l:List Addr} {b:Addr} {o:Obj} (e:h.get? b=some o) (n:b ∉ l):(Ze3 h l).get? b=some o:=Zgp e (if_neg n)
theorem Zdd {h:Heap} {l:List Addr} {b:Addr} {o:Obj} (e:(Ze3 h l).get? b=some o):h.get? b=some o/\b ∉ l:=by
 obtain ⟨a,n⟩:=ZhL e
 refine ⟨a,fun z=> ?_⟩
 simp only[if_pos z] at n
 cases n
theorem Ze4 {h:Heap} {l:List Addr} {b:Addr} (n:b∈l):(Ze3 h l).get? b=none:=by
 cases q:(Ze3 h l).get? b with
 |none=>rfl
 |some o=>exact absurd n (Zdd q).2
theorem Znv {P:Program} {w:World} {K:PySem.W.Frag} {mg:Str->Option Value} {base:Heap} {N:List Str} {qual:Str} {scope:Scope} {f:Addr} {cd:Value} {A:Around} {outer:List Env} {s:Shared} {H:Hp} {E:XK}:
  Thr (ZfF (CXE P w) P w K mg base N qual scope f cd A outer s H E) E:=by
 refine ⟨PassesOwn.leaving,fun pins σ H1 s1 e s2 I h=> ?_,fun pins σ H1 s1 h' e oe vs C I k hn he hc hdi hd v1 v2 q=> ?_⟩
 ·obtain ⟨ea,C,dct,B,H2,rfl,os,bare,un,hok,fl,t1,t2,q⟩:=h
  refine DQ.Zh8 (outer:=outer) I.ok.frames rfl fl fun h3 f3 up=> ?_
  obtain ⟨a1,a2,a3⟩:=ZkD rfl I un hok t1 t2 fl.stay f3.stay up
  exact ⟨ea,C,dct,B,H2,rfl,os.trans I.os,bare,a1,a2,f3,t1,a3,q⟩
 ·have st:=I.stack
  have t2: ∀ b o,s1.heap.get? b=some o->b ∉ frs (ZfF (CXE P w) P w K mg base N qual scope f cd A outer s H E).stack-> ∃ o',(Ze3 s1.heap (frs (ZfF (CXE P w) P w K mg base N qual scope f cd A outer s H E).stack)).get? b=some o':=fun b o x n=>⟨o,Zc1 x n⟩
  have hs:(Ze3 s1.heap (frs (ZfF (CXE P w) P w K mg base N qual scope f cd A outer s H E).stack)).StaysIn h':=fun b o x=>k b o (Zdd x).1
  have hl:h'.FunFrames (Ze3 s1.heap (frs (ZfF (CXE P w) P w K mg base N qual scope f cd A outer s H E).stack)) (ZfF (CXE P w) P w K mg base N qual scope f cd A outer s H E).stack:=
   (Zdc st fun b hb=>Ze4 hb).of_keeps fun b o x _=>⟨o,k b o x,rfl⟩
  have hb:(Ze3 s1.heap (frs (ZfF (CXE P w) P w K mg base N qual scope f cd A outer s H E).stack)).get? e=none:=by
   cases z:(Ze3 s1.heap (frs (ZfF (CXE P w) P w K mg base N qual scope f cd A outer s H E).stack)).get? e with
   |none=>rfl
   |some o=>
    have:=(Zdd z).1
    rw[hn] at this
    cases this
  have t1: ∀ b u,H1 b=some u-> ∃ o,(Ze3 s1.heap (frs (ZfF (CXE P w) P w K mg base N qual scope f cd A outer s H E).stack)).get? b=some o:=fun b u x=>by
   obtain ⟨o,g⟩:=Zei (I.hok b u x)
   exact ⟨o,Zc1 g fun z=>by rw[I.stkFree b z] at x;cases x⟩
  refine DQ.Zh9 (s:={ s1 with heap:=h' }) (outer:=outer) I.ok.frames rfl hl he hs hb hd v1 v2 fun h3 f3 up=> ?_
  obtain ⟨a1,a2,a3⟩:=ZkD rfl I (Un.kept k) (I.hok.kept k) t1 t2 hs f3.stay up
  rw[hc,hdi] at f3
  exact ⟨e,C,none,_,H1,rfl,I.os,I.bare,a1,a2,f3,t1,a3,q⟩
end DL
end
section
namespace DL
open PySem PySem.Spec PyProof.Rows L2
noncomputable def FP (K:PySem.W.Frag) (H:Hp) (α:List Addr) (ξ:XK) (Dn:Ends):Fl->Prop
 | .nx ρ' M'=> ∀ σ' H' α',Ext K H H' α α'->HR K H' α' M'->SR K H' α' σ' ρ'->Dn.nx σ' H'
 | .brk ρ' M'=> ∀ σ' H' α',Ext K H H' α α'->HR K H' α' M'->SR K H' α' σ' ρ'->Dn.bk σ' H'
 | .cnt ρ' M'=> ∀ σ' H' α',Ext K H H' α α'->HR K H' α' M'->SR K H' α' σ' ρ'->Dn.ct σ' H'
 | .ret d M'=> ∀ v H' α',Ext K H H' α α'->HR K H' α' M'->Rep K H' α' v d->Dn.rt v H'
 | .exc c M'=> ∀ C H' α',PySem.W.nsIn K mainGlobals c=some (some (.ref C))->Ext K H H' α α'->HR K H' α' M'->ξ (.ref C) none H'
 | .bad=>False
theorem FP.ext {K:PySem.W.Frag} {H H1:Hp} {α α1:List Addr} {ξ:XK} {Dn:Ends} {o:Fl} (h:FP K H α ξ Dn o) (e:Ext K H H1 α α1):FP K H1 α1 ξ Dn o:=by
 cases o with
 |nx ρ M=>exact fun σ' H' α' e'=>h σ' H' α' (e.trans e')
 |brk ρ M=>exact fun σ' H' α' e'=>h σ' H' α' (e.trans e')
 |cnt ρ M=>exact fun σ' H' α' e'=>h σ' H' α' (e.trans e')
 |ret d M=>exact fun v H' α' e'=>h v H' α' (e.trans e')
 |exc c M=>exact fun C H' α' n e'=>h C H' α' n (e.trans e')
 |bad=>exact h
noncomputable def DS (X:Cx) (ξ:XK) (st:Stmt) (g:Sv):Prop:= ∃ t:TS,PS X st t/\ ∀ σ ρ H α M Dn,SR X.K H α σ ρ->HR X.K H α M->FP X.K H α ξ Dn (g ρ M)->t Dn σ H
noncomputable def DSs (X:Cx) (ξ:XK) (st:List Stmt) (g:Sv):Prop:= ∃ t:TS,PSs X st t/\ ∀ σ ρ H α M Dn,SR X.K H α σ ρ->HR X.K H α M->FP X.K H α ξ Dn (g ρ M)->t Dn σ H
noncomputable def Za2 {β:Type} (o:Out β) (k:β->Sto->Fl):Fl:=match o with
 | .ok a M=>k a M
 | .exc c M=> .exc c M
 | .bad=> .bad
theorem FP.seq {β γ:Type} {K:PySem.W.Frag} {R:Hp->List Addr->γ->β->Prop} {H:Hp} {α:List Addr} {ξ:XK} {Dn:Ends} {Q1:γ->Hp->Prop} {o:Out β} {f:β->Sto->Fl}
  (h:FP K H α ξ Dn (Za2 o f)) (k: ∀ d M' v H' α',Ext K H H' α α'->HR K H' α' M'->R H' α' v d->FP K H' α' ξ Dn (f d M')->Q1 v H'):OG K R H α ξ Q1 o:=by
 cases o with
 |ok d M'=>exact fun v H' α' e hr r=>k d M' v H' α' e hr r (FP.ext (o:=f d M') h e)
 |exc c M'=>exact h
 |bad=>exact h
noncomputable def Zz (g h:Sv):Sv:=fun ρ M=>match g ρ M with
 | .nx ρ1 M1=>h ρ1 M1
 |o=>o
noncomputable def sNil:Sv:=fun ρ M=> .nx ρ M
noncomputable def Zap (f:Ev):Sv:=fun ρ M=>Za2 (f ρ M) fun d M1=> .ret d M1
noncomputable def Zqg:Sv:=fun _ M=> .ret .non M
noncomputable def Zbn (f:Ev):Sv:=fun ρ M=>Za2 (f ρ M) fun _ M1=> .nx ρ M1
noncomputable def sIf (c:Tv) (g h:Sv):Sv:=fun ρ M=>Za2 (c ρ M) fun k M1=>if k=true then g ρ M1 else h ρ M1
noncomputable def sBrk:Sv:=fun ρ M=> .brk ρ M
noncomputable def Ztl:Sv:=fun ρ M=> .cnt ρ M
noncomputable def sBad:Sv:=fun _ _=> .bad
noncomputable abbrev Tg:=D->Ro->Option Ro
noncomputable abbrev Tgs:=List D->Ro->Option Ro
noncomputable def gNm (i:Nat):Tg:=fun d ρ=>some (ρ.set i (some d))
noncomputable def gNl:Tgs:=fun ds ρ=>match ds with | []=>some ρ | _=>none
noncomputable def gCs (g:Tg) (gs:Tgs):Tgs:=fun ds ρ=>match ds with | d :: r=>(match g d ρ with | some ρ1=>gs r ρ1 | none=>none) | []=>none
noncomputable def gTp (gs:Tgs):Tg:=fun d ρ=>match d with | .tup ds=>gs ds ρ | _=>none
noncomputable def ZJ (g:Tg) (f:Ev):Sv:=fun ρ M=>Za2 (f ρ M) fun d M1=>match g d ρ with | some ρ1=> .nx ρ1 M1 | none=> .bad
noncomputable def Ze5 (i j:Nat) (fs:Av):Sv:=fun ρ M=>Za2 (fs ρ M) fun ds M1=>match ds with | [v,w]=> .nx ((ρ.set i (some v)).set j (some w)) M1 | _=> .bad
noncomputable def Znw (fo fi fe:Ev):Sv:=fun ρ M=>Za2 (fe ρ M) fun d M1=>Za2 (fo ρ M1) fun o M2=>Za2 (fi ρ M2) fun i M3=>match o,i with
 | .ref n,.int k=>(match M3[n]? with
  |some (.lst xs)=>(match ixN xs.length k with | some j=> .nx ρ (M3.set n (.lst (xs.set j d))) | none=> .bad)
  |_=> .bad)
 |_,_=> .bad
section
variable {X:Cx} {ξ:XK} {st:Stmt} {sts:List Stmt} {g h:Sv} {e:Expr} {f:Ev} {pos:Pos} {c:Expr} {fc:Tv}
theorem ZG:DSs X ξ [] sNil:=⟨_,Zk3,fun σ ρ H α M Dn s h q=>q σ H α Ext.refl h s⟩
theorem Zf (h1:DS X ξ st g) (h2:DSs X ξ sts h):DSs X ξ (st :: sts) (Zz g h):=by
 obtain ⟨t1,p1,q1⟩:=h1
 obtain ⟨t2,p2,q2⟩:=h2
 refine ⟨_,Zjt p1 p2,fun σ ρ H α M Dn s hh q=>q1 σ ρ H α M { Dn with nx:=t2 Dn } s hh ?_⟩
 unfold Zz at q
 cases e:g ρ M with
 |nx ρ1 M1=>rw[e] at q;exact fun σ' H' α' ex hr sr=>q2 σ' ρ1 H' α' M1 Dn sr hr (FP.ext q ex)
 |brk ρ1 M1=>rw[e] at q;exact q
 |cnt ρ1 M1=>rw[e] at q;exact q
 |ret d M1=>rw[e] at q;exact q
 |exc c M1=>rw[e] at q;exact q
 |bad=>rw[e] at q;exact q
theorem Zi (h1:DS X ξ st g):DSs X ξ [st] g:=let ⟨_,p,q⟩:=h1;⟨_,Zk4 p,q⟩
theorem ZA (he:DE X ξ e f):DS X ξ (.Return (some e) pos) (Zap f):=by
 obtain ⟨t,p,q⟩:=he
 exact ⟨_,ZmR p,fun σ ρ H α M Dn s hh w=>q σ ρ H α M _ s hh (FP.seq w fun d M1 v H1 α1 e1 h1 r1 w1=>w1 v H1 α1 Ext.refl h1 r1)⟩
theorem Zaa (he:DE X ξ e f) (hs:swapsWith e none pos.line X.env=pure false:=by rfl):DS X ξ (.Expr e pos) (Zbn f):=by
 obtain ⟨t,p,q⟩:=he
 exact ⟨_,Zk5 p hs,fun σ ρ H α M Dn s hh w=>q σ ρ H α M _ s hh (FP.seq w fun d M1 v H1 α1 e1 h1 r1 w1=>w1 σ H1 α1 Ext.refl h1 (s.mono e1))⟩
theorem Z9 {a b:List Stmt} (hc:DT X ξ c fc) (ha:DSs X ξ a g) (hb:DSs X ξ b h):DS X ξ (.If c a b pos) (sIf fc g h):=by
 obtain ⟨tc,pc,qc⟩:=hc
 obtain ⟨ta,pa,qa⟩:=ha
 obtain ⟨tb,pb,qb⟩:=hb
 refine ⟨_,ZpY pc pa pb,fun σ ρ H α M Dn s hh w=>qc σ ρ H α M _ s hh (FP.seq w fun k M1 v H1 α1 e1 h1 r1 w1=> ?_)⟩
 cases r1
 cases k with
 |true=>exact Zky (qa σ ρ H1 α1 M1 Dn (s.mono e1) h1 w1)
 |false=>exact Zkx (qb σ ρ H1 α1 M1 Dn (s.mono e1) h1 w1)
theorem Znx:DS X ξ (.Break pos) sBrk:=⟨_,Zju,fun σ ρ H α M Dn s h q=>q σ H α Ext.refl h s⟩
theorem Zde:DS X ξ st sBad:=⟨_,Zjv,fun σ ρ H α M Dn s h q=>q⟩
noncomputable def DG (X:Cx) (tg:Expr) (g:Tg):Prop:= ∃ t:TG,PG X tg t/\ ∀ v d σ ρ H α ρ' Q,SR X.K H α σ ρ->Rep X.K H α v d->g d ρ=some ρ'->(∀ σ',SR X.K H α σ' ρ'->Q σ' H)->t v σ H Q
noncomputable def DGs (X:Cx) (tgs:List Expr) (g:Tgs):Prop:= ∃ t:TGs,PGs X tgs t/\ ∀ vs ds σ ρ H α ρ' Q,SR X.K H α σ ρ->Reps X.K H α vs ds->g ds ρ=some ρ'->(∀ σ',SR X.K H α σ' ρ'->Q σ' H)->t vs σ H Q
theorem Zm (i:Nat) {x:Str} (hN:X.N.Nodup) (hi:X.N[i]?=some x:=by rfl) (hx:Loc X.env.scope x:=by first | exact Or.inl rfl | exact Or.inr rfl) (hm:X.may i=true:=by rfl) (hf:X.fn x=true\/X.env.scope.names.lookup x=some .local:=by first | exact .inl rfl | exact .inr rfl | assumption):DG X (.Name x pos) (gNm i):=by
 refine ⟨_,Zk6 hN hi hx hm hf,fun v d σ ρ H α ρ' Q s r e k=> ?_⟩
 cases e
 exact k _ (s.set i r)
theorem ZR:DGs X [] gNl:=by
 refine ⟨_,Zk7,fun vs ds σ ρ H α ρ' Q s r e k=> ?_⟩
 cases r with
 |nil=>cases e;exact ⟨rfl,k _ s⟩
 |cons _ _=>cases e
theorem Zp {es:List Expr} {g:Tg} {gs:Tgs} (h1:DG X e g) (h2:DGs X es gs) (hs:(assignEach (e :: es) X.env).map (·.2)=assign e X.env :: (assignEach es X.env).map (·.2):=by rfl):DGs X (e :: es) (gCs g gs):=by
 obtain ⟨t1,p1,q1⟩:=h1
 obtain ⟨t2,p2,q2⟩:=h2
 refine ⟨_,Zjw p1 p2 hs,fun vs ds σ ρ H α ρ' Q s r e k=> ?_⟩
 cases r with
 |nil=>cases e
 |cons r rr=>
  rename_i v d vs ds
  cases e1:g d ρ with
  |none=>simp only[gCs,e1] at e;cases e
  |some ρ1=>
   simp only[gCs,e1] at e
   exact ⟨v,vs,rfl,q1 v d σ ρ H α ρ1 _ s r e1 fun σ' s'=>q2 vs ds σ' ρ1 H α ρ' Q s' rr e k⟩
theorem Zai {es:List Expr} {k:Nat} {gs:Tgs} {n:Nat} (hc:X.calm=true) (h:DGs X es gs) (hn:(assignEach es X.env).length=n:=by rfl) (hlen: ∀ ds ρ ρ',gs ds ρ=some ρ'->ds.length=n) (hst:(assignEach es X.env).findIdx? (·.1)=none:=by rfl):DG X (.Tuple es k pos) (gTp gs):=by
 obtain ⟨t,p,q⟩:=h
 refine ⟨_,ZmT hc p hn hst,fun v d σ ρ H α ρ' Q s r e k=> ?_⟩
 cases r with
 | @tup a xs ds hp rp=>
  have e':gs ds ρ=some ρ':=e
  exact ⟨a,xs,rfl,(SqT.of hp),by rw[rp.length];exact hlen ds ρ ρ' e',q xs ds σ ρ H α ρ' Q s rp e' k⟩
 |_=>cases e
theorem ZS {ds:List D} {ρ ρ':Ro} (h:gNl ds ρ=some ρ'):ds.length=0:=by cases ds with | nil=>rfl | cons _ _=>cases h
theorem Zv {g:Tg} {gs:Tgs} {n:Nat} (h: ∀ ds ρ ρ',gs ds ρ=some ρ'->ds.length=n) (ds:List D) (ρ ρ':Ro) (e:gCs g gs ds ρ=some ρ'):ds.length=n + 1:=by
 cases ds with
 |nil=>cases e
 |cons d r=>
  cases e1:g d ρ with
  |none=>simp only[gCs,e1] at e;cases e
  |some ρ1=>simp only[gCs,e1] at e;rw[List.length_cons,h r ρ1 ρ' e]
theorem Zl (i:Nat) {x:Str} {pos':Pos} (hN:X.N.Nodup) (he:DE X ξ e f) (hi:X.N[i]?=some x:=by rfl) (hx:Loc X.env.scope x:=by first | exact Or.inl rfl | exact Or.inr rfl) (hm:X.may i=true:=by rfl) (hs:swapsWith e (some (.Name x pos')) pos.line X.env=pure false:=by rfl) (hf:X.fn x=true\/X.env.scope.names.lookup x=some .local:=by first | exact .inl rfl | exact .inr rfl | assumption):
  DS X ξ (.Assign [.Name x pos'] e pos) (ZJ (gNm i) f):=by
 obtain ⟨t,p,q⟩:=he
 exact ⟨_,ZmV hN hi hx hm p hs hf,fun σ ρ H α M Dn s hh w=>q σ ρ H α M _ s hh (FP.seq w fun d M1 v H1 α1 e1 h1 r1 w1=>w1 _ H1 α1 Ext.refl h1 ((s.mono e1).set i r1))⟩
theorem ZdY {tg:Expr} {gt:Tg} (he:DE X ξ e f) (hg:DG X tg gt) (hs:swapsWithSole [tg] e pos.line X.env=pure false:=by rfl) (hw:swappedStores [tg] e X.env=pure none:=by rfl)
  (h1:(assignEach [tg] X.env).map (·.2)=[assign tg X.env]:=by rfl):DS X ξ (.Assign [tg] e pos) (ZJ gt f):=by
 obtain ⟨t,p,q⟩:=he
 obtain ⟨tt,pt,qt⟩:=hg
 refine ⟨_,Zkt p pt hs hw h1,fun σ ρ H α M Dn s hh w=>q σ ρ H α M _ s hh (FP.seq w fun d M1 v H1 α1 e1 h1 r1 w1=> ?_)⟩
 cases eg:gt d ρ with
 |none=>simp only[eg] at w1;exact w1.elim
 |some ρ1=>
  simp only[eg] at w1
  exact qt v d σ ρ H1 α1 ρ1 _ (s.mono e1) r1 eg fun σ' s'=>w1 σ' H1 α1 Ext.refl h1 s'
theorem ZbH (i j:Nat) {x y:Str} {a b:Expr} {fs:Av} {px py pt:Pos} {kt k2 pt2} (hc:X.calm=true) (hN:X.N.Nodup) (ha:DA X ξ [a,b] fs) (hi:X.N[i]?=some x:=by rfl) (hj:X.N[j]?=some y:=by rfl) (mi:X.may i=true:=by rfl) (mj:X.may j=true:=by rfl) (hij:i≠j:=by decide)
  (hx:X.env.scope.names.lookup x=some .local:=by rfl) (hy:X.env.scope.names.lookup y=some .local:=by rfl)
  (hw:swappedStores [.Tuple [.Name x px,.Name y py] kt pt] (.Tuple [a,b] k2 pt2) X.env=pure (some [x,y]):=by rfl)
  (hs:swapsWithSole [.Tuple [.Name x px,.Name y py] kt pt] (.Tuple [a,b] k2 pt2) pos.line X.env=pure false:=by rfl):
  DS X ξ (.Assign [.Tuple [.Name x px,.Name y py] kt pt] (.Tuple [a,b] k2 pt2) pos) (Ze5 i j fs):=by
 obtain ⟨t,p,q⟩:=ha
 refine ⟨_,ZmW hc mi mj hN hi hj hij hx hy p hw hs,fun σ ρ H α M Dn s hh w=>q σ ρ H α M _ s hh (FP.seq w fun ds M1 vs H1 α1 e1 h1 r1 w1=> ?_)⟩
 match r1 with
 | .nil=>exact w1.elim
 | .cons _ .nil=>exact w1.elim
 | .cons _ (.cons _ (.cons _ _))=>exact w1.elim
 | .cons r (.cons r' .nil)=>exact ⟨_,_,rfl,w1 _ H1 α1 Ext.refl h1 (((s.mono e1).set i r).set j r')⟩
theorem Zny {o i:Expr} {fo fi:Ev} {pos':Pos} (ho:DE X ξ o fo) (hi:DE X ξ i fi) (he:DE X ξ e f)
  (ha: ∀ v,assign (.Subscript o i pos') X.env v=(do
   let ov <- holding [v] (eval o X.env)
   let iv <- holding [v,ov] (eval i X.env)
   standAt pos'
   holding [v,ov,iv] (setItem ov iv v)
   release [v,ov,iv] []):=by intro _;rfl) (hs:swapsWithSole [.Subscript o i pos'] e pos.line X.env=pure false:=by rfl) (hw:swappedStores [.Subscript o i pos'] e X.env=pure none:=by rfl)
  (h1:(assignEach [.Subscript o i pos'] X.env).map (·.2)=[assign (.Subscript o i pos') X.env]:=by rfl):DS X ξ (.Assign [.Subscript o i pos'] e pos) (Znw fo fi f):=by
 obtain ⟨t,p,q⟩:=he
 obtain ⟨to,po,qo⟩:=ho
 obtain ⟨ti,pi,qi⟩:=hi
 refine ⟨_,Zkt p (ZmU po pi ZjD ha) hs hw h1,fun σ ρ H α M Dn s hh w=>q σ ρ H α M _ s hh (FP.seq w fun d M1 v H1 α1 e1 h1 r1 w1=> ?_)⟩
 refine qo σ ρ H1 α1 M1 _ (s.mono e1) h1 (FP.seq w1 fun od M2 ov H2 α2 e2 h2 r2 w2=> ?_)
 refine qi σ ρ H2 α2 M2 _ ((s.mono e1).mono e2) h2 (FP.seq w2 fun kd M3 kv H3 α3 e3 h3 r3 w3=> ?_)
 cases Rep.mono e3 r2 with
 | @ref p n hp=>
  cases r3 with
  |int k=>
   cases em:M3[n]? with
   |none=>simp only[em] at w3;exact w3.elim
   |some so=>
    cases so with
    |lst ds=>
     cases ej:ixN ds.length k with
     |none=>simp only[em,ej] at w3;exact w3.elim
     |some j=>
      simp only[em,ej] at w3
      obtain ⟨xs,g1,g2⟩:=h3.at hp em
      refine ⟨p,xs,k,j,rfl,rfl,g1,by rw[g2.length];exact ej,?_⟩
      exact w3 σ _ α3 (Ext.wr g1) (h3.wr hp g1 (Reps.set (Rep.mono e3 (Rep.mono e2 r1)) j g2)) ((((s.mono e1).mono e2).mono e3).mono (Ext.wr g1))
  |_=>exact w3.elim
 |_=>exact w3.elim
noncomputable def whN (c:Tv) (g:Sv):Nat->Ro->Sto->Option Fl
 |0,_,_=>none
 |n + 1,ρ,M=>match c ρ M with
  | .ok true M1=>(match g ρ M1 with
   | .nx ρ2 M2=>whN c g n ρ2 M2
   | .cnt ρ2 M2=>whN c g n ρ2 M2
   | .brk ρ2 M2=>some (.nx ρ2 M2)
   |o=>some o)
  | .ok false M1=>some (.nx ρ M1)
  | .exc e M1=>some (.exc e M1)
  | .bad=>some .bad
theorem Zc2 {c:Tv} {g:Sv}: ∀ {n:Nat} {ρ:Ro} {M:Sto} {o:Fl},whN c g n ρ M=some o-> ∀ k,whN c g (n + k) ρ M=some o
 |0,_,_,_,e,_=>by simp only[whN] at e;cases e
 |n + 1,ρ,M,o,e,k=>by
  have ek:n + 1 + k=(n + k) + 1:=by omega
  rw[ek]
  unfold whN at e ⊢
  cases ec:c ρ M with
  |bad=>rw[ec] at e;exact e
  |exc x M1=>rw[ec] at e;exact e
  |ok b M1=>
   rw[ec] at e
   cases b with
   |false=>exact e
   |true=>
    cases eg:g ρ M1 with
    |nx ρ2 M2=>simp only[eg] at e ⊢;exact Zc2 e k
    |cnt ρ2 M2=>simp only[eg] at e ⊢;exact Zc2 e k
    |brk ρ2 M2=>simp only[eg] at e ⊢;exact e
    |ret d M2=>simp only[eg] at e ⊢;exact e
    |exc x M2=>simp only[eg] at e ⊢;exact e
    |bad=>simp only[eg] at e ⊢;exact e
open Classical in
noncomputable def sWh (c:Tv) (g:Sv):Sv:=fun ρ M=>if h: ∃ o n,whN c g n ρ M=some o then Classical.choose h else .bad
theorem ZcH {c:Tv} {g:Sv} {n:Nat} {ρ:Ro} {M:Sto} {o:Fl} (e:whN c g n ρ M=some o):sWh c g ρ M=o:=by
 have hx: ∃ o n,whN c g n ρ M=some o:=⟨o,n,e⟩
 unfold sWh
 rw[dif_pos hx]
 obtain ⟨m,em⟩:=Classical.choose_spec hx
 have h1:=Zc2 em n
 have h2:=Zc2 e m
 rw[Nat.add_comm] at h2
 rw[h1] at h2
 exact Option.some.inj h2
theorem Zik {c:Tv} {g:Sv} {ρ:Ro} {M:Sto} (e:sWh c g ρ M≠ .bad): ∃ n,whN c g n ρ M=some (sWh c g ρ M):=by
 by_cases hx: ∃ o n,whN c g n ρ M=some o
 ·obtain ⟨o,n,h⟩:=hx
  exact ⟨n,by rw[ZcH h];exact h⟩
 ·unfold sWh at e
  rw[dif_neg hx] at e
  exact absurd rfl e
theorem Zil {c:Tv} {g:Sv} {ρ:Ro} {M M1:Sto} (h:c ρ M= .ok false M1):sWh c g ρ M= .nx ρ M1:=ZcH (n:=1) (by simp only[whN,h])
theorem ZjU {c:Tv} {g:Sv} {ρ ρ2:Ro} {M M1 M2:Sto} (h:c ρ M= .ok true M1) (h2:g ρ M1= .nx ρ2 M2) (hb:sWh c g ρ2 M2≠ .bad):sWh c g ρ M=sWh c g ρ2 M2:=by
 obtain ⟨n,e⟩:=Zik hb
 exact ZcH (n:=n + 1) (by simp only[whN,h,h2];exact e)
theorem ZbQ {body:List Stmt} (hp:PassesOwn (model X.prog X.w) X.A X.env X.xe) (hc:DT X ξ c fc) (hb:DSs X ξ body g):DS X ξ (.While c body [] pos) (sWh fc g):=by
 obtain ⟨tc,pc,qc⟩:=hc
 obtain ⟨tb,pb,qb⟩:=hb
 refine ⟨_,Zjx hp pc pb,fun σ ρ H α M Dn s hh w=> ?_⟩
 have nb:sWh fc g ρ M≠ .bad:=fun z=>by rw[z] at w;exact w
 obtain ⟨n,en⟩:=Zik nb
 generalize sWh fc g ρ M=o at w en
 refine ⟨fun m σ' H'=> ∃ ρ' α' M',Ext X.K H H' α α'/\SR X.K H' α' σ' ρ'/\HR X.K H' α' M'/\whN fc g m ρ' M'=some o,⟨n,ρ,α,M,Ext.refl,s,hh,en⟩,?_⟩
 rintro m σ1 H1 ⟨ρ1,α1,M1,e1,s1,h1,en1⟩
 cases m with
 |zero=>simp only[whN] at en1;cases en1
 |succ m=>
  refine qc σ1 ρ1 H1 α1 M1 _ s1 h1 ?_
  unfold whN at en1
  cases ec:fc ρ1 M1 with
  |bad=>rw[ec] at en1;cases en1;exact w.elim
  |exc x M2=>
   rw[ec] at en1;cases en1
   exact fun C H' α' nn ex hr=>w C H' α' nn (e1.trans ex) hr
  |ok b M2=>
   rw[ec] at en1
   intro v H2 α2 e2 h2 ev
   cases ev
   cases b with
   |false=>
    cases en1
    exact Zkx (w σ1 H2 α2 (e1.trans e2) h2 (s1.mono e2))
   |true=>
    refine Zky ⟨fun σ' H'=> ∃ ρ' α' M',Ext X.K H H' α α'/\SR X.K H' α' σ' ρ'/\HR X.K H' α' M'/\whN fc g m ρ' M'=some o,fun σ' H' z=>⟨m,Nat.lt_succ_self m,z⟩,?_⟩
    refine qb σ1 ρ1 H2 α2 M2 _ (s1.mono e2) h2 ?_
    have e12:=e1.trans e2
    cases eg:g ρ1 M2 with
    |nx ρ2 M3=>simp only[eg] at en1;exact fun σ' H' α' ex hr sr=>⟨ρ2,α',M3,e12.trans ex,sr,hr,en1⟩
    |cnt ρ2 M3=>simp only[eg] at en1;exact fun σ' H' α' ex hr sr=>⟨ρ2,α',M3,e12.trans ex,sr,hr,en1⟩
    |brk ρ2 M3=>simp only[eg] at en1;cases en1;exact fun σ' H' α' ex hr sr=>w σ' H' α' (e12.trans ex) hr sr
    |ret d M3=>simp only[eg] at en1;cases en1;exact fun v H' α' ex hr sr=>w v H' α' (e12.trans ex) hr sr
    |exc x M3=>simp only[eg] at en1;cases en1;exact fun C H' α' nn ex hr=>w C H' α' nn (e12.trans ex) hr
    |bad=>simp only[eg] at en1;cases en1;exact w.elim
noncomputable def ZbU (tg:Tg) (g:Sv):List D->Ro->Sto->Fl
 | [],ρ,M=> .nx ρ M
 |d :: r,ρ,M=>match tg d ρ with
  |none=> .bad
  |some ρ1=>(match g ρ1 M with
   | .nx ρ2 M2=>ZbU tg g r ρ2 M2
   | .cnt ρ2 M2=>ZbU tg g r ρ2 M2
   | .brk ρ2 M2=> .nx ρ2 M2
   |o=>o)
noncomputable def ZhC (tg:Tg) (g:Sv) (n:Nat):Nat->Nat->Ro->Sto->Fl
 |f,i,ρ,M=>match M[n]? with
  |some (.lst xs)=>(match xs[i]? with
   |none=> .nx ρ M
   |some d=>(match f with
    |0=> .bad
    |f + 1=>(match tg d ρ with
     |none=> .bad
     |some ρ1=>(match g ρ1 M with
      | .nx ρ2 M2=>ZhC tg g n f (i + 1) ρ2 M2
      | .cnt ρ2 M2=>ZhC tg g n f (i + 1) ρ2 M2
      | .brk ρ2 M2=> .nx ρ2 M2
      |o=>o))))
  |none=> .bad
noncomputable def ZbD (lo:Int) (n:Nat):List D:=(List.range n).map fun (i:Nat)=>D.int (lo + i)
noncomputable def ZkE (tg:Tg) (g:Sv) (d:D) (ρ:Ro) (M:Sto):Fl:=match d with
 | .tup xs=>ZbU tg g xs ρ M
 | .rol xs=>ZbU tg g xs ρ M
 | .ref n=>(match M[n]? with | some (.lst xs)=>ZhC tg g n xs.length 0 ρ M | none=> .bad)
 |_=> .bad
noncomputable def ZjV (tg:Tg) (f:Ev) (g:Sv):Sv:=fun ρ M=>Za2 (f ρ M) fun d M1=>ZkE tg g d ρ M1
noncomputable def ZbI (tg:Tg) (fs:Av) (g:Sv):Sv:=fun ρ M=>Za2 (fs ρ M) fun ds M1=>match ds with
 | [.int j]=>if -(2 ^ 62)<=j/\j < 2 ^ 62 then ZbU tg g (ZbD 0 j.toNat) ρ M1 else .bad
 |_=> .bad
noncomputable def Ze6 (tg:Tg) (fs:Av) (g:Sv):Sv:=fun ρ M=>Za2 (fs ρ M) fun ds M1=>match ds with
 | [.int i,.int j]=>if -(2 ^ 62)<=i/\i < 2 ^ 62/\ -(2 ^ 62)<=j/\j < 2 ^ 62 then ZbU tg g (ZbD i (j - i).toNat) ρ M1 else .bad
 |_=> .bad
theorem Zgy {lo:Int} {n i:Nat} (h:i < n):(ZbD lo n)[i]?=some (.int (lo + i)):=by
 unfold ZbD
 rw[List.getElem?_map,List.getElem?_range h]
 rfl
theorem Zej {lo:Int} {n:Nat}:(ZbD lo n).length=n:=by unfold ZbD;rw[List.length_map,List.length_range]
theorem Zim {lo:Int} {n i:Nat} (h:i < n):(ZbD lo n).drop i= .int (lo + i) :: (ZbD lo n).drop (i + 1):=by
 have hl:i < (ZbD lo n).length:=by rw[Zej];exact h
 have e:=Zgy (lo:=lo) h
 rw[List.getElem?_eq_getElem hl] at e
 rw[List.drop_eq_getElem_cons hl,Option.some.inj e]
theorem ZjW {tg:Expr} {gt:Tg} {tt:TG} {tb:TS} {Dn:Ends} {H H1:Hp} {α α1:List Addr} {o:Fl} {k:Ro->Sto->Fl} (w:FP X.K H α ξ Dn o)
  (qt: ∀ v d σ ρ H α ρ' Q,SR X.K H α σ ρ->Rep X.K H α v d->gt d ρ=some ρ'->(∀ σ',SR X.K H α σ' ρ'->Q σ' H)->tt v σ H Q) (qb: ∀ σ ρ H α M Dn,SR X.K H α σ ρ->HR X.K H α M->FP X.K H α ξ Dn (g ρ M)->tb Dn σ H)
  {v:V} {d:D} {σ1:L2.St} {ρ1:Ro} {M1:Sto} (e1:Ext X.K H H1 α α1) (s1:SR X.K H1 α1 σ1 ρ1) (h1:HR X.K H1 α1 M1) (r:Rep X.K H1 α1 v d)
  (en:(match gt d ρ1 with | none=>Fl.bad | some ρ2=>(match g ρ2 M1 with | .nx ρ3 M3=>k ρ3 M3 | .cnt ρ3 M3=>k ρ3 M3 | .brk ρ3 M3=> .nx ρ3 M3 | o=>o))=o)
  {N:L2.St->Hp->Prop} (hN: ∀ σ' H',(∃ ρ' α' M',Ext X.K H H' α α'/\SR X.K H' α' σ' ρ'/\HR X.K H' α' M'/\k ρ' M'=o)->N σ' H'):tt v σ1 H1 fun σ2 H2=>tb { Dn with nx:=N,ct:=N,bk:=Dn.nx } σ2 H2:=by
 cases eg:gt d ρ1 with
 |none=>rw[eg] at en;cases en;exact w.elim
 |some ρ2=>
  simp only[eg] at en
  refine qt v d σ1 ρ1 H1 α1 ρ2 _ s1 r eg fun σ2 s2=>qb σ2 ρ2 H1 α1 M1 _ s2 h1 ?_
  cases ex:g ρ2 M1 with
  |nx ρ3 M3=>simp only[ex] at en;exact fun σ' H' α' e2 hr sr=>hN _ _ ⟨ρ3,α',M3,e1.trans e2,sr,hr,en⟩
  |cnt ρ3 M3=>simp only[ex] at en;exact fun σ' H' α' e2 hr sr=>hN _ _ ⟨ρ3,α',M3,e1.trans e2,sr,hr,en⟩
  |brk ρ3 M3=>simp only[ex] at en;cases en;exact fun σ' H' α' e2 hr sr=>w σ' H' α' (e1.trans e2) hr sr
  |ret d M3=>simp only[ex] at en;cases en;exact fun v H' α' e2 hr sr=>w v H' α' (e1.trans e2) hr sr
  |exc x M3=>simp only[ex] at en;cases en;exact fun C H' α' nn e2 hr=>w C H' α' nn (e1.trans e2) hr
  |bad=>simp only[ex] at en;cases en;exact w.elim
theorem ZkF {tg:Expr} {gt:Tg} {tt:TG} {tb:TS} {Dn:Ends} {H:Hp} {α:List Addr} {lo:Int} {n:Nat} {σ:L2.St} {ρ:Ro} {M:Sto}
  (qt: ∀ v d σ ρ H α ρ' Q,SR X.K H α σ ρ->Rep X.K H α v d->gt d ρ=some ρ'->(∀ σ',SR X.K H α σ' ρ'->Q σ' H)->tt v σ H Q) (qb: ∀ σ ρ H α M Dn,SR X.K H α σ ρ->HR X.K H α M->FP X.K H α ξ Dn (g ρ M)->tb Dn σ H)
  (s:SR X.K H α σ ρ) (hh:HR X.K H α M) (w:FP X.K H α ξ Dn (ZbU gt g (ZbD lo n) ρ M)):
  ∃ W:Nat->Nat->L2.St->Hp->Prop,(∃ m,W 0 m σ H)/\ ∀ i m σ H,W i m σ H->
   ((Itr lo n).stop i H/\Dn.nx σ H)\/((Itr lo n).go i H/\ ∃ N:L2.St->Hp->Prop,(∀ σ' H',N σ' H'-> ∃ m',m' < m/\W (i + 1) m' σ' H')/\ ∀ x H',(Itr lo n).yld i H x H'->tt x σ H' fun σ2 H2=>tb { Dn with nx:=N,ct:=N,bk:=Dn.nx } σ2 H2):=by
 generalize ho:ZbU gt g (ZbD lo n) ρ M=o at w
 refine ZhR (fun i σ' H'=> ∃ ρ' α' M',Ext X.K H H' α α'/\SR X.K H' α' σ' ρ'/\HR X.K H' α' M'/\ZbU gt g ((ZbD lo n).drop i) ρ' M'=o) ⟨ρ,α,M,Ext.refl,s,hh,ho⟩ ?_ ?_
 ·rintro i σ1 H1 hi ⟨ρ1,α1,M1,e1,s1,h1,en⟩
  rw[Zim hi] at en
  exact ZjW (tg:=tg) w qt qb e1 s1 h1 (.int (lo + i)) en (fun σ' H' z=>z)
 ·rintro σ1 H1 ⟨ρ1,α1,M1,e1,s1,h1,en⟩
  rw[List.drop_eq_nil_of_le (by rw[Zej];exact Nat.le_refl _)] at en
  cases en
  exact w σ1 H1 α1 e1 h1 s1
theorem Zbw {tg a:Expr} {gt:Tg} {fs:Av} {body:List Stmt} {p p2:Pos} (hp:PassesOwn (model X.prog X.w) X.A X.env X.xe) (hm:X.mg "range"=none) (ha:DA X ξ [a] fs) (hg:DG X tg gt) (hb:DSs X ξ body g)
  (hgl:Gl X "range":=by rfl) (hs:starEach [a] X.env=[(false,eval a X.env)]:=by rfl) (hf: ∀ x,foldedSetIterable (.Call (.Name "range" p) [a] [] p2) X.env x=pure x:=by intro _;rfl):DS X ξ (.For tg (.Call (.Name "range" p) [a] [] p2) body [] pos) (ZbI gt fs g):=by
 obtain ⟨ta,pa,qa⟩:=ha
 obtain ⟨tt,pt,qt⟩:=hg
 obtain ⟨tb,pb,qb⟩:=hb
 refine ⟨_,Zgs hp (ZeQ hgl hm pa hs) pt pb hf,fun σ ρ H α M Dn s hh w=>qa σ ρ H α M _ s hh (FP.seq w fun ds M1 vs H1 α1 e1 h1 r1 w1=> ?_)⟩
 match r1 with
 | .nil=>exact w1.elim
 | .cons r (.cons _ _)=>cases r<;>exact w1.elim
 | .cons r .nil=>
  cases r with
  |int j=>
   by_cases c: -(2 ^ 62)<=j/\j < 2 ^ 62
   ·simp only[if_pos c] at w1
    exact ⟨j,rfl,c.1,c.2,ZkF (tg:=tg) qt qb (s.mono e1) h1 w1⟩
   ·simp only[if_neg c] at w1
    exact w1.elim
  |_=>exact w1.elim
theorem ZjX {tg a b:Expr} {gt:Tg} {fs:Av} {body:List Stmt} {p p2:Pos} (hp:PassesOwn (model X.prog X.w) X.A X.env X.xe) (hm:X.mg "range"=none) (ha:DA X ξ [a,b] fs) (hg:DG X tg gt) (hb:DSs X ξ body g)
  (hgl:Gl X "range":=by rfl) (hs:starEach [a,b] X.env=[(false,eval a X.env),(false,eval b X.env)]:=by rfl) (hs2:starEach [b] X.env=[(false,eval b X.env)]:=by rfl) (hf: ∀ x,foldedSetIterable (.Call (.Name "range" p) [a,b] [] p2) X.env x=pure x:=by intro _;rfl):DS X ξ (.For tg (.Call (.Name "range" p) [a,b] [] p2) body [] pos) (Ze6 gt fs g):=by
 obtain ⟨ta,pa,qa⟩:=ha
 obtain ⟨tt,pt,qt⟩:=hg
 obtain ⟨tb,pb,qb⟩:=hb
 refine ⟨_,Zgs hp (ZeR hgl hm pa hs hs2) pt pb hf,fun σ ρ H α M Dn s hh w=>qa σ ρ H α M _ s hh (FP.seq w fun ds M1 vs H1 α1 e1 h1 r1 w1=> ?_)⟩
 split at w1
 ·rename_i i j
  cases r1 with
  |cons r t=>
   cases t with
   |cons r' t=>
    cases t
    cases r
    cases r'
    by_cases c: -(2 ^ 62)<=i/\i < 2 ^ 62/\ -(2 ^ 62)<=j/\j < 2 ^ 62
    ·simp only[if_pos c] at w1
     exact ⟨i,j,rfl,c,ZkF (tg:=tg) qt qb (s.mono e1) h1 w1⟩
    ·simp only[if_neg c] at w1
     exact w1.elim
 ·exact w1.elim
noncomputable def Ztm (K:PySem.W.Frag) (tl:TE):TI:=fun σ H R=>tl σ H fun x H1=> ∃ a,x= .ref a/\(((∃ xs,SqL K H1 a xs)/\R (Itl K a) H1)\/((∃ xs,SqT K H1 a xs)/\R (Itt K a) H1))
theorem ZkG {tg l:Expr} {tl:TE} (hl:PE X l tl):PI X tg l (Ztm X.K tl):=by
 intro pins s σ H R I h
 refine thn (hl pins s σ H _ I h) fun v s1 ⟨x,H1,I1,r1,q1⟩=> ?_
 obtain ⟨a,e,q⟩:=q1
 subst e
 cases r1
 have fp: ∀ b∈[s1.heap.objs.size],ZdS X pins H1 b:=fun b hb=>by
  have e:b=s1.heap.objs.size:=by simpa using hb
  subst e
  exact I1.fpOk (Nat.le_refl _) (I1.hok.fresh (Nat.le_refl _))
 rcases q with ⟨⟨xs,hq⟩,q⟩ | ⟨⟨xs,hq⟩,q⟩
 ·obtain ⟨its,rv,p,hz⟩:=I1.list hq
  refine wpAny_pyIter_list p.isList ?_
  exact ⟨s1.heap.objs.size,[s1.heap.objs.size],_,_,H1,rfl,I1.kept (t':=s1.toks) fun b o e=>Heap.get?_push_of_some _ e,ZhP a _,⟨_,Heap.get?_push_size _ rfl,rfl,rfl⟩,fp,q⟩
 ·obtain ⟨its,rv,p,hz⟩:=I1.tuple hq
  refine wpAny_pyIter_tuple (show s1.heap.IsTuple a its.toArray from p) ?_
  exact ⟨s1.heap.objs.size,[s1.heap.objs.size],_,_,H1,rfl,I1.kept (t':=s1.toks) fun b o e=>Heap.get?_push_of_some _ e,ZgY a _,⟨_,Heap.get?_push_size _ rfl,rfl,rfl⟩,fp,q⟩
theorem ZdZ {tg l:Expr} {gt:Tg} {f:Ev} {body:List Stmt} (hp:PassesOwn (model X.prog X.w) X.A X.env X.xe) (hl:DE X ξ l f) (hg:DG X tg gt) (hb:DSs X ξ body g)
  (hf: ∀ x,foldedSetIterable l X.env x=pure x:=by intro _;rfl):DS X ξ (.For tg l body [] pos) (ZjV gt f g):=by
 obtain ⟨ta,pa,qa⟩:=hl
 obtain ⟨tt,pt,qt⟩:=hg
 obtain ⟨tb,pb,qb⟩:=hb
 refine ⟨_,Zgs hp (ZkG pa) pt pb hf,fun σ ρ H α M Dn s hh w=>qa σ ρ H α M _ s hh (FP.seq w fun d M1 v H1 α1 e1 h1 r1 w1=> ?_)⟩
 have s1:=s.mono e1
 have pure_: ∀ (ds:List D) (xs:List V),Reps X.K H1 α1 xs ds->FP X.K H1 α1 ξ Dn (ZbU gt g ds ρ M1)-> ∀ (i:Nat) σ' H',(∃ ρ' α' M',Ext X.K H1 H' α1 α'/\SR X.K H' α' σ' ρ'/\HR X.K H' α' M'/\ZbU gt g (ds.drop i) ρ' M'=ZbU gt g ds ρ M1)->
   (∀ x,xs[i]?=some x->tt x σ' H' fun σ2 H2=>tb { Dn with nx:=fun σ H=> ∃ ρ' α' M',Ext X.K H1 H α1 α'/\SR X.K H α' σ ρ'/\HR X.K H α' M'/\ZbU gt g (ds.drop (i + 1)) ρ' M'=ZbU gt g ds ρ M1,ct:=fun σ H=> ∃ ρ' α' M',Ext X.K H1 H α1 α'/\SR X.K H α' σ ρ'/\HR X.K H α' M'/\ZbU gt g (ds.drop (i + 1)) ρ' M'=ZbU gt g ds ρ M1,bk:=Dn.nx } σ2 H2)/\
   (i=xs.length->Dn.nx σ' H'):=by
  intro ds xs r w1 i σ' H' ⟨ρ',α',M',ex,sr,hr,en⟩
  refine ⟨fun x hx=> ?_,fun hi=> ?_⟩
  ·have hi:i < ds.length:=by rw[<- r.length];exact (List.getElem?_eq_some_iff.mp hx).1
   obtain ⟨v,g1,g2⟩:=r.get (List.getElem?_eq_getElem hi)
   rw[hx] at g1
   cases g1
   rw[List.drop_eq_getElem_cons hi] at en
   exact ZjW (tg:=tg) w1 qt qb ex sr hr (Rep.mono ex g2) en (fun σ' H' z=>z)
  ·rw[hi,r.length,List.drop_length] at en
   have en':Fl.nx ρ' M'=ZbU gt g ds ρ M1:=en
   rw[<- en'] at w1
   exact w1 σ' H' α' ex hr sr
 cases r1 with
 | @tup p xs ds hp rp=>
  have w2:FP X.K H1 α1 ξ Dn (ZbU gt g ds ρ M1):=w1
  refine ⟨p,rfl,.inr ⟨⟨xs,(SqT.of hp)⟩,Zk9 (K:=X.K) (a:=p) (xs:=xs) (fun i σ' H'=> ∃ ρ' α' M',Ext X.K H1 H' α1 α'/\SR X.K H' α' σ' ρ'/\HR X.K H' α' M'/\ZbU gt g (ds.drop i) ρ' M'=ZbU gt g ds ρ M1) ⟨ρ,α1,M1,Ext.refl,s1,h1,rfl⟩ ?_ ?_ ?_⟩⟩
  ·rintro i σ' H' _ ⟨ρ',α',M',ex,_⟩
   exact SqT.of (ex.tup _ _ hp)
  ·intro i x σ' H' hx z
   exact (pure_ ds xs rp w2 i σ' H' z).1 x hx
  ·intro σ' H' z
   exact (pure_ ds xs rp w2 _ σ' H' z).2 rfl
 | @rol p xs ds hp rp=>
  have w2:FP X.K H1 α1 ξ Dn (ZbU gt g ds ρ M1):=w1
  refine ⟨p,rfl,.inl ⟨⟨xs,hp.sq⟩,Zjy (K:=X.K) (a:=p) (xs:=xs) (fun i σ' H'=> ∃ ρ' α' M',Ext X.K H1 H' α1 α'/\SR X.K H' α' σ' ρ'/\HR X.K H' α' M'/\ZbU gt g (ds.drop i) ρ' M'=ZbU gt g ds ρ M1) ⟨ρ,α1,M1,Ext.refl,s1,h1,rfl⟩ ?_ ?_ ?_⟩⟩
  ·rintro i σ' H' _ ⟨ρ',α',M',ex,_⟩
   exact (ex.rol _ _ hp).sq
  ·intro i x σ' H' hx z
   exact (pure_ ds xs rp w2 i σ' H' z).1 x hx
  ·intro σ' H' z
   exact (pure_ ds xs rp w2 _ σ' H' z).2 rfl
 | @ref p n hp=>
  cases em:M1[n]? with
  |none=>simp only[ZkE,em] at w1;exact w1.elim
  |some so=>
   cases so with
   |lst ds=>
    simp only[ZkE,em] at w1
    obtain ⟨xs0,g0,r0⟩:=h1.at hp em
    generalize eo:ZhC gt g n ds.length 0 ρ M1=o at w1
    refine ⟨p,rfl,.inl ⟨⟨xs0,SqL.of g0⟩,fun i m σ' H'=> ∃ ρ' α' M',Ext X.K H1 H' α1 α'/\SR X.K H' α' σ' ρ'/\HR X.K H' α' M'/\ZhC gt g n m i ρ' M'=o,⟨ds.length,ρ,α1,M1,Ext.refl,s1,h1,eo⟩,?_⟩⟩
    rintro i m σ' H' ⟨ρ',α',M',ex,sr,hr,en⟩
    unfold ZhC at en
    cases em2:M'[n]? with
    |none=>simp only[em2] at en;cases en;exact w1.elim
    |some so2=>
     cases so2 with
     |lst ds2=>
      simp only[em2] at en
      obtain ⟨xs,g1,g2⟩:=hr.at (ex.get hp) em2
      cases ei:ds2[i]? with
      |none=>
       simp only[ei] at en
       cases en
       refine .inl ⟨⟨xs,SqL.of g1,?_⟩,w1 σ' H' α' ex hr sr⟩
       rw[g2.length]
       exact List.getElem?_eq_none_iff.mp ei
      |some d=>
       simp only[ei] at en
       obtain ⟨v,k1,k2⟩:=g2.get ei
       cases m with
       |zero=>cases en;exact w1.elim
       |succ m=>
        refine .inr ⟨⟨xs,v,SqL.of g1,k1⟩,fun σ2 H2=> ∃ ρ' α' M',Ext X.K H1 H2 α1 α'/\SR X.K H2 α' σ2 ρ'/\HR X.K H2 α' M'/\ZhC gt g n m (i + 1) ρ' M'=o,fun σ2 H2 z=>⟨m,Nat.lt_succ_self m,z⟩,fun x H2 y=> ?_⟩
        obtain ⟨ey,y⟩:=y
        subst ey
        have ev:=y xs (SqL.of g1)
        rw[k1] at ev
        cases ev
        exact ZjW (tg:=tg) w1 qt qb ex sr hr k2 en (fun σ' H' z=>z)
 |_=>exact w1.elim
end
noncomputable def fnF (g:Sv) (n k:Nat):List D->Sto->Out D:=fun ds M=>if ds.length=n then (match g (ds.map some ++ List.replicate k none) M with
 | .ret d M'=> .ok d M'
 | .nx _ M'=> .ok .non M'
 | .exc c M'=> .exc c M'
 |_=> .bad) else .bad
noncomputable def spD (K:PySem.W.Frag) (F:List D->Sto->Out D):Sp:=fun vs H Q E=> ∃ ds α M,Reps K H α vs ds/\HR K H α M/\OP K H α E Q (F ds M)
theorem Ze7: ∀ {ds:List D} {k i:Nat} {d:D},(ds.map some ++ List.replicate k none)[i]?=some (some d)->ds[i]?=some d
 | [],k,i,d,h=>by
  rw[List.map_nil,List.nil_append] at h
  have:=List.mem_of_getElem? h
  rw[List.mem_replicate] at this
  cases this.2
 |x :: r,k,0,d,h=>by simpa using h
 |x :: r,k,i + 1,d,h=>by
  rw[List.map_cons,List.cons_append,List.getElem?_cons_succ] at h
  rw[List.getElem?_cons_succ]
  exact Ze7 h
theorem SR.start {K:PySem.W.Frag} {H:Hp} {α:List Addr} {N:List Str} {vs:List V} {ds:List D} {k:Nat} (r:Reps K H α vs ds) (hk:k=N.length - ds.length):SR K H α (start N vs) (ds.map some ++ List.replicate k none):=by
 unfold L2.start
 refine ⟨by simp only[List.length_append,List.length_map,List.length_replicate,r.length,hk],fun i d h=> ?_⟩
 obtain ⟨v,h1,h2⟩:=r.get (Ze7 h)
 refine ⟨v,?_,h2⟩
 have hl:i < vs.length:=(List.getElem?_eq_some_iff.mp h1).1
 rw[List.getElem?_append_left (by rw[List.length_map];exact hl),List.getElem?_map,h1]
 rfl
section
variable {P:Program} {w:World} {K:PySem.W.Frag} {mg:Str->Option Value} {base:Heap}
theorem ZO {x qual:Str} {st:Stmt} {f:Addr} {fd:FuncData} {N ps:List Str} {k n m:Nat} {g:Sv} (F:Fun K x qual st f fd) (S:FnScope N ps (Zh st)) (hn:n=ps.length) (hm:m=N.length - n)
  (hb: ∀ (cdv:Value) (A:Around) (outer:List Env) (s:Shared) (H:Hp) (E:XK),Room k (A.deeper (envOfC qual (Zh st) s.heap.objs.size f cdv))->Thr (ZfF (CXE P w) P w K mg base N qual (Zh st) f cdv A outer s H E) E->DSs (ZfF (CXE P w) P w K mg base N qual (Zh st) f cdv A outer s H E) E (Zn st) g):
  FnOk P w K mg base (CXE P w) (k + 1) f fd ps (spD K (fnF g n m)):=by
 obtain ⟨oc,od,kV,doc,pm,an,cdv,ct,osl,rfl,lk,hcd⟩:=F.ex
 refine Zp8 lk hcd S (fun vs H Q E h=> ?_) (fun A outer s H vs Q E hr h=> ?_)
 ·obtain ⟨ds,α,M,r,_,q⟩:=h
  by_cases c:ds.length=n
  ·rw[r.length,c,hn]
  ·simp only[fnF,if_neg c] at q
   exact q.elim
 ·obtain ⟨ds,α,M,r,hh,q⟩:=h
  obtain ⟨t,p,w'⟩:=hb cdv A outer s H E hr Znv
  by_cases c:ds.length=n
  ·simp only[fnF,if_pos c] at q
   refine ⟨t,p,w' _ _ H α M _ (SR.start (N:=N) r (k:=m) (by rw[hm,c])) hh ?_⟩
   cases e:g (ds.map some ++ List.replicate m none) M with
   |nx ρ' M'=>simp only[e] at q;exact fun σ' H' α' ex hr sr=>q _ H' α' ex hr .non
   |ret d M'=>simp only[e] at q;exact q
   |exc x M'=>simp only[e] at q;exact q
   |brk ρ' M'=>simp only[e] at q;exact q.elim
   |cnt ρ' M'=>simp only[e] at q;exact q.elim
   |bad=>simp only[e] at q;exact q.elim
  ·simp only[fnF,if_neg c] at q
   exact q.elim
end
section
variable {X:Cx} {ξ:XK} {k:Nat} {f:Addr} {fd:FuncData} {ps:List Str} {F:List D->Sto->Out D} {x:Str} {p pos:Pos} {e:Expr} {es:List Expr} {fs:Av}
theorem Zls (G:FnOk X.prog X.w X.K X.mg X.base (CXE X.prog X.w) k f fd ps (spD X.K F)) (T:Thr X ξ) (hr:Room k X.A) (hm:X.mg x=some (.ref f)) (hk:PySem.W.keepIn X.K (.ref f)=true) (hb:ZfL X.K fd ps []) (ha:DA X ξ (e :: es) fs) (hg:Gl X x:=by rfl)
  (hdb:(x == ("__debug__":Str))=false:=by decide) (he:starEach (e :: es) X.env=(false,eval e X.env) :: starEach es X.env:=by rfl) (hpl:(backTo pos (starEach es X.env)).any (·.1)=false:=by rfl):DE X ξ (.Call (.Name x p) (e :: es) [] pos) (Zk F fs):=by
 obtain ⟨t,pa,qa⟩:=ha
 refine ⟨_,Zld G hr hg hm hk hb .nil T.ps pa hdb he hpl,fun σ ρ H α M Q s hh q=>qa σ ρ H α M _ s hh (OG.seq q fun ds M1 vs H1 α1 e1 h1 r1 q1=> ?_)⟩
 rw[List.append_nil]
 exact ⟨ds,α1,M1,r1,h1,q1⟩
end
end DL
end
section
namespace DL
open PySem PySem.Spec PyProof.Rows L2
theorem Zdf:bootBuiltins "abs"=some (.builtin "abs"):=by decide +kernel
theorem Znz:bootBuiltins "int"=some (.type "int"):=by decide +kernel
theorem Zlt:bootBuiltins "bool"=some (.type "bool"):=by decide +kernel
theorem ZfR:bootBuiltins "list"=some (.type "list"):=by decide +kernel
theorem ZjY:bootBuiltins "tuple"=some (.type "tuple"):=by decide +kernel
theorem Ze8:bootBuiltins "max"=some (.builtin "max"):=by decide +kernel
theorem Ze9:bootBuiltins "min"=some (.builtin "min"):=by decide +kernel
noncomputable def Cal (P:Program) (w:World) (K:PySem.W.Frag) (mg:Str->Option Value) (base:Heap) (x:Str) (k n:Nat) (F:List D->Sto->Out D):Prop:=
 ∃ (f:Addr) (fd:FuncData) (ps:List Str),FnOk P w K mg base (CXE P w) k f fd ps (spD K F)/\mg x=some (.ref f)/\PySem.W.keepIn K (.ref f)=true/\ps.length=n/\ZfL K fd ps []
theorem Zj {X:Cx} {ξ:XK} {k n:Nat} {F:List D->Sto->Out D} {x:Str} {p pos:Pos} {e:Expr} {es:List Expr} {fs:Av} (C:Cal X.prog X.w X.K X.mg X.base x k n F) (T:Thr X ξ) (hr:Room k X.A) (ha:DA X ξ (e :: es) fs) (hg:Gl X x:=by rfl)
  (hdb:(x == ("__debug__":Str))=false:=by decide) (he:starEach (e :: es) X.env=(false,eval e X.env) :: starEach es X.env:=by rfl) (hpl:(backTo pos (starEach es X.env)).any (·.1)=false:=by rfl):DE X ξ (.Call (.Name x p) (e :: es) [] pos) (Zk F fs):=by
 obtain ⟨f,fd,ps,G,hm,hk,_,hb⟩:=C
 exact Zls G T hr hm hk hb ha hg hdb he hpl
theorem ZnA {K:PySem.W.Frag} {H:Hp} {a:Addr} {ns:List Int} {n:Nat} {F:List D->Sto->Out D} (hl:ns.length<=n) (hO:ZpK H) (hS:SqL K H a (ns.map V.int)) (h: ∃ M',F [.rol (ns.map D.int)] []= .ok (.bl true) M'):
  spD K F [.ref a] H (fun v _=>v= .bl true) (fun _ _ _=>False):=by
 obtain ⟨M',e⟩:=h
 have hF:SqF K H a (ns.map V.int):=by
  rcases hS with (h | ⟨o,h⟩) | h
  ·rcases hO a with z | ⟨o,xs,z⟩
   ·rw[h] at z;cases z
   ·rw[h] at z;cases z
  ·exact .inl ⟨o,h⟩
  ·exact .inr h
 refine ⟨[.rol (ns.map D.int)],[],[],.cons (.rol hF (Reps.ints ns)) .nil,HR.nil,?_⟩
 rw[e]
 intro v H' α' _ _ r
 cases r
 rfl
end DL
end
section
namespace DL
open PySem PySem.Spec PyProof.Rows L2
inductive Src where
 |pur (ds:List D)
 |sto (n:Nat)
 |zip (n m:Nat)
 |enu (n:Nat)
 |rev (n l:Nat)
 |zips (ns:List Nat)
 |dct (n:Nat)
noncomputable def Zin (M:Sto) (i:Nat):List Nat->Option (Option (List D))
 | []=>some (some [])
 |n :: ns=>match M[n]? with
  |none=>none
  |some (.lst xs)=>match Zin M i ns with
   |none=>none
   |some r=>match xs[i]?,r with | some x,some ds=>some (some (x :: ds)) | _,_=>some none
noncomputable def nxt (src:Src) (i:Nat) (M:Sto):Option (Option D):=match src with
 | .pur ds=>some ds[i]?
 | .sto n=>match M[n]? with | some (.lst xs)=>some xs[i]? | none=>none
 | .zip n m=>match M[n]?,M[m]? with
  |some (.lst xs),some (.lst ys)=>(match xs[i]?,ys[i]? with | some x,some y=>some (some (.tup [x,y])) | _,_=>some none)
  |_,_=>none
 | .enu n=>match M[n]? with | some (.lst xs)=>(match xs[i]? with | some x=>some (some (.tup [.int i,x])) | none=>some none) | none=>none
 | .dct n=>match M[n]? with | some (.lst (.non :: r))=>(match r[i]? with | some (.tup (k :: _))=>some (some k) | some _=>none | none=>some none) | _=>none
 | .zips ns=>match Zin M i ns with | some (some ds)=>some (some (.tup ds)) | some none=>some none | none=>none
 | .rev n l=>match M[n]? with | some (.lst xs)=>if i < l then (match xs[l - 1 - i]? with | some x=>some (some x) | none=>none) else (if i=l then some none else none) | none=>none
noncomputable def cnt (src:Src) (M:Sto):Nat:=match src with
 | .pur ds=>ds.length
 | .sto n=>match M[n]? with | some (.lst xs)=>xs.length | none=>0
 | .zip n _=>match M[n]? with | some (.lst xs)=>xs.length | none=>0
 | .enu n=>match M[n]? with | some (.lst xs)=>xs.length | none=>0
 | .rev _ l=>l
 | .dct n=>match M[n]? with | some (.lst xs)=>xs.length | none=>0
 | .zips ns=>match ns with | n :: _=>(match M[n]? with | some (.lst xs)=>xs.length | none=>0) | []=>0
noncomputable def Ats (H:Hp) (α:List Addr):List Nat->List Addr->Prop
 | [],[]=>True
 |n :: ns,l :: ls=>RefK H α 0 n l/\Ats H α ns ls
 |_,_=>False
noncomputable def Zlu (K:PySem.W.Frag) (H:Hp) (α:List Addr) (J:It) (src:Src):Prop:= ∀ (i:Nat) H' α' M',Ext K H H' α α'->HR K H' α' M'->match nxt src i M' with
 |some none=>J.stop i H'
 |some (some d)=>J.go i H'/\ ∀ x H'',J.yld i H' x H''->Ext K H' H'' α' α'/\HR K H'' α' M'/\Rep K H'' α' x d
 |none=>True
noncomputable def DI (X:Cx) (ξ:XK) (tg iter:Expr) (f:Ro->Sto->Out Src):Prop:= ∃ wi:TI,PI X tg iter wi/\ ∀ σ ρ H α M R,SR X.K H α σ ρ->HR X.K H α M->OG X.K (Zlu X.K) H α ξ R (f ρ M)->wi σ H R
section
variable {X:Cx} {ξ:XK} {tg iter a b:Expr} {fs:Av} {f:Ev} {p pos:Pos}
noncomputable def iR1 (fs:Av):Ro->Sto->Out Src:=fun ρ M=>(fs ρ M).bind fun ds M1=>match ds with
 | [.int j]=>if -(2 ^ 62)<=j/\j < 2 ^ 62 then .ok (.pur (ZbD 0 j.toNat)) M1 else .bad
 |_=> .bad
theorem Zd0 {K:PySem.W.Frag} {H:Hp} {α:List Addr} {lo:Int} {n:Nat}:Zlu K H α (Itr lo n) (.pur (ZbD lo n)):=by
 intro i H' α' M' ex hr
 show match some (ZbD lo n)[i]? with | some none=>_ | some (some d)=>_ | none=>True
 by_cases h:i < n
 ·rw[Zgy h]
  refine ⟨h,fun x H'' y=> ?_⟩
  obtain ⟨e1,e2⟩:=y
  subst e1 e2
  exact ⟨Ext.refl,hr,.int _⟩
 ·rw[List.getElem?_eq_none (by rw[Zej];omega)]
  exact Nat.le_of_not_lt h
theorem Zfa (hm:X.mg "range"=none) (ha:DA X ξ [a] fs) (hgl:Gl X "range":=by rfl) (hs:starEach [a] X.env=[(false,eval a X.env)]:=by rfl):DI X ξ tg (.Call (.Name "range" p) [a] [] pos) (iR1 fs):=by
 obtain ⟨ta,pa,qa⟩:=ha
 refine ⟨_,ZeQ hgl hm pa hs,fun σ ρ H α M R s hh q=>qa σ ρ H α M _ s hh (OG.seq q fun ds M1 vs H1 α1 e1 h1 r1 w1=> ?_)⟩
 match r1 with
 | .nil=>exact w1.elim
 | .cons r (.cons _ _)=>cases r<;>exact w1.elim
 | .cons r .nil=>
  cases r with
  |int j=>
   by_cases c: -(2 ^ 62)<=j/\j < 2 ^ 62
   ·simp only[if_pos c] at w1
    exact ⟨j,rfl,c.1,c.2,w1 _ H1 α1 Ext.refl h1 Zd0⟩
   ·simp only[if_neg c] at w1
    exact w1.elim
  |_=>exact w1.elim
noncomputable def iSq (f:Ev):Ro->Sto->Out Src:=fun ρ M=>(f ρ M).bind fun d M1=>match d with
 | .tup ds=> .ok (.pur ds) M1
 | .rol ds=> .ok (.pur ds) M1
 | .con ds=> .ok (.pur ds) M1
 | .ref n=> .ok (.sto n) M1
 |_=> .bad
theorem ZbJ (ha:DE X ξ a f):DI X ξ tg a (iSq f):=by
 obtain ⟨ta,pa,qa⟩:=ha
 refine ⟨_,ZkG pa,fun σ ρ H α M R s hh q=>qa σ ρ H α M _ s hh (OG.seq q fun d M1 v H1 α1 e1 h1 r1 w1=> ?_)⟩
 cases r1 with
 | @tup p xs ds hp rp=>
  refine ⟨p,rfl,.inr ⟨⟨xs,(SqT.of hp)⟩,w1 (Itt X.K p) H1 α1 Ext.refl h1 ?_⟩⟩
  intro i H' α' M' ex hr
  show match some ds[i]? with | some none=>_ | some (some d)=>_ | none=>True
  cases ei:ds[i]? with
  |none=>exact ⟨xs,SqT.of (ex.tup _ _ hp),by rw[rp.length];exact List.getElem?_eq_none_iff.mp ei⟩
  |some d=>
   obtain ⟨v,k1,k2⟩:=rp.get ei
   refine ⟨⟨xs,v,SqT.of (ex.tup _ _ hp),k1⟩,fun x H'' y=> ?_⟩
   obtain ⟨ey,y⟩:=y
   have z:=y xs (SqT.of (ex.tup _ _ hp))
   rw[k1] at z
   cases z
   subst ey
   exact ⟨Ext.refl,hr,Rep.mono ex k2⟩
 | @con p xs ds hp rp=>
  refine ⟨p,rfl,.inr ⟨⟨xs,hp.sq⟩,w1 (Itt X.K p) H1 α1 Ext.refl h1 ?_⟩⟩
  intro i H' α' M' ex hr
  show match some ds[i]? with | some none=>_ | some (some d)=>_ | none=>True
  cases ei:ds[i]? with
  |none=>exact ⟨xs,hp.sq,by rw[rp.length];exact List.getElem?_eq_none_iff.mp ei⟩
  |some d=>
   obtain ⟨v,k1,k2⟩:=rp.get ei
   refine ⟨⟨xs,v,hp.sq,k1⟩,fun x H'' y=> ?_⟩
   obtain ⟨ey,y⟩:=y
   have z:=y xs hp.sq
   rw[k1] at z
   cases z
   subst ey
   exact ⟨Ext.refl,hr,Rep.mono ex k2⟩
 | @rol p xs ds hp rp=>
  refine ⟨p,rfl,.inl ⟨⟨xs,hp.sq⟩,w1 (Itl X.K p) H1 α1 Ext.refl h1 ?_⟩⟩
  intro i H' α' M' ex hr
  show match some ds[i]? with | some none=>_ | some (some d)=>_ | none=>True
  have hq:=(ex.rol _ _ hp).sq
  cases ei:ds[i]? with
  |none=>exact ⟨xs,hq,by rw[rp.length];exact List.getElem?_eq_none_iff.mp ei⟩
  |some d=>
   obtain ⟨v,k1,k2⟩:=rp.get ei
   refine ⟨⟨xs,v,hq,k1⟩,fun x H'' y=> ?_⟩
   obtain ⟨ey,y⟩:=y
   have z:=y xs hq
   rw[k1] at z
   cases z
   subst ey
   exact ⟨Ext.refl,hr,Rep.mono ex k2⟩
 | @ref p n hp=>
  obtain ⟨xs0,g0⟩:=h1.some_at hp
  refine ⟨p,rfl,.inl ⟨⟨xs0,SqL.of g0⟩,w1 (Itl X.K p) H1 α1 Ext.refl h1 ?_⟩⟩
  intro i H' α' M' ex hr
  show match (match M'[n]? with | some (.lst xs)=>some xs[i]? | none=>none) with | some none=>_ | some (some d)=>_ | none=>True
  cases em:M'[n]? with
  |none=>exact True.intro
  |some so=>
   cases so with
   |lst ds=>
    obtain ⟨xs,g1,g2⟩:=hr.at (ex.get hp) em
    show match some ds[i]? with | some none=>_ | some (some d)=>_ | none=>True
    cases ei:ds[i]? with
    |none=>exact ⟨xs,SqL.of g1,by rw[g2.length];exact List.getElem?_eq_none_iff.mp ei⟩
    |some d=>
     obtain ⟨v,k1,k2⟩:=g2.get ei
     refine ⟨⟨xs,v,SqL.of g1,k1⟩,fun x H'' y=> ?_⟩
     obtain ⟨ey,y⟩:=y
     have z:=y xs (SqL.of g1)
     rw[k1] at z
     cases z
     subst ey
     exact ⟨Ext.refl,hr,k2⟩
 |_=>exact w1.elim
end
noncomputable def blk (X:Cx) (scope:Scope) (cl:List (Str × Addr)) (N:List Str) (C:Addr) (fp:List Addr) (s:Shared) (H:Hp):Cx:=
 { X with N:=N,s₀:=s,H₀:=H,env:=compEnvC scope cl C X.env,outer:=X.stack,stack:=X.stack,ex:=fp,fn:=fun _=>false,pn:=[],xe:=fun _ _=>False,fxs:=none }
theorem Zbx {X:Cx} {scope:Scope} {cl:List (Str × Addr)} {N:List Str} {C:Addr} {fp:List Addr} {s:Shared} {H:Hp}:Thr (blk X scope cl N C fp s H) E0:=
 ⟨PassesOwn.never,fun _ _ _ _ _ _ _ ⟨_,_,_,_,_,_,_,_,_,_,_,_,_,q⟩=>q,fun _ _ _ _ _ _ _ _ _ _ _ _ _ _ _ _ _ _ q=>q⟩
noncomputable def ZdG (src:Src) (tg:Tg) (c:Tv) (f:Ev) (n:Nat):Nat->Nat->Ro->Sto->Out Unit
 |fuel,i,ρ,M=>match nxt src i M with
  |none=> .bad
  |some none=> .ok () M
  |some (some d)=>(match fuel with
   |0=> .bad
   |fuel + 1=>(match tg d ρ with
    |none=> .bad
    |some ρ1=>(match c ρ1 M with
     | .ok true M1=>(match f ρ1 M1 with
      | .ok x M2=>(match M2[n]? with
       |some (.lst xs)=>if xs.length < 10000000 then ZdG src tg c f n fuel (i + 1) ρ1 (M2.set n (.lst (xs ++ [x]))) else .bad
       |none=> .bad)
      |_=> .bad)
     | .ok false M1=>ZdG src tg c f n fuel (i + 1) ρ1 M1
     |_=> .bad)))
noncomputable def roB (k:Nat) (fr:List Nat) (ρ:Ro):Ro:=List.replicate k none ++ fr.map fun i=>(ρ[i]?).join
noncomputable def Za3 (fi:Ro->Sto->Out Src) (k:Nat) (fr:List Nat) (tg:Tg) (c:Tv) (f:Ev):Ev:=fun ρ M=>(fi ρ M).bind fun src M1=>match ZdG src tg c f M1.length (cnt src M1) 0 (roB k fr ρ) (M1 ++ [.lst []]) with
 | .ok _ M2=> .ok (.ref M1.length) M2
 |_=> .bad
structure Blk (X:Cx) (scope:Scope) (cl:List (Str × Addr)) (N:List Str) (k:Nat) (fr:List Nat):Prop where
 clos:closureFor scope X.env=pure cl
 kind:scope.kind= .function
 cell: ∀ y∈scope.names,y.2≠ .cell
 names: ∀ y∈scope.names,y.2= .local->scope.names.lookup y.1=some .local
 sub: ∀ x c,cl.lookup x=some c->X.env.cells.lookup x=some c
 has: ∀ x,((relabel scope X.env).names.lookup x=some .cell\/(relabel scope X.env).names.lookup x=some .free)-> ∃ c,cl.lookup x=some c
 len:N.length=k + fr.length
 at_: ∀ (j i:Nat),fr[j]?=some i-> ∃ x,N[k + j]?=some x/\X.N[i]?=some x/\X.env.kindOf x=some .cell/\((relabel scope X.env).names.lookup x=some .cell\/(relabel scope X.env).names.lookup x=some .free)/\cl.lookup x=X.env.cells.lookup x
theorem Zfb {prog:Program} {w:World} {A:Around} {R:Result->Shared->Prop} {s:Shared} {elt target iter:Expr} {ifs:List Expr} {scope:Scope} {pos:Pos} {it acc:Value} {env:Env} (I:Nat->Shared->Prop)
  (turn: ∀ n s,I n s->wpAny (model prog w) A (pyNext it) (fun r s₁=>match r with
   |none=>R (.ok .next) s₁
   |some v=>wpAny (model prog w) A (letOwnedTupleGo target it v) (fun _ s₁=>wpAny (model prog w) A (assign target env v) (fun _ s₂=>
     wpAny (model prog w) A (forIn ifs true fun c r=>if r=true then do let ok <- isTrue c env (eval c env);pure (ForInStep.yield ok) else pure (ForInStep.yield r)) (fun ok s₃=>
      if ok=true then wpAny (model prog w) A (eval elt env) (fun x s₄=>
       wpAny (model prog w) A (call (.builtin "list.append") [acc,x]) (fun _ s₅=> ∃ m,m < n/\I m s₅) (fun _ _=>False) s₄) (fun _ _=>False) s₃
      else ∃ m,m < n/\I m s₃) (fun _ _=>False) s₂) (fun _ _=>False) s₁) (fun _ _=>False) s₁) (fun _ _=>False) s)
  (n:Nat) (h:I n s):
  codeAny (model prog w) A (.compLoop (.ListComp elt [⟨target,iter,ifs,0⟩] scope pos) 0 it acc env) R s:=by
 refine codeAny_loop rfl I (fun n s hI=> ?_) n h
 show wpAny _ A ((compTurn (.ListComp elt [⟨target,iter,ifs,0⟩] scope pos) 0 it acc env).onRaise (fun x=>do noteFrame x env;theTreesLotGoes x)) _ _ s
 refine wpAny_noted ?_
 rw[compTurn_list]
 refine wpAny_bind (wpAny_standAt (wpAny_bind (wpAny_mono (turn n s hI) (fun r s₁ h₁=> ?_) fun _ _ h'=>h'.elim)))
 cases r with
 |none=>exact wpAny_pure h₁
 |some v=>
  refine wpAny_bind (wpAny_mono h₁ (fun _ s₁ h₁=> ?_) fun _ _ h'=>h'.elim)
  refine wpAny_bind (wpAny_mono h₁ (fun _ s₂ h₂=>wpAny_bind (wpAny_mono h₂ (fun ok s₃ h₃=> ?_) fun _ _ h'=>h'.elim)) fun _ _ h'=>h'.elim)
  cases ok with
  |false=>exact wpAny_pure ⟨rfl,h₃⟩
  |true=>
   exact wpAny_bind (wpAny_bind (wpAny_mono h₃ (fun x s₄ h₄=>wpAny_bind (wpAny_mono h₄ (fun _ s₅ h₅=>wpAny_pure (wpAny_pure ⟨rfl,h₅⟩)) fun _ _ h'=>h'.elim)) fun _ _ h'=>h'.elim))
noncomputable def DC (X:Cx) (ifs:List Expr) (c:Tv):Prop:=(ifs=[]/\c=fun _ M=> .ok true M)\/ ∃ e,ifs=[e]/\DT X E0 e c
section
variable {X:Cx} {ξ:XK} {tg iter elt:Expr} {ifs:List Expr} {scope:Scope} {cl:List (Str × Addr)} {N:List Str} {k:Nat} {fr:List Nat} {fi:Ro->Sto->Out Src} {gt:Tg} {c:Tv} {f:Ev} {pos:Pos}
theorem Zgz (B:Blk X scope cl N k fr) {pins:List (Addr × Obj)} {σ:L2.St} {H:Hp} {s:Shared} {fp:List Addr} (I:Inv X pins σ H s) (hf: ∀ b∈fp,ZdS X pins H b) (hlt: ∀ b∈fp,b < s.heap.objs.size):(blk X scope cl N s.heap.objs.size fp s H).Ok where
 mod:=I.ok.mod
 kind:=B.kind
 glob:=I.ok.glob
 blt:=I.ok.blt
 above:=Nat.le_refl _
 inj:=fun x y c h1 h2=>I.ok.inj x y c (B.sub x c h1) (B.sub y c h2)
 has:=fun x h=>B.has x h
 cab:=fun x c h=>(by cases h)
 hd:=I.ok.hd
 frames:=I.ok.frames
 stk:= .inl rfl
 exf:=fun b hb=>⟨Nat.ne_of_lt (hlt b hb),fun x c h=>(hf b hb).2.2.2.2.1 x c (B.sub x c h)⟩
 bs:=I.bs
 bsz:=Nat.le_trans I.ok.bsz I.sz
 noex:=fun b o e hb=>by
  rcases (hf b hb).2.2.2.1 with z | z
  ·exact I.ok.noex b o e z
  ·exact absurd (Nat.lt_of_lt_of_le (Heap.lt_size (I.ok.bs b o e).1) z) (Nat.lt_irrefl _)
 exfs:=fun b hb z=>by
  rcases List.mem_cons.mp (I.stkSub b z) with e | e
  ·exact (hf b hb).2.1 e
  ·exact (hf b hb).2.2.1 e
 funs:=I.stack
 frf:=I.stkFree
theorem join_some {α:Type} {o:Option (Option α)} {v:α} (h:o.join=some v):o=some (some v):=by
 cases o with
 |none=>cases h
 |some x=>cases x with
  |none=>cases h
  |some y=>cases h;rfl
theorem Zlv {ρ:Ro} {i:Nat} {d:D} (h:(roB k fr ρ)[i]?=some (some d)): ∃ j r,i=k + j/\fr[j]?=some r/\ρ[r]?=some (some d):=by
 unfold roB at h
 by_cases hi:i < k
 ·rw[List.getElem?_append_left (by rw[List.length_replicate];exact hi)] at h
  have:=List.mem_of_getElem? h
  rw[List.mem_replicate] at this
  cases this.2
 ·rw[List.getElem?_append_right (by rw[List.length_replicate];omega),List.length_replicate,List.getElem?_map] at h
  cases e:fr[i - k]? with
  |none=>rw[e] at h;cases h
  |some r=>
   rw[e] at h
   exact ⟨i - k,r,by omega,e,join_some (Option.some.inj h)⟩
noncomputable def stB (k:Nat) (fr:List Nat) (σ:L2.St):L2.St:=List.replicate k none ++ fr.map fun i=>(σ[i]?).join
theorem Zlw {σ:L2.St} {i:Nat} {d:V} (h:(stB k fr σ)[i]?=some (some d)): ∃ j r,i=k + j/\fr[j]?=some r/\σ[r]?=some (some d):=by
 unfold stB at h
 by_cases hi:i < k
 ·rw[List.getElem?_append_left (by rw[List.length_replicate];exact hi)] at h
  have:=List.mem_of_getElem? h
  rw[List.mem_replicate] at this
  cases this.2
 ·rw[List.getElem?_append_right (by rw[List.length_replicate];omega),List.length_replicate,List.getElem?_map] at h
  cases e:fr[i - k]? with
  |none=>rw[e] at h;cases h
  |some r=>
   rw[e] at h
   exact ⟨i - k,r,by omega,e,join_some (Option.some.inj h)⟩
theorem SR.blk {K:PySem.W.Frag} {H:Hp} {α:List Addr} {σ:L2.St} {ρ:Ro} (h:SR K H α σ ρ):SR K H α (stB k fr σ) (roB k fr ρ):=by
 refine ⟨by simp[stB,roB],fun i d e=> ?_⟩
 obtain ⟨j,r,rfl,e1,e2⟩:=Zlv e
 obtain ⟨v,e3,e4⟩:=h.2 r d e2
 refine ⟨v,?_,e4⟩
 unfold stB
 rw[List.getElem?_append_right (by rw[List.length_replicate];omega),List.length_replicate,List.getElem?_map,Nat.add_sub_cancel_left,e1]
 show some (σ[r]?).join=_
 rw[e3]
 rfl
theorem ZfS (B:Blk X scope cl N k fr) {pins:List (Addr × Obj)} {σ:L2.St} {H:Hp} {s:Shared} {fp:List Addr} {h1:Heap} {tk:Nat} {m:Str->Option Value} (I:Inv X pins σ H s) (hf: ∀ b∈fp,ZdS X pins H b) (hlt: ∀ b∈fp,b < s.heap.objs.size)
  (hn:h1.Ns s.heap.objs.size m) (hk: ∀ b o,s.heap.get? b=some o->h1.get? b=some o):Inv (blk X scope cl N s.heap.objs.size fp s H) [] (stB k fr σ) H { s with heap:=h1,toks:=tk } where
 ok:=Zgz B I hf hlt
 os:=rfl
 bare:=I.bare
 base:=Un.kept hk
 loc:=by
  refine ⟨m,hn,fun i x v e1 e2 e3=> ?_⟩
  obtain ⟨j,r,rfl,g1,g2⟩:=Zlw e2
  obtain ⟨y,k1,k2,k3,k4,k5⟩:=B.at_ j r g1
  have exy:x=y:=Option.some.inj (e1.symm.trans k1)
  subst exy
  obtain ⟨m0,hm0,hl⟩:=I.loc
  obtain ⟨u,ru,lk⟩:=hl r x v k2 g2 (.inr (.inl k3))
  refine ⟨u,ru,?_⟩
  rcases lk with ⟨z,_⟩ | ⟨_,c,z1,⟨o,z2,z3⟩⟩
  ·rw[k3] at z;cases z
  ·exact .inr ⟨k4,c,k5.trans z1,⟨o,hk _ _ z2,z3⟩⟩
 cell:=fun x c h=>by
  obtain ⟨v,o,e1,e2⟩:=I.cell x c (B.sub x c h)
  exact ⟨v,o,hk _ _ e1,e2⟩
 free:=I.fresh
 freeC:=fun x c h=>I.freeC x c (B.sub x c h)
 pin:=fun p hp=>(by simp[blk] at hp)
 hok:=I.hok.kept hk
 len:=by
  show (stB k fr σ).length=N.length
  rw[B.len]
  simp[stB]
 qd:=I.qd
 fx:= .free rfl
theorem Zek {pins:List (Addr × Obj)} {σ σ5:L2.St} {H3 H5:Hp} {s3 s6:Shared} {fp:List Addr} (B:Blk X scope cl N k fr) (I3:Inv X pins σ H3 s3) (f3: ∀ b∈fp,ZdS X pins H3 b) (I6:Inv (blk X scope cl N s3.heap.objs.size fp s3 H3) [] σ5 H5 s6):Inv X pins σ H5 s6/\ ∀ (σ':L2.St) (s8:Shared) (h':Heap),Inv X pins σ' H5 s8->(∀ b o,b≠s3.heap.objs.size->s8.heap.get? b=some o->h'.get? b=some o)->Inv X pins σ' H5 { s8 with heap:=h',toks:=s8.toks }:=by
 refine ⟨I3.call' (s':=s6) (ch:=fp) I6.os I6.base I6.hok I6.bare fun b hb=> ?_,fun σ' s8 h' I8 sb=> ?_⟩
 ·obtain ⟨_,z1,z2,z3,z4,z5⟩:=f3 b hb
  exact ⟨z3,z1,z4,z5⟩
 ·exact I8.turned (it:=s3.heap.objs.size) sb I6.free (Nat.ne_of_gt I3.lt) (.inr I3.sz)
   (fun x c h z=>by
    obtain ⟨v,o,e,_⟩:=I3.cell x c h
    exact absurd (Heap.lt_size e) (by rw[z];exact Nat.lt_irrefl _)) (fun p hp z=>by
    have:=(I3.pin p hp).1
    exact absurd (Heap.lt_size this) (by rw[z];exact Nat.lt_irrefl _))
noncomputable def CmI (Y:Cx) (fp:List Addr) (tn:Nat->Heap->Prop) (H3:Hp) (α3:List Addr) (g:Nat->Nat->Ro->Sto->Prop) (n:Nat) (s':Shared):Prop:=
 ∃ i σ' ρ' H' α' M',Inv Y [] σ' H' s'/\tn i s'.heap/\(∀ b∈fp,H' b=none)/\SR Y.K H' α' σ' ρ'/\HR Y.K H' α' M'/\Ext Y.K H3 H' α3 α'/\g n i ρ' M'
theorem ZgA {Y:Cx} {fp α3:List Addr} {it D:Addr} {tn:Nat->Heap->Prop} {J:It} {tg iter elt:Expr} {ifs:List Expr} {scope:Scope} {pos:Pos} {gt:Tg} {c:Tv} {f:Ev} {src:Src} {H3:Hp} {σ0:L2.St} {ρ0:Ro} {M3 M9:Sto} {u9:Unit} {n0 fuel:Nat} {s4:Shared} {R:Result->Shared->Prop}
  (T:Turn Y.prog Y.w Y.K Y.A tg J fp it tn) (hxe: ∀ x y,Y.xe x y->False) (fp5: ∀ {H':Hp},(∀ b∈fp,H' b=none)-> ∀ b∈fp,ZdS Y [] H' b) (hg:DG Y tg gt) (tst:DC Y ifs c) (he:DE Y E0 elt f)
  (sc:Zlu Y.K H3 α3 J src) (aD:RefK H3 α3 0 n0 D) (I4:Inv Y [] σ0 H3 s4) (st4:tn 0 s4.heap) (fr4: ∀ b∈fp,H3 b=none) (sr:SR Y.K H3 α3 σ0 ρ0) (h3:HR Y.K H3 α3 M3) (er:ZdG src gt c f n0 fuel 0 ρ0 M3= .ok u9 M9)
  (post: ∀ σ5 H5 α5 s6,Inv Y [] σ5 H5 s6->Ext Y.K H3 H5 α3 α5->HR Y.K H5 α5 M9->R (.ok .next) s6):
  codeAny (model Y.prog Y.w) Y.A (.compLoop (.ListComp elt [⟨tg,iter,ifs,0⟩] scope pos) 0 (.ref it) (.ref D) Y.env) R s4:=by
 obtain ⟨tt,pt,qt⟩:=hg
 obtain ⟨te,pe,qe⟩:=he
 refine Zfb (CmI Y fp tn H3 α3 fun n i ρ' M'=>ZdG src gt c f n0 n i ρ' M'= .ok u9 M9) ?_ fuel ⟨0,σ0,ρ0,H3,α3,M3,I4,st4,fr4,sr,h3,Ext.refl,er⟩
 rintro n s5 ⟨i,σ5,ρ5,H5,α5,M5,I5,st5,fr5,sr5,hr5,ex5,en⟩
 have src5:=sc i H5 α5 M5 ex5 hr5
 rw[ZdG] at en
 cases ex:nxt src i M5 with
 |none=>rw[ex] at en;cases en
 |some od=>
  rw[ex] at src5 en
  cases od with
  |none=>
   cases en
   have fin:=T.done Y rfl rfl rfl rfl i [] s5 σ5 H5 (fun _ _=>False) I5 (fp5 fr5) st5 src5
   refine thn fin fun r s6 w6=> ?_
   obtain ⟨hr6,I6⟩:=w6
   subst hr6
   exact post σ5 H5 α5 s6 I6 ex5 hr5
  |some d=>
   obtain ⟨go,yl⟩:=src5
   cases n with
   |zero=>cases en
   |succ n=>
    simp only at en
    have itm:=T.item Y rfl rfl rfl rfl i [] s5 σ5 H5 (fun _ _=>False) I5 (fp5 fr5) st5 go
    refine thn itm fun r s6 ⟨u,hr6,w6⟩=> ?_
    subst hr6
    refine thn w6 fun _ s7 ⟨x,H7,I7,r7,y7,st7,fr7⟩=> ?_
    obtain ⟨ex7,hr7,rp7⟩:=yl x H7 y7
    have sr5:=sr5.mono ex7
    have hr5:=hr7
    have ex5:=ex5.trans ex7
    have I7':=I7.pinned (fp5 fr7) (T.obj _ _ st7)
    cases eg:gt d ρ5 with
    |none=>rw[eg] at en;cases en
    |some ρ6=>
     rw[eg] at en
     simp only at en
     have asg:=pt _ s7 σ5 H7 x u _ I7' r7 (qt x d σ5 ρ5 H7 α5 ρ6 (fun σ' H'=>H'=H7/\SR Y.K H7 α5 σ' ρ6) sr5 rp7 eg fun σ' s'=>⟨rfl,s'⟩)
     refine wpAny_mono asg (fun _ s8 ⟨σ8,H8,I8,z8,sr8⟩=> ?_) (fun x y z=>hxe x y z)
     subst z8
     have again: ∀ {σ9:L2.St} {H9:Hp} {s9:Shared},Inv Y ([] ++ Zcc fp s7.heap) σ9 H9 s9->Inv Y [] σ9 H9 s9/\tn (i + 1) s9.heap/\ ∀ b∈fp,H9 b=none:=fun {σ9 H9 s9} I9=>by
      refine ⟨I9.unpinned,T.keep _ _ _ st7 fun b hb o e=>(I9.pin (b,o) (List.mem_append_right _ (List.mem_append_right _ (ZaS hb e)))).1,fun b hb=> ?_⟩
      obtain ⟨o,e,_⟩:=T.obj _ _ st7 b hb
      exact (I9.pin (b,o) (List.mem_append_right _ (List.mem_append_right _ (ZaS hb e)))).2.1
     have after: ∀ (kk:Bool) (M8:Sto) (H9:Hp) (α9:List Addr) (s9:Shared),Inv Y ([] ++ Zcc fp s7.heap) σ8 H9 s9->Ext Y.K H8 H9 α5 α9->HR Y.K H9 α9 M8->c ρ6 M5= .ok kk M8->
       (if kk=true then wpAny (model Y.prog Y.w) Y.A (eval elt Y.env) (fun x s₄=>wpAny (model Y.prog Y.w) Y.A (call (.builtin "list.append") [.ref D,x]) (fun _ s₅=> ∃ m,m < n + 1/\CmI Y fp tn H3 α3 (fun n i ρ' M'=>ZdG src gt c f n0 n i ρ' M'= .ok u9 M9) m s₅) (fun _ _=>False) s₄) (fun _ _=>False) s9
        else ∃ m,m < n + 1/\CmI Y fp tn H3 α3 (fun n i ρ' M'=>ZdG src gt c f n0 n i ρ' M'= .ok u9 M9) m s9):=by
      intro kk M8 H9 α9 s9 I9 ex9 hr9 ec
      rw[ec] at en
      cases kk with
      |false=>
       obtain ⟨a1,a2,a3⟩:=again I9
       exact Zkx ⟨n,Nat.lt_succ_self n,i + 1,σ8,ρ6,H9,α9,M8,a1,a2,a3,sr8.mono ex9,hr9,ex5.trans ex9,en⟩
      |true=>
       simp only at en
       refine Zky ?_
       cases ef:f ρ6 M8 with
       |exc x9 M10=>rw[ef] at en;cases en
       |bad=>rw[ef] at en;cases en
       |ok y M10=>
        rw[ef] at en
        simp only at en
        have ev:=pe _ s9 σ8 H9 (fun v H'=> ∃ α',Ext Y.K H9 H' α9 α'/\HR Y.K H' α' M10/\Rep Y.K H' α' v y) I9 (qe σ8 ρ6 H9 α9 M8 _ (sr8.mono ex9) hr9 (by
         rw[ef]
         exact fun v H' α' e h r=>⟨α',e,h,r⟩))
        refine wpAny_mono ev (fun yv s10 ⟨v,H10,I10,r10,α10,ex10,hr10,rp10⟩=> ?_) (fun x y z=>hxe x y z)
        cases em:M10[n0]? with
        |none=>rw[em] at en;cases en
        |some so=>
         cases so with
         |lst ds=>
          rw[em] at en
          simp only at en
          by_cases cz:ds.length < 10000000
          ·rw[if_pos cz] at en
           have aD10:=ex10.get (ex9.get (ex5.get aD))
           obtain ⟨xs,g1,g2⟩:=hr10.at aD10 em
           have ap:=ZeX (X:=Y) _ s10 σ8 H10 (.ref D) [v] (.ref D) [yv] (fun _ H'=>H'=upd H10 D (.lst (xs ++ [v]))) I10 rfl (.cons r10 .nil) ⟨D,xs,v,rfl,rfl,g1,by rw[g2.length];exact Nat.lt_of_lt_of_le cz (by decide),rfl⟩
           refine wpAny_mono ap (fun _ s11 ⟨v11,H11,I11,_,z11⟩=> ?_) (fun x y z=>hxe x y z)
           subst z11
           obtain ⟨a1,a2,a3⟩:=again I11
           have exw:Ext Y.K H10 (upd H10 D (.lst (xs ++ [v]))) α10 α10:=Ext.wr g1
           exact ⟨n,Nat.lt_succ_self n,i + 1,σ8,ρ6,_,α10,_,a1,a2,a3,((sr8.mono ex9).mono ex10).mono exw,hr10.wr aD10 g1 (g2.append (.cons rp10 .nil)),((ex5.trans ex9).trans ex10).trans exw,en⟩
          ·rw[if_neg cz] at en
           cases en
     rcases tst with ⟨rfl,ec⟩ | ⟨e,rfl,tt',ptt,qtt⟩
     ·refine wpAny_tests_nil ?_
      exact after true M5 H8 α5 s8 I8 Ext.refl hr5 (by rw[ec])
     ·refine wpAny_tests_one ?_
      cases ec:c ρ6 M5 with
      |exc x9 M10=>rw[ec] at en;cases en
      |bad=>rw[ec] at en;cases en
      |ok kk M8=>
       have tv':=ptt _ s8 σ8 H8 (fun b H'=>b=kk/\ ∃ α',Ext Y.K H8 H' α5 α'/\HR Y.K H' α' M8) I8 (qtt σ8 ρ6 H8 α5 M5 _ sr8 hr5 (by
        rw[ec]
        exact fun v H' α' e h r=>⟨r,α',e,h⟩))
       refine wpAny_mono tv' (fun b s9 ⟨H9,I9,zb,α9,ex9,hr9⟩=> ?_) (fun x y z=>hxe x y z)
       subst zb
       exact after b M8 H9 α9 s9 I9 ex9 hr9 ec
theorem Zbj (B:Blk X scope cl N k fr) (hi:DI X ξ tg iter fi) (hg: ∀ C fp s H,DG (blk X scope cl N C fp s H) tg gt) (ht: ∀ C fp s H,DC (blk X scope cl N C fp s H) ifs c) (he: ∀ C fp s H,DE (blk X scope cl N C fp s H) E0 elt f)
  (hs: ∀ x,foldedSetIterable iter X.env x=pure x:=by intro _;rfl):DE X ξ (.ListComp elt [⟨tg,iter,ifs,0⟩] scope pos) (Za3 fi k fr gt c f):=by
 obtain ⟨wi,pi,qi⟩:=hi
 refine ⟨fun σ H Q=> ∃ ρ α M,SR X.K H α σ ρ/\HR X.K H α M/\OP X.K H α ξ Q (Za3 fi k fr gt c f ρ M),?_,fun σ ρ H α M Q s h q=>⟨ρ,α,M,s,h,q⟩⟩
 rintro pins s σ H Q I ⟨ρ,α,M,sr,hr,op⟩
 rw[eval_ListComp]
 refine wpAny_comprehension_free (use:=none) rfl hs B.clos B.kind B.names ?_
 refine thn (pi pins s σ H (fun J H2=> ∃ α2 M2 src,Ext X.K H H2 α α2/\HR X.K H2 α2 M2/\Zlu X.K H2 α2 J src/\OP X.K H2 α2 ξ Q (match ZdG src gt c f M2.length (cnt src M2) 0 (roB k fr ρ) (M2 ++ [.lst []]) with | .ok _ M2'=> .ok (.ref M2.length) M2' | _=> .bad)) I
  (qi σ ρ H α M _ sr hr (OG.seq op fun src M1 J H1 α1 e1 h1 r1 q1=>⟨α1,M1,src,e1,h1,r1,q1⟩))) fun v s1 w1=>thn w1 fun itv s2 w2=> ?_
 obtain ⟨it,fp,tn,J,H2,rfl,I2,T,st2,f2,α2,M2,src,e2,h2,sc,op2⟩:=w2
 have srI:=sr.mono e2
 refine wpAny_newObj_type ?_
 have I3:Inv X pins σ (upd H2 s2.heap.objs.size (.lst [])) { s2 with heap:=s2.heap.push { cls:= .type "list",data:= .seq ([]:List Value).toArray } }:=I2.lnew (its:=[]) (t':=s2.toks) .nil (Nat.zero_le _)
 have fD:H2 s2.heap.objs.size=none:=I2.fresh
 generalize hD:s2.heap.objs.size=D at I3 fD
 generalize hs3:({ s2 with heap:=s2.heap.push { cls:= .type "list",data:= .seq ([]:List Value).toArray } }:Shared)=s3 at I3
 generalize hH3:upd H2 D (.lst [])=H3 at I3
 have h3:HR X.K H3 (α2 ++ [D]) (M2 ++ [.lst []]):=by rw[<- hH3];exact h2.new fD .nil
 have e3:Ext X.K H2 H3 α2 (α2 ++ [D]):=by rw[<- hH3];exact Ext.new fD
 have aD:RefK H3 (α2 ++ [D]) 0 M2.length D:=⟨h2.last D,by first | exact Kn.lst ZC | (rw[<- hH3];exact Kn.lst ZC)⟩
 have lt2: ∀ b∈fp,b < s2.heap.objs.size:=fun b hb=>let ⟨o,e,_⟩:=T.obj _ _ st2 b hb;Heap.lt_size e
 have keep3: ∀ b o,s2.heap.get? b=some o->s3.heap.get? b=some o:=fun b o e=>by rw[<- hs3];exact Heap.get?_push_of_some _ e
 have f3: ∀ b∈fp,ZdS X pins H3 b:=fun b hb=>⟨by rw[<- hH3,ZI (by rw[<- hD];exact Nat.ne_of_lt (lt2 b hb))];exact (f2 b hb).1,(f2 b hb).2⟩
 have lt3: ∀ b∈fp,b < s3.heap.objs.size:=fun b hb=>let ⟨o,e,_⟩:=T.obj _ _ st2 b hb;Heap.lt_size (keep3 b o e)
 have st3:tn 0 s3.heap:=T.keep _ _ _ st2 fun b _ o e=>keep3 b o e
 refine wpAny_newFunctionEnv B.cell (by intro y hy;simp at hy) (fun h₁ hns₁ hsb₁=> ?_) B.kind
 have keep4: ∀ b o,s3.heap.get? b=some o->h₁.get? b=some o:=fun b o e=>hsb₁.extBut b o (Nat.ne_of_lt (Heap.lt_size e)) (Heap.get?_push_of_some _ e)
 have I4:=ZfS (tk:=s3.toks + ([]:List (Str × Value)).length) B I3 f3 lt3 hns₁ keep4
 have st4:tn 0 h₁:=T.keep _ _ _ st3 fun b _ o e=>keep4 b o e
 have fp5: ∀ {H':Hp},(∀ b∈fp,H' b=none)-> ∀ b∈fp,ZdS (blk X scope cl N s3.heap.objs.size fp s3 H3) [] H' b:=fun hn b hb=>⟨hn b hb,Nat.ne_of_lt (lt3 b hb),(Zgz B I3 f3 lt3).exfs b hb,.inl hb,fun x c h=>(f3 b hb).2.2.2.2.1 x c (B.sub x c h),fun p hp=>(by simp[blk] at hp)⟩
 cases er:ZdG src gt c f M2.length (cnt src M2) 0 (roB k fr ρ) (M2 ++ [.lst []]) with
 |exc x M9=>rw[er] at op2;exact op2.elim
 |bad=>rw[er] at op2;exact op2.elim
 |ok u9 M9=>
  rw[er] at op2
  have loop:codeAny (model X.prog X.w) X.A (.compLoop (.ListComp elt [⟨tg,iter,ifs,0⟩] scope pos) 0 (.ref it) (.ref D) (compEnvC scope cl s3.heap.objs.size X.env)) (compPost (model X.prog X.w) X.A X.xe none (EP X pins σ Q) (.ref D) s3.heap.objs.size) { s3 with heap:=h₁,toks:=s3.toks + ([]:List (Str × Value)).length }:=by
   refine ZgA (Y:=blk X scope cl N s3.heap.objs.size fp s3 H3) T (fun _ _ z=>z) fp5 (hg _ fp s3 H3) (ht _ fp s3 H3) (he _ fp s3 H3) (fun i H' α' M' ex hr=>sc i H' α' M' (e3.trans ex) hr) aD I4 st4 (fun b hb=>(f3 b hb).1) ((srI.blk).mono e3) h3 er ?_
   intro σ5 H5 α5 s6 I6 ex5 hr5
   obtain ⟨I7,I8⟩:=Zek B I3 f3 I6
   obtain ⟨m6,hm6,_⟩:=id I6.loc
   exact ⟨m6,hm6,fun h' sb=>⟨.ref D,H5,I8 σ s6 h' I7 (fun b o hb e=>(sb.2 b hb).trans e),rfl,op2 _ H5 α5 (e3.trans ex5) hr5 (.ref (ex5.get aD))⟩⟩
  exact codeAny_compStart_list loop (T.self X.A 0 _ _ _ st4 loop)
end
end DL
end
section
namespace DL
open PySem PySem.Spec PyProof.Rows L2
theorem ZnB {names:List (Str × NameKind)} (h:names.all (fun y=>y.2 != .cell && y.2 != .free)=true) (x:Str): ¬ (names.lookup x=some .cell\/names.lookup x=some .free):=by
 induction names with
 |nil=>intro z;rcases z with z | z<;>simp at z
 |cons y r ih=>
  rw[List.all_cons,Bool.and_eq_true] at h
  obtain ⟨n,kd⟩:=y
  rw[List.lookup_cons]
  cases e:x == n with
  |true=>
   simp only
   intro z
   have h1:=h.1
   rcases z with z | z<;>(cases z;simp at h1)
  |false=>exact ih h.2
theorem ZjZ {names:List (Str × NameKind)} {env:Env} (h:names.all (fun y=>y.2 != .cell && y.2 != .free)=true):
  (names.map fun (n,k)=>if (k == NameKind.free && env.scope.kind == .function && env.kindOf n == some .cell) then (n,NameKind.cell) else (n,k))=names:=by
 induction names with
 |nil=>rfl
 |cons y r ih=>
  rw[List.all_cons,Bool.and_eq_true] at h
  obtain ⟨n,kd⟩:=y
  have hk:(kd == NameKind.free)=false:=by
   have h1:=h.1
   rw[Bool.and_eq_true] at h1
   have h2:=h1.2
   cases kd<;>first | rfl | simp at h2
  rw[List.map_cons,ih h.2]
  simp[hk]
theorem Zlx {X:Cx} {scope:Scope} {N:List Str} {k:Nat} (h:scope.names.all (fun y=>y.2 != .cell && y.2 != .free)=true) (hk:scope.kind= .function) (hn: ∀ y∈scope.names,y.2= .local->scope.names.lookup y.1=some .local) (hl:N.length=k):Blk X scope [] N k [] where
 clos:=closureFor_none fun y hy z=>by
  have:=List.all_eq_true.mp h y hy
  rw[z] at this
  simp at this
 kind:=hk
 cell:=fun y hy z=>by
  have:=List.all_eq_true.mp h y hy
  rw[z] at this
  simp at this
 names:=hn
 sub:=fun x c z=>(by cases z)
 has:=fun x z=>by
  have e:(relabel scope X.env).names=scope.names:=ZjZ h
  rw[e] at z
  exact absurd z (ZnB h x)
 len:=hl
 at_:=fun j i z=>(by simp at z)
theorem ZfT {env:Env}: ∀ (names:List (Str × NameKind)) (acc:List (Str × Addr)),(∀ y∈names,y.2= .free-> ∃ c,env.cells.lookup y.1=some c)->
  (forIn names acc fun (x:Str × NameKind) (cs:List (Str × Addr))=>if x.2 == NameKind.free then (do let a <- cellOf env x.1;pure (ForInStep.yield ((x.1,a) :: cs))) else (pure (ForInStep.yield cs):Sem _))=
   (pure (((names.filter fun y=>y.2 == .free).map fun y=>(y.1,(env.cells.lookup y.1).getD 0)).reverse ++ acc):Sem (List (Str × Addr)))
 | [],acc,_=>by simp
 | (n,kd) :: r,acc,h=>by
  rw[List.forIn_cons]
  by_cases hk:(kd == NameKind.free)=true
  ·obtain ⟨c,hc⟩:=h (n,kd) List.mem_cons_self (by simpa using hk)
   have e1:cellOf env n=pure c:=by unfold cellOf;rw[hc]
   have ih:=ZfT r ((n,c) :: acc) fun y hy=>h y (List.mem_cons_of_mem _ hy)
   simp only[hk,if_true,e1,pure_bind]
   refine Eq.trans ih ?_
   simp[List.filter_cons,hk,hc]
  ·have ih:=ZfT r acc fun y hy=>h y (List.mem_cons_of_mem _ hy)
   simp only[hk,if_false,pure_bind]
   refine Eq.trans ih ?_
   simp[List.filter_cons,hk]
noncomputable def clF (scope:Scope) (env:Env):List (Str × Addr):=((scope.names.filter fun y=>y.2 == .free).map fun y=>(y.1,(env.cells.lookup y.1).getD 0)).reverse
theorem Zd1 {env:Env}: ∀ {l:List (Str × NameKind)} {x:Str} {c:Addr},(l.map fun y=>(y.1,(env.cells.lookup y.1).getD 0)).lookup x=some c->c=(env.cells.lookup x).getD 0/\ ∃ y∈l,y.1=x
 | [],x,c,h=>by simp at h
 |y :: r,x,c,h=>by
  rw[List.map_cons,List.lookup_cons] at h
  cases e:x == y.1 with
  |true=>
   rw[e] at h
   have ex:x=y.1:=by simpa using e
   cases h
   exact ⟨by rw[ex],y,List.mem_cons_self,ex.symm⟩
  |false=>
   rw[e] at h
   obtain ⟨h1,z,h2,h3⟩:=Zd1 h
   exact ⟨h1,z,List.mem_cons_of_mem _ h2,h3⟩
theorem Zci {α:Type}: ∀ {l:List (Str × α)} {x:Str},(∃ y∈l,y.1=x)-> ∃ c,l.lookup x=some c
 | [],x,h=>by obtain ⟨y,h1,_⟩:=h;simp at h1
 |z :: r,x,h=>by
  rw[List.lookup_cons]
  cases e:x == z.1 with
  |true=>exact ⟨_,rfl⟩
  |false=>
   obtain ⟨y,h1,h2⟩:=h
   rcases List.mem_cons.mp h1 with q | q
   ·subst q;rw[h2] at e;simp at e
   ·exact Zci ⟨y,q,h2⟩
theorem ZaM {env:Env} (nc: ∀ n,env.scope.names.lookup n=env.kindOf n): ∀ {names:List (Str × NameKind)} {x:Str} {kd:NameKind},(names.map fun (n,k)=>if (k == NameKind.free && env.scope.kind == .function && env.kindOf n == some .cell) then (n,NameKind.cell) else (n,k)).lookup x=some kd->
  names.lookup x=some kd\/(names.lookup x=some .free/\kd= .cell)
 | [],x,kd,h=>by simp at h
 | (n,q) :: r,x,kd,h=>by
  rw[List.map_cons,List.lookup_cons] at h
  rw[List.lookup_cons]
  dsimp only at h ⊢
  by_cases c:(q == NameKind.free && env.scope.kind == .function && env.kindOf n == some .cell)=true
  ·rw[if_pos c] at h
   dsimp only at h
   cases e:x == n with
   |true=>
    rw[e] at h
    cases h
    simp only[Bool.and_eq_true,beq_iff_eq] at c
    exact .inr ⟨by rw[c.1.1],rfl⟩
   |false=>rw[e] at h;exact ZaM nc h
  ·rw[if_neg c] at h
   dsimp only at h
   cases e:x == n with
   |true=>rw[e] at h;exact .inl h
   |false=>rw[e] at h;exact ZaM nc h
theorem ZbK {env:Env}: ∀ {names:List (Str × NameKind)} {x:Str},names.lookup x=some .free->(∃ kd,(kd=NameKind.cell\/kd=NameKind.free)/\(names.map fun (n,k)=>if (k == NameKind.free && env.scope.kind == .function && env.kindOf n == some .cell) then (n,NameKind.cell) else (n,k)).lookup x=some kd)
 | [],x,h=>by simp at h
 | (n,q) :: r,x,h=>by
  rw[List.lookup_cons] at h
  rw[List.map_cons,List.lookup_cons]
  by_cases c:(q == NameKind.free && env.scope.kind == .function && env.kindOf n == some .cell)=true
  ·dsimp only
   rw[if_pos c]
   cases e:x == n with
   |true=>exact ⟨_,.inl rfl,rfl⟩
   |false=>rw[e] at h;exact ZbK h
  ·dsimp only
   rw[if_neg c]
   cases e:x == n with
   |true=>rw[e] at h;exact ⟨q,.inr (Option.some.inj h),rfl⟩
   |false=>rw[e] at h;exact ZbK h
noncomputable def Zr4 (XN N:List Str) (dn sn:List (Str × NameKind)) (k:Nat) (fr:List Nat):Bool:=
 (sn.all fun y=>y.2 != .cell && (y.2 != .free || dn.lookup y.1 == some .cell) && (y.2 != .local || sn.lookup y.1 == some .local)) && N.length == k + fr.length &&
  (List.range fr.length).all fun j=>match fr[j]? with
   |some i=>(match N[k + j]?,XN[i]? with | some x,some y=>x == y && dn.lookup x == some .cell && sn.lookup x == some .free | _,_=>false)
   |none=>false
theorem ZkH {X:Cx} {scope:Scope} {N:List Str} {k n:Nat} {fr:List Nat} {XN:List Str} {dn:List (Str × NameKind)} (hN:X.N=XN) (hd:X.env.scope.names=dn) (hc:X.env.cells=cellsFrom n dn []) (hk:scope.kind= .function) (h:Zr4 XN N dn scope.names k fr=true):Blk X scope (clF scope X.env) N k fr:=by
 unfold Zr4 at h
 simp only[Bool.and_eq_true,List.all_eq_true,bne_iff_ne,ne_eq,Bool.or_eq_true,beq_iff_eq] at h
 obtain ⟨⟨h1,h2⟩,h3⟩:=h
 have kind: ∀ x,X.env.kindOf x=dn.lookup x:=fun x=>by rw[<- hd];rfl
 have cel: ∀ x,dn.lookup x=some .cell-> ∃ c,X.env.cells.lookup x=some c:=fun x e=>by
  have:=PySem.W.cellsFrom_some dn n [] (.inl e)
  rw[hc]
  exact Option.isSome_iff_exists.mp this
 have frc: ∀ y∈scope.names,y.2= .free-> ∃ c,X.env.cells.lookup y.1=some c:=fun y hy e=>by
  rcases (h1 y hy).1.2 with z | z
  ·exact absurd e z
  ·exact cel _ z
 have sub: ∀ x c,(clF scope X.env).lookup x=some c->X.env.cells.lookup x=some c:=fun x c e=>by
  unfold clF at e
  rw[<- List.map_reverse] at e
  obtain ⟨e1,y,e2,e3⟩:=Zd1 e
  have e4:=List.mem_filter.mp (List.mem_reverse.mp e2)
  obtain ⟨c',g⟩:=frc y e4.1 (by simpa using e4.2)
  rw[e3] at g
  rw[g] at e1 ⊢
  rw[e1]
  rfl
 have has: ∀ x,scope.names.lookup x=some .free-> ∃ c,(clF scope X.env).lookup x=some c:=fun x e=>by
  refine Zci ?_
  have m:=PySem.mem_of_lookup e
  exact ⟨(x,(X.env.cells.lookup x).getD 0),List.mem_reverse.mpr (List.mem_map.mpr ⟨(x,.free),List.mem_filter.mpr ⟨m,by simp⟩,rfl⟩),rfl⟩
 refine ⟨?_,hk,fun y hy=>(h1 y hy).1.1,fun y hy e=> ?_,sub,fun x z=> ?_,h2,fun j i e=> ?_⟩
 ·have:=ZfT (env:=X.env) scope.names [] frc
  rw[List.append_nil] at this
  unfold closureFor
  exact (congrArg (fun (m:Sem (List (Str × Addr)))=>m >>= fun cs=>(pure cs:Sem (List (Str × Addr)))) this).trans (pure_bind _ _)
 ·rcases (h1 y hy).2 with z | z
  ·exact absurd e z
  ·exact z
 ·have nc: ∀ m,X.env.scope.names.lookup m=X.env.kindOf m:=fun m=>rfl
  refine has x ?_
  rcases z with z | z
  ·rcases ZaM nc z with q | q
   ·exact absurd rfl (h1 _ (PySem.mem_of_lookup q)).1.1
   ·exact q.1
  ·rcases ZaM nc z with q | q
   ·exact q
   ·cases q.2
 ·have hj:j < fr.length:=(List.getElem?_eq_some_iff.mp e).1
  have q:=h3 j (List.mem_range.mpr hj)
  rw[e] at q
  dsimp only at q
  cases e1:N[k + j]? with
  |none=>rw[e1] at q;cases q
  |some x=>
   cases e2:XN[i]? with
   |none=>rw[e1,e2] at q;cases q
   |some y=>
    rw[e1,e2] at q
    simp only[Bool.and_eq_true,beq_iff_eq] at q
    obtain ⟨⟨q1,q2⟩,q3⟩:=q
    subst q1
    obtain ⟨kd,r1,r2⟩:=ZbK (env:=X.env) q3
    obtain ⟨c,r3⟩:=has x q3
    refine ⟨x,rfl,by rw[hN];exact e2,by rw[kind];exact q2,?_,r3.trans (sub x c r3).symm⟩
    rcases r1 with r1 | r1
    ·exact .inl (r1 ▸ r2)
    ·exact .inr (r1 ▸ r2)
section
variable {X:Cx} {ξ:XK}
noncomputable def ZcI:List D->Option (List Bool)
 | []=>some []
 | .bl b :: r=>match ZcI r with | some bs=>some (b :: bs) | none=>none
 |_ :: _=>none
noncomputable def Zr5:List D->Sto->Out D:=fun ds M=>match ds with
 | [.ref n]=>(match M[n]? with | some (.lst xs)=>(match ZcI xs with | some bs=> .ok (.bl (bs.all id)) M | none=> .bad) | none=> .bad)
 |_=> .bad
end
section
variable {prog:Program} {w:World} {A:Around} {E:Value->Shared->Prop} {s:Shared}
theorem Zel {α β:Type} {f g:α->Option β}: ∀ {l:List α},(∀ m∈l,f m=g m)->l.filterMap f=l.filterMap g
 | [],_=>rfl
 |x :: r,h=>by
  rw[List.filterMap_cons,List.filterMap_cons,h x List.mem_cons_self,Zel fun m hm=>h m (List.mem_cons_of_mem _ hm)]
theorem Zj0 (xs:Array Value):((List.range xs.size).filterMap fun (m:Nat)=>xs[((xs.size:Int) - 1 + (m:Int) * (-1)).toNat]?).toArray=xs.toList.reverse.toArray:=by
 congr 1
 apply List.ext_getElem?
 intro i
 have all:(List.range xs.size).filterMap (fun (m:Nat)=>xs[((xs.size:Int) - 1 + (m:Int) * (-1)).toNat]?)=(List.range xs.size).map fun m=>xs[xs.size - 1 - m]?.getD .none:=by
  rw[<- List.filterMap_eq_map]
  refine Zel fun m hm=> ?_
  have hm':=List.mem_range.mp hm
  have e:((xs.size:Int) - 1 + (m:Int) * (-1)).toNat=xs.size - 1 - m:=by omega
  rw[e]
  have hlt:xs.size - 1 - m < xs.size:=by omega
  simp[hlt]
 rw[all]
 by_cases hi:i < xs.size
 ·have hlt:xs.size - 1 - i < xs.size:=by omega
  rw[List.getElem?_map,List.getElem?_range hi,List.getElem?_reverse (by simpa using hi)]
  simp[hlt]
 ·rw[List.getElem?_eq_none (by simpa using hi),List.getElem?_eq_none (by simpa using hi)]
end
section
variable {X:Cx} {ξ:XK} {e:Expr} {f:Ev} {p2 p3 p4 pos:Pos} {j:Nat}
theorem Reps.rev {K:PySem.W.Frag} {H:Hp} {α:List Addr}: ∀ {vs:List V} {ds:List D},Reps K H α vs ds->Reps K H α vs.reverse ds.reverse
 |_,_,.nil=> .nil
 |_,_,.cons r t=>by
  rw[List.reverse_cons,List.reverse_cons]
  exact (Reps.rev t).append (.cons r .nil)
end
end DL
end
section
namespace DL
open PySem PySem.Spec PyProof.Rows L2
section
variable {X:Cx} {ξ:XK}
end
end DL
end
section
namespace DL
open PySem PySem.Spec PyProof.Rows L2
section
variable {M:Model} {A:Around} {E:Value->Shared->Prop} {s:Shared}
end
section
variable {X:Cx} {ξ:XK} {tg iter elt:Expr} {ifs:List Expr} {scope:Scope} {cl:List (Str × Addr)} {N:List Str} {k:Nat} {fr:List Nat} {fi:Ro->Sto->Out Src} {gt:Tg} {c:Tv} {f:Ev} {pos:Pos}
end
section
variable {X:Cx} {scope0:Scope} {cl0:List (Str × Addr)} {N0:List Str} {k0:Nat} {fr0:List Nat} {C:Addr} {fp:List Addr} {s:Shared} {H:Hp} {scope:Scope} {N:List Str} {k:Nat} {fr:List Nat} {dn:List (Str × NameKind)}
end
end DL
end
section
namespace DL
open PySem PySem.Spec PyProof.Rows L2
open PySem.W (nsIn excIn tailIn nsOkIn mroIn clsIn typeIn findIn specialIn takesIn kitOne Looks)
noncomputable abbrev bmV:List Value:=[.type "ValueError",.type "Exception",.type "BaseException",.type "object"]
noncomputable def Zcz (K:PySem.W.Frag) (c:Str):Option Addr:=match nsIn K mainGlobals c with | some (some (.ref C))=>some C | _=>none
theorem Zem {K:PySem.W.Frag} {c:Str} {C:Addr} (h:Zcz K c=some C):nsIn K mainGlobals c=some (some (.ref C)):=by
 unfold Zcz at h
 split at h
 ·rename_i C' e;cases h;exact e
 ·cases h
noncomputable def Zfc (K:PySem.W.Frag) (c:Str):Bool:=match Zcz K c with
 |some C=>excIn K C bmV "ValueError.__new__" && findIn K (.ref C) "__getattribute__" == some (some (.builtin "BaseException.__getattribute__")) && findIn K (.ref C) "__getattr__" == some none && findIn K (.ref C) "__class__" == some (some (.builtin "object.__class__")) &&
  specialIn K (.builtin "object.__class__") "__get__" == some (some (.builtin "getset_descriptor.__get__")) && takesIn K (.builtin "object.__class__") == some true && mroIn K C (.type "BaseException") == some true && mroIn K C (.type "object") == some true && (clsIn K C).isSome
 |none=>false
theorem Zio {K:PySem.W.Frag} {c:Str} (h:Zfc K c=true): ∃ C,nsIn K mainGlobals c=some (some (.ref C))/\excIn K C bmV "ValueError.__new__"=true/\DQ.ExcC K C:=by
 unfold Zfc at h
 split at h
 ·rename_i C e
  simp only[Bool.and_eq_true,beq_iff_eq] at h
  obtain ⟨⟨⟨⟨⟨⟨⟨⟨h1,h2⟩,h3⟩,h4⟩,h5⟩,h6⟩,h7⟩,h8⟩,h9⟩:=h
  exact ⟨C,Zem e,h1,h2,h3,h4,h5,h6,h7,h8,h9⟩
 ·cases h
theorem Zly {K:PySem.W.Frag} {h:Heap} {C:Addr} {bmB:List Value} {newId:String} (X:K.In h) (q:excIn K C bmB newId=true):
  ∃ bm N nm q bs hdct sn sub ab col dd k0 k1 k2 k3 k5 mN,h.get? C=some (excClassObj nm q C N bs bm hdct sn sub ab col dd k0 k1 k2 k3 k5 newId)/\h.Ns N mN/\mN "__init__"=none/\OwnTail h bmB bm:=by
 unfold excIn at q
 split at q
 ·rename_i dd cd sl ho
  split at q
  ·rename_i C' bm k0 k1 k2 k3 n k5 hm hs
   simp only[Bool.and_eq_true,beq_iff_eq,Bool.not_eq_true'] at q
   obtain ⟨⟨⟨⟨⟨rfl,rfl⟩,hdel⟩,ht⟩,hok⟩,hni⟩:=q
   obtain ⟨nm,bs,mro,ns,qn,hd,sn,sub,ab,col,del⟩:=cd
   dsimp only at hm hdel hok hni
   subst hm hdel
   obtain ⟨l⟩:=sl
   simp only at hs
   subst hs
   exact ⟨bm,ns,nm,qn,bs,hd,sn,sub,ab,col,dd,k0,k1,k2,k3,k5,_,X _ _ ho,.of_isNs (PySem.W.isNs_of_in X hok),PySem.W.nsMap_none_of_in X hok hni,PySem.W.tail_of_in X ht⟩
  ·cases q
 ·cases q
noncomputable def Zaj (K:PySem.W.Frag) (d:Str) (tab:List (Str × Bool)):Bool:=match Zcz K d with
 |some D=>tab.all fun p=>Zfc K p.1 && (match Zcz K p.1 with | some C=>kitOne K (.ref C) (.ref D) == some p.2 | none=>false)
 |none=>false
noncomputable def Zip (K:PySem.W.Frag) (T:String) (tab:List (Str × Bool)):Bool:=tab.all fun p=>Zfc K p.1 && (match Zcz K p.1 with | some C=>kitOne K (.ref C) (.type T) == some p.2 | none=>false)
noncomputable def ZgB (K:PySem.W.Frag) (d:Str) (cs:List Str):Bool:=match Zcz K d with
 |some D=>mroIn K D (.type "BaseException") == some true && typeIn K (.ref D) == some (.type "type") && (clsIn K D).isSome && cs.all fun c=>Zfc K c && (match Zcz K c with | some C=>mroIn K C (.ref D) == some true | none=>false)
 |none=>false
theorem ZgC {K:PySem.W.Frag} {c:Str} {C:Addr} (h:nsIn K mainGlobals c=some (some (.ref C))):Zcz K c=some C:=by
 unfold Zcz
 rw[h]
theorem Zlz {α:Type} {tab:List (Str × α)} {c:Str} {b:α} (h:tab.lookup c=some b):(c,b)∈tab:=PySem.mem_of_lookup h
noncomputable def ZdL (tab:List (Str × Bool)) (f:Ev):Ev:=fun ρ M=>(f ρ M).bind fun x M1=>match x with | .err c _=>(match tab.lookup c with | some b=> .ok (.bl b) M1 | none=> .bad) | _=> .bad
section
variable {X:Cx} {ξ:XK} {e:Expr} {fa:Ev} {p pos:Pos} {tab:List (Str × Bool)}
noncomputable def Ztn (X:Cx) (cv2:V) (tab:List (Str × Bool)):List V->Hp->VK->Prop:=fun vs H Q=> ∃ (q:Addr) (C:Addr) (c:Str) (xs:List V) (b:Bool),vs=[.ref q,cv2]/\EOk H q C xs/\nsIn X.K mainGlobals c=some (some (.ref C))/\tab.lookup c=some b/\Q (.bl b) H
theorem ZlA {H:Hp} {pins:List (Addr × Obj)} {σ:L2.St} {s:Shared} {q C:Addr} {xs:List V} (I:Inv X pins σ H s) (h:EOk H q C xs): ∃ oe od,PySem.W.InstAt s.heap q oe C od:=by
 obtain ⟨oe,u,vs,h1,h2,h3,h4,h5⟩:=h
 have g:=(I.hok q _ h1).1
 have nc:PySem.W.notCls oe=true:=by unfold PySem.W.notCls;rw[h3]
 rcases h5 with ⟨_,h5⟩ | ⟨dx,fs,k1,k2,k3⟩
 ·exact ⟨oe,none,g,h2,nc,by rw[h5];trivial⟩
 ·obtain ⟨o,he⟩:=Zei (I.hok _ _ k2)
  exact ⟨oe,some o,g,h2,nc,by rw[k1];exact he⟩
theorem Zj1 {cv:Value} {cv2:V} (hv: ∀ w,Z4 cv2 w->w=cv) (ht: ∀ c b C,tab.lookup c=some b->nsIn X.K mainGlobals c=some (some (.ref C))->DQ.ExcC X.K C/\kitOne X.K (.ref C) cv=some b):Zcd X (.builtin "isinstance") (Ztn X cv2 tab):=by
 intro pins s σ H vs us Q I rs ⟨q,C,c,xs,b,e1,h1,h2,h3,h4⟩
 subst e1
 obtain ⟨u,w,rfl,ru,rw'⟩:=ZhS rs
 cases (show u=Value.ref q from ru)
 cases hv w rw'
 obtain ⟨oe,od,J⟩:=ZlA I h1
 obtain ⟨k1,k2⟩:=ht c b C h3 h2
 exact PySem.W.kia_one (DQ.ZjK k1) I.kIn J k2 (fun z=>nomatch z) fun tk=>⟨.bl b,H,I.tok tk,rfl,h4⟩
theorem ZkI {K:PySem.W.Frag} {cv:Value} (h: ∀ p∈tab,Zfc K p.1=true/\ ∃ C,Zcz K p.1=some C/\kitOne K (.ref C) cv=some p.2): ∀ c b C,tab.lookup c=some b->nsIn K mainGlobals c=some (some (.ref C))->DQ.ExcC K C/\kitOne K (.ref C) cv=some b:=by
 intro c b C h1 h2
 obtain ⟨h3,C',h4,h5⟩:=h (c,b) (Zlz h1)
 obtain ⟨C'',h6,_,h7⟩:=Zio h3
 rw[h2] at h6
 cases h6
 rw[ZgC h2] at h4
 cases h4
 exact ⟨h7,h5⟩
theorem Ziq {ty:Expr} {cv:Value} {cv2:V} (hv: ∀ w,Z4 cv2 w->w=cv) (ht: ∀ c b C,tab.lookup c=some b->nsIn X.K mainGlobals c=some (some (.ref C))->DQ.ExcC X.K C/\kitOne X.K (.ref C) cv=some b) (hty:PE X ty (tC cv2)) (hm:X.mg "isinstance"=none) (ha:DE X ξ e fa) (hg:Gl X "isinstance":=by rfl)
  (he:starEach [e,ty] X.env=(false,eval e X.env) :: starEach [ty] X.env:=by rfl) (he2:starEach [ty] X.env=(false,eval ty X.env) :: starEach [] X.env:=by rfl) (hpl:(backTo pos (starEach [ty] X.env)).any (·.1)=false:=by rfl):DE X ξ (.Call (.Name "isinstance" p) [e,ty] [] pos) (ZdL tab fa):=by
 obtain ⟨ta,ha,qa⟩:=ha
 refine ⟨_,Zd9 (Zj1 hv ht) hg hm (by with_unfolding_all rfl) (Zc6 ha (Zc6 hty ZhV he2) he) (by decide) (by decide) he hpl,fun σ ρ H α M Q s h q=> ?_⟩
 refine qa σ ρ H α M _ s h (OG.seq q fun x M1 v H1 α1 e1 h1 r1 q1=> ?_)
 cases r1 with
 | @err q C c xs ds k1 k2 k3=>
  cases et:tab.lookup c with
  |none=>simp only[et] at q1;exact q1.elim
  |some b=>
   simp only[et] at q1
   exact ⟨q,C,c,xs,b,rfl,k2,k1,et,q1 _ H1 α1 Ext.refl h1 (.bl _)⟩
 |_=>exact q1.elim
theorem Za4 {y:Str} {p2:Pos} (ht:Zaj X.K y tab=true) (gl: ∀ c v,nsIn X.K mainGlobals c=some (some v)->X.mg c=some v) (hm:X.mg "isinstance"=none) (ha:DE X ξ e fa) (hg:Gl X "isinstance":=by rfl) (hgT:Gl X y:=by rfl) (hdb:(y == ("__debug__":Str))=false:=by decide)
  (he:starEach [e,.Name y p2] X.env=(false,eval e X.env) :: starEach [.Name y p2] X.env:=by rfl) (he2:starEach [.Name y p2] X.env=(false,eval (.Name y p2) X.env) :: starEach [] X.env:=by rfl) (hpl:(backTo pos (starEach [.Name y p2] X.env)).any (·.1)=false:=by rfl):DE X ξ (.Call (.Name "isinstance" p) [e,.Name y p2] [] pos) (ZdL tab fa):=by
 unfold Zaj at ht
 split at ht
 ·rename_i D hD
  refine Ziq (cv:= .ref D) (cv2:= .ref D) (fun w z=>z) (ZkI fun q hq=> ?_) (ZhN hgT (gl y _ (Zem hD)) rfl hdb) hm ha hg he he2 hpl
  have z:=List.all_eq_true.mp ht q hq
  rw[Bool.and_eq_true] at z
  refine ⟨z.1,?_⟩
  cases hc:Zcz X.K q.1 with
  |none=>rw[hc] at z;cases z.2
  |some C=>rw[hc] at z;exact ⟨C,rfl,beq_iff_eq.mp z.2⟩
 ·cases ht
theorem ZnC {y:Str} {T:String} {p2:Pos} (ht:Zip X.K T tab=true) (hm:X.mg "isinstance"=none) (hmT:X.mg y=none) (hvT:bootBuiltins y=some (.type T)) (ha:DE X ξ e fa) (hg:Gl X "isinstance":=by rfl) (hgT:Gl X y:=by rfl) (hn:y≠"__name__":=by decide) (hdb:(y == ("__debug__":Str))=false:=by decide)
  (he:starEach [e,.Name y p2] X.env=(false,eval e X.env) :: starEach [.Name y p2] X.env:=by rfl) (he2:starEach [.Name y p2] X.env=(false,eval (.Name y p2) X.env) :: starEach [] X.env:=by rfl) (hpl:(backTo pos (starEach [.Name y p2] X.env)).any (·.1)=false:=by rfl):DE X ξ (.Call (.Name "isinstance" p) [e,.Name y p2] [] pos) (ZdL tab fa):=by
 refine Ziq (cv:= .type T) (cv2:= .ty T) (fun w z=>z) (ZkI fun q hq=> ?_) (ZhO hgT hmT hvT (v:= .ty T) rfl hn hdb) hm ha hg he he2 hpl
 have z:=List.all_eq_true.mp ht q hq
 rw[Bool.and_eq_true] at z
 refine ⟨z.1,?_⟩
 cases hc:Zcz X.K q.1 with
 |none=>rw[hc] at z;cases z.2
 |some C=>rw[hc] at z;exact ⟨C,rfl,beq_iff_eq.mp z.2⟩
theorem Zen:bootBuiltins "ValueError"=some (.type "ValueError"):=by decide +kernel
noncomputable def ZbL (c:Str) (fs:Av):Sv:=fun ρ M=>Za2 (fs ρ M) fun ds M1=>if ds.length<=1000 then .exc c M1 else .bad
theorem ZbR {x:Str} {np cpos:Pos} {a:Expr} {as:List Expr} {fs:Av} (T:Thr X ξ) (hx:Zfc X.K x=true) (gl: ∀ c v,nsIn X.K mainGlobals c=some (some v)->X.mg c=some v) (hh:X.A.handled=none) (ha:DA X ξ (a :: as) fs) (hg:Gl X x:=by rfl) (hdb:(x == ("__debug__":Str))=false:=by decide)
  (he:starEach (a :: as) X.env=(false,eval a X.env) :: starEach as X.env:=by rfl) (hpl:(backTo cpos (starEach as X.env)).any (·.1)=false:=by rfl):DS X ξ (.Raise (some (.Call (.Name x np) (a :: as) [] cpos)) none pos) (ZbL x fs):=by
 obtain ⟨ta,pa,qa⟩:=ha
 obtain ⟨C,hC,hq,_⟩:=Zio hx
 refine ⟨fun Dn σ H=>ta σ H fun vs H1=>vs.length<=sizeLine/\ξ (.ref C) none H1,fun pins s σ H Dn I h=> ?_,fun σ ρ H α M Dn s h q=> ?_⟩
 ·obtain ⟨tl,N,nm,q,bs,hdct,sn,sub,ab,col,dd,k0,k1,k2,k3,k5,mN,gC,hN,hni,TL⟩:=Zly I.ok.mod.kin hq
  refine wpAny_Raise_call_subT (C:=C) (nm:=nm) (q:=q) (N:=N) (bs:=bs) (bm:=tl) (hdct:=hdct) (sn:=sn) (sub:=sub) (ab:=ab) (col:=col) (dd:=dd) (k0:=k0) (k1:=k1) (k2:=k2) (k3:=k3) (k5:=k5) F.excBase_ValueError (mN:=mN)
   (TL.hasType F.excBase_ValueError.hasBase) hh (by rw[he];show (false || (backTo cpos (starEach as X.env)).any (·.1))=false;rw[hpl];rfl) hni (ZfK I hg (gl x _ hC) ⟨rfl,?_⟩ hdb)
  have hs:=pa cpos pins s σ H _ I h
  rw[he] at hs ⊢
  refine Calls.evalArgs_plain (wpAny_mono hs (fun us s2 ⟨vs,H1,I1,r1,z1,z2⟩=>⟨rfl,by rw[<- r1.length];exact z1,I1.bk _ _ gC,hN.keeps I1.bk,TL.keeps I1.bk,fun h' e m=> ?_⟩) fun _ _ y=>y)
  obtain ⟨t,g1,g2,g3⟩:=m.there
  exact T.mak pins σ H1 s2 h' e _ _ C I1 m.keeps m.new g1 rfl rfl rfl rfl rfl z2
 ·refine qa σ ρ H α M _ s h (FP.seq q fun ds M1 vs H1 α1 e1 h1 r1 w1=> ?_)
  by_cases hl:ds.length<=1000
  ·rw[if_pos hl] at w1
   exact ⟨by rw[r1.length];exact Zlo hl,w1 C H1 α1 hC Ext.refl h1⟩
  ·rw[if_neg hl] at w1
   exact w1.elim
end
end DL
end
section
namespace DL
open PySem PySem.Spec PyProof.Rows L2
open PySem.W (nsIn excIn tailIn nsOkIn mroIn clsIn typeIn findIn specialIn takesIn kitOne Looks looks_mroIn looks_typeIn)
theorem Zir {K:PySem.W.Frag} {e C D:Addr} {oe:Obj} {od:Option Obj} {b:Bool} {prog:Program} {w:World} {A:Around} {E:Value->Shared->Prop} {s:Shared} {Q:Bool->Shared->Prop} (X:K.In s.heap) (I:PySem.W.InstAt s.heap e oe C od)
  (hD:typeIn K (.ref D)=some (.type "type")) (hi:(clsIn K D).isSome=true) (hb:mroIn K D (.type "BaseException")=some true) (hm:mroIn K C (.ref D)=some b) (h:Q b s):wpAny (model prog w) A (excMatches (.ref e) (.ref D)) Q E s:=by
 obtain ⟨hh,g,d,tk,os⟩:=s
 have L0:=I.type (M:=model prog w)
 have L1:=looks_typeIn (M:=model prog w) X hD
 have L2:Looks (model prog w) hh (isInstance (.ref D) (.type "tuple")) false:=L1.andThen (Looks.of_pure tc_notTuple)
 have L3:Looks (model prog w) hh (isType (.ref D)) true:=by
  obtain ⟨cd,hc⟩:=Option.isSome_iff_exists.mp hi
  unfold clsIn at hc
  split at hc
  ·rename_i o1 o2 o3 o4 ho
   intro A' Q' E' s' k q
   unfold isType loadHead
   exact wpAny_bind (wpAny_loadPart (k _ _ (X _ _ ho)) (wpAny_pure q))
  ·cases hc
 have L4:=looks_mroIn (M:=model prog w) X hb
 have L5:=looks_mroIn (M:=model prog w) X hm
 have L6:Looks (model prog w) hh (isExcClass (.ref D)) true:=L3.andThen (by simpa using L4)
 unfold excMatches
 refine wpAny_bind (L2.at ?_)
 simp only[Bool.false_eq_true,if_false]
 refine wpAny_bind (m:=forIn [Value.ref D] _ _) ?_
 rw[List.forIn_cons]
 refine wpAny_bind (wpAny_bind (L6.at ?_))
 simp only[Bool.not_true,Bool.false_eq_true,if_false]
 refine wpAny_pure ?_
 dsimp only
 rw[List.forIn_nil]
 refine wpAny_pure (wpAny_bind (L0.at (wpAny_bind ?_)))
 rw[List.forIn_cons]
 refine wpAny_bind (wpAny_bind (L5.at ?_))
 cases b with
 |true=>exact wpAny_pure (wpAny_pure (wpAny_pure h))
 |false=>
  simp only[Bool.false_eq_true,if_false]
  refine wpAny_pure ?_
  dsimp only
  rw[List.forIn_nil]
  exact wpAny_pure (wpAny_pure h)
noncomputable def Cx.han (X:Cx) (e:Addr):Cx:={ X with A:=X.A.mark (some (.ref e)),calm:=false,xe:=fun _ _=>False }
noncomputable def Cx.tri (X:Cx) (pn:List (Addr × Obj)) (xe:Value->Shared->Prop) (W:List Bool) (σ:L2.St):Cx:={ X with pn:=pn,xe:=xe,fxs:=some (W,σ) }
theorem Zis {j k:Nat} {A:Around} {v:Value} (r:Room k A) (h:j<=k) (hj:j < 100):Room j (A.mark (some v)):=⟨fun z=>absurd z (Nat.not_le_of_lt hj),r.gd,(r.mono h).dp,(r.mono h).un⟩
theorem ZlB {X:Cx} {e:Addr}:Thr (Cx.han X e) E0:=⟨PassesOwn.never,fun _ _ _ _ _ _ _ ⟨_,_,_,_,_,_,_,_,_,_,_,_,_,q⟩=>q,fun _ _ _ _ _ _ _ _ _ _ _ _ _ _ _ _ _ _ q=>q⟩
section
variable {X:Cx} {pins pins' pn:List (Addr × Obj)} {σ:L2.St} {H H':Hp} {s:Shared} {xe:Value->Shared->Prop} {e:Addr}
theorem ZnD (ok:X.Ok):(Cx.han X e).Ok:=
 ⟨ok.mod,ok.kind,ok.glob,ok.blt,ok.above,ok.inj,ok.has,ok.cab,fun z=>(by cases z),ok.frames,ok.stk,ok.exf,ok.bs,ok.bsz,ok.noex,ok.exfs,ok.funs,ok.frf⟩
theorem Zj2 (ok:(Cx.han X e).Ok) (hh:X.A.handled=none):X.Ok:=
 ⟨ok.mod,ok.kind,ok.glob,ok.blt,ok.above,ok.inj,ok.has,ok.cab,fun _=>hh,ok.frames,ok.stk,ok.exf,ok.bs,ok.bsz,ok.noex,ok.exfs,ok.funs,ok.frf⟩
theorem ZnE {W:List Bool} (ok:X.Ok):(Cx.tri X pn xe W σ).Ok:=
 ⟨ok.mod,ok.kind,ok.glob,ok.blt,ok.above,ok.inj,ok.has,ok.cab,ok.hd,ok.frames,ok.stk,ok.exf,ok.bs,ok.bsz,ok.noex,ok.exfs,ok.funs,ok.frf⟩
theorem Zj3 {W:List Bool} (ok:(Cx.tri X pn xe W σ).Ok):X.Ok:=
 ⟨ok.mod,ok.kind,ok.glob,ok.blt,ok.above,ok.inj,ok.has,ok.cab,ok.hd,ok.frames,ok.stk,ok.exf,ok.bs,ok.bsz,ok.noex,ok.exfs,ok.funs,ok.frf⟩
theorem ZlC (I:Inv X pins σ H s) (q:Qd (X.A.mark (some (.ref e))) H):Inv (Cx.han X e) pins σ H s:=⟨ZnD I.ok,I.os,I.bare,I.base,I.loc,I.cell,I.free,I.freeC,I.pin,I.hok,I.len,q,I.fx⟩
theorem Zfd (I:Inv (Cx.han X e) pins σ H s) (hh:X.A.handled=none):Inv X pins σ H s:=⟨Zj2 I.ok hh,I.os,I.bare,I.base,I.loc,I.cell,I.free,I.freeC,I.pin,I.hok,I.len,.inl hh,I.fx⟩
theorem ZlD {W:List Bool} (I:Inv X pins σ H s):Inv (Cx.tri X (X.pn ++ pins) xe W σ) [] σ H s:=⟨ZnE I.ok,I.os,I.bare,I.base,I.loc,I.cell,I.free,I.freeC,fun p hp=>I.pin p (by rw[List.append_nil] at hp;exact hp),I.hok,I.len,I.qd,fun W' σ0 e j _=>by cases e;rfl⟩
theorem Zbo {W:List Bool} {σ0:L2.St} (hx:X.fxs=none) (I:Inv (Cx.tri X (X.pn ++ pins) xe W σ0) pins' σ H s):Inv X pins σ H s:=⟨Zj3 I.ok,I.os,I.bare,I.base,I.loc,I.cell,I.free,I.freeC,fun p hp=>I.pin p (List.mem_append_left _ hp),I.hok,I.len,I.qd,.free hx⟩
theorem Zfe (fxn:X.fxs=none) (I:Inv X pins σ H s) {h':Heap} {m':Str->Option Value} {t:Nat} (hn:h'.Ns X.env.locals m') (hs:Heap.SameBut X.env.locals s.heap h'):Inv X pins (List.replicate X.N.length none) H { s with heap:=h',toks:=t }:=by
 obtain ⟨m,⟨oL,es,ep,hoL,hdL,r⟩,hl⟩:=id I.loc
 have neL: ∀ b o,X.s₀.heap.get? b=some o->b≠X.env.locals:=fun b o x=>Nat.ne_of_lt (Nat.lt_of_lt_of_le (Heap.lt_size x) I.ok.above)
 refine ⟨I.ok,I.os,I.bare,⟨fun b o x n hb hx=>(hs.2 b (neL b o x)).trans (I.base.keep b o x n hb hx),fun b o x n hb hx=> ?_,I.base.free,fun b o x hx=> ?_,I.base.tups,I.base.frzs,I.base.tbls⟩,⟨m',hn,fun i x v e1 e2 e3=> ?_⟩,fun x c z=> ?_,I.free,I.freeC,fun p hp=> ?_,fun b u z=> ?_,?_,I.qd,.free fxn⟩
 ·obtain ⟨sl,z⟩:=I.base.slot b o x n hb hx
  exact ⟨sl,(hs.2 b (neL b o x)).trans z⟩
 ·obtain ⟨o',z⟩:=I.base.there b o x hx
  exact ⟨o',(hs.2 b (neL b o x)).trans z⟩
 ·rw[List.getElem?_replicate] at e2
  split at e2<;>cases e2
 ·obtain ⟨v,q⟩:=I.cell x c z
  exact ⟨v,q.sameBut hs (I.cne x c z)⟩
 ·obtain ⟨g1,g2,g3,g4,g5⟩:=I.pin p hp
  exact ⟨(hs.2 p.1 g3).trans g1,g2,g3,g4,g5⟩
 ·refine (I.hok b u z).stay (fun c w' hc q=>(hs.2 c ?_).trans q) (fun _ q=>q) fun _ _ q=>q
  rintro rfl
  rcases hc with rfl | hc
  ·rw[I.free] at z;cases z
  ·rw[I.free] at hc;cases hc
 ·rw[List.length_replicate]
theorem Zit (I:Inv X pins σ H s) {a:Addr} {o:Obj} {vs:Array Value} (hn:H a=none) (he:s.heap.get? a=some o) (hd:o.data= .fields vs) (h0:X.s₀.heap.get? a=none) (hp: ∀ p∈X.pn ++ pins,p.1≠a):Inv X pins σ (upd H a (.frz o (.own 0))) s:=by
 have ne: ∀ b u,H b=some u->b≠a:=fun b u z q=>by rw[q,hn] at z;cases z
 refine ⟨I.ok,I.os,I.bare,⟨I.base.keep,I.base.slot,fun b o' x n hx=> ?_,I.base.there,fun b xs x=> ?_,fun b o' u x=> ?_,fun b ps x=> ?_⟩,I.loc,I.cell,?_,fun x c z=> ?_,fun p hp'=> ?_,fun b u z=> ?_,I.len,I.qd.mono fun b o' u x=> ?_,I.fx⟩
 ·rw[ZI (fun z=>by rw[z,h0] at x;cases x)]
  exact I.base.free b o' x n hx
 ·have:=I.base.tups b xs x
  rw[ZI (ne b _ this)];exact this
 ·have:=I.base.frzs b o' u x
  rw[ZI (ne b _ this)];exact this
 ·obtain ⟨m1,z⟩:=I.base.tbls b ps x
  exact ⟨m1,by rw[ZI (ne b _ z)];exact z⟩
 ·rw[ZI (fun z=> ?_)]
  ·exact I.free
  ·obtain ⟨m,⟨oL,es,ep,hoL,hdL,r⟩,_⟩:=I.loc
   rw[z,he] at hoL
   cases hoL
   rw[hd] at hdL
   cases hdL
 ·rw[ZI (fun q=> ?_)]
  ·exact I.freeC x c z
  ·obtain ⟨v,oc,g1,g2⟩:=I.cell x c z
   rw[q,he] at g1
   cases g1
   rw[hd] at g2
   cases g2
 ·obtain ⟨g1,g2,g3,g4,g5⟩:=I.pin p hp'
  exact ⟨g1,by rw[ZI (hp p hp')];exact g2,g3,g4,g5⟩
 ·by_cases hb:b=a
  ·subst hb
   rw[ZC] at z
   cases z
   exact ⟨he,⟨o,he⟩⟩
  ·rw[ZI hb] at z
   exact (I.hok b u z).stay (fun _ _ _ q=>q) (fun c q=>by rw[ZI (ne c _ q)];exact q) fun c xs q=>by rw[ZI (ne c _ q)];exact q
 ·rw[ZI (ne b _ x)];exact x
theorem ZlE {h1 h2 B:Heap} (I:Inv X pins σ H s) (u:Un (frs X.stack) [] H H' s.heap h1) (hok:HOk X.prog X.w H' h1) (t1: ∀ b q,H' b=some q-> ∃ o,B.get? b=some o) (t2: ∀ b o,s.heap.get? b=some o->b ∉ frs X.stack-> ∃ o',B.get? b=some o')
  (st1:B.StaysIn h1) (st2:B.StaysIn h2) (up:h1.UpToSlots h2):Un (frs X.stack) [] H H' s.heap h2/\HOk X.prog X.w H' h2:=by
 have kB: ∀ b ob o,B.get? b=some ob->h1.get? b=some o->h2.get? b=some o:=fun b ob o e x=>by
  have z:=st1 b ob e
  rw[x] at z
  cases z
  exact st2 b _ e
 have sl: ∀ b o,s.heap.get? b=some o->H b=none->b∈frs X.stack-> ∃ sl,h2.get? b=some { o with slots:=sl }:=fun b o x n hb=>by
  obtain ⟨s2,e2⟩:=u.any x n (by simp)
  obtain ⟨_,o',g1,g2⟩:=I.stack.mem hb
  rw[x] at g1
  cases g1
  obtain ⟨s3,e3⟩:=up b _ e2 g2
  exact ⟨s3,e3⟩
 refine ⟨⟨fun b o x n hb _=> ?_,fun b o x n hb _=>sl b o x n hb,u.free,fun b o x _=> ?_,u.tups,u.frzs,u.tbls⟩,fun a o x=> ?_⟩
 ·obtain ⟨ob,g⟩:=t2 b o x hb
  exact kB b ob o g (u.keep b o x n hb (by simp))
 ·by_cases hb:b∈frs X.stack
  ·obtain ⟨s1,e1⟩:=sl b o x (I.stkFree b hb) hb
   exact ⟨_,e1⟩
  ·obtain ⟨ob,g⟩:=t2 b o x hb
   exact ⟨ob,st2 b ob g⟩
 ·refine (hok a o x).stay (fun b q hb y=> ?_) (fun _ q=>q) fun _ _ q=>q
  have tr: ∃ q,H' b=some q:=by
   rcases hb with z | z
   ·exact ⟨o,z ▸ x⟩
   ·exact ⟨_,z⟩
  obtain ⟨q',z⟩:=tr
  obtain ⟨ob,g⟩:=t1 b q' z
  exact kB b ob q g y
end
theorem Zhb {M:Model} {A:Around} {E:Value->Shared->Prop} {s:Shared} {B:Heap} {env:Env} {outer:List Env} {L e:Addr} {oe:Obj} {vs:Array Value} {Q:Unit->Shared->Prop} (hfr:A.frames=some (env :: outer)) (hf:env.frame=some L) (hl:s.heap.FunFrames B (env :: outer)) (he:s.heap.get? e=some oe) (hs:B.StaysIn s.heap) (hb:B.get? e=none) (hd:oe.data= .fields vs) (h1:vs[1]?=some .none) (h2:vs[2]?=some .none)
  (h: ∀ h',DQ.Fly B (env :: outer) e oe.cls oe.dict (rawInt L) h'->s.heap.UpToSlots h'->Q () { s with heap:=h' }):wpAny M A (noteFrame (.ref e) env) Q E s:=by
 unfold noteFrame
 simp only[hf]
 refine wpAny_bind (wpAny_field he hd h1 ?_)
 rw[if_neg (by decide)]
 exact DQ.Zc9 hfr hl hf he hs hb hd (Array.getElem?_eq_some_iff.mp h2).1 h2 h
noncomputable def kpR:List Bool->Ro->Ro
 |b :: m,x :: r=>(bif b then none else x) :: kpR m r
 |_,[]=>[]
 | [],_ :: r=>none :: kpR [] r
theorem ZfU: ∀ (W:List Bool) (ρ:Ro),(kpR W ρ).length=ρ.length
 | [],[]=>rfl
 |_ :: _,[]=>rfl
 | [],_ :: r=>by rw[kpR,List.length_cons,List.length_cons,ZfU [] r]
 |_ :: m,_ :: r=>by rw[kpR,List.length_cons,List.length_cons,ZfU m r]
theorem Ziu: ∀ (W:List Bool) (ρ:Ro) (j:Nat) (d:D),(kpR W ρ)[j]?=some (some d)->W[j]?=some false/\ρ[j]?=some (some d)
 | [],[],_,_,h=>by simp[kpR] at h
 |_ :: _,[],_,_,h=>by simp[kpR] at h
 | [],_ :: r,0,_,h=>by simp[kpR] at h
 | [],x :: r,j + 1,d,h=>by
  have:=Ziu [] r j d (by simpa [kpR] using h)
  simp at this
 |b :: m,x :: r,0,d,h=>by
  cases b with
  |true=>simp[kpR] at h
  |false=>exact ⟨rfl,by simpa [kpR] using h⟩
 |b :: m,x :: r,j + 1,d,h=>by
  have:=Ziu m r j d (by simpa [kpR] using h)
  simpa using this
noncomputable def ZlF (gb:Sv) (cs:List Str) (W:List Bool) (i:Nat) (gh:Sv):Sv:=fun ρ M=>match gb ρ M with
 | .exc c M1=>if cs.contains c=true then (match gh ((kpR W ρ).set i (some (.err c []))) M1 with
  | .ret d M2=> .ret d M2
  | .nx _ M2=> .nx (List.replicate ρ.length none) M2
  |_=> .bad) else .bad
 |o=>o
section
variable {X:Cx} {ξ:XK} {d n:Str} {cs:List Str} {i:Nat} {body suite:List Stmt} {b0:Stmt} {gb gh:Sv} {pos hpos np:Pos}
theorem ZlG {pins:List (Addr × Obj)} {σ1:L2.St} {H1 H2:Hp} {s1 s2:Shared} {h3 B:Heap} {ea C D:Addr} {c:Str} {Dn:Ends} {α1:List Addr} {M1:Sto} {fl:Value} {ρk:Ro}
  (fxn:X.fxs=none) (srk:SR X.K H2 α1 σ1 ρk) (hx:X.ex=[]) (hh:X.A.handled=none) (hN:X.N.Nodup) (hi:X.N[i]?=some n) (hl:X.env.kindOf n=some .local) (hg:Gl X d) (hdb:(d == ("__debug__":Str))=false) (hmD:X.mg d=some (.ref D)) (hD1:typeIn X.K (.ref D)=some (.type "type")) (hD2:(clsIn X.K D).isSome=true) (hD3:mroIn X.K D (.type "BaseException")=some true)
  (hC1:mroIn X.K C (.ref D)=some true) (hC2:nsIn X.K mainGlobals c=some (some (.ref C)))
  (hs: ∀ ea,DSs (Cx.han X ea) E0 (b0 :: suite) gh)
  (I1:Inv X pins σ1 H1 s1) (os:s2.os=s1.os) (bare:AllBare s2.gens) (un:Un (frs X.stack) [] H1 H2 s1.heap s2.heap) (hok:HOk X.prog X.w H2 s2.heap) (t1: ∀ b u,H2 b=some u-> ∃ o,B.get? b=some o) (t2: ∀ b o,s1.heap.get? b=some o->b ∉ frs X.stack-> ∃ o',B.get? b=some o')
  (st2:B.StaysIn s2.heap) (fly:DQ.Fly B X.stack ea (.ref C) none fl h3) (up3:s2.heap.UpToSlots h3) (hr:HR X.K H2 α1 M1)
  (fp: ∀ H3,Ext X.K H2 H3 α1 α1->FP X.K H3 α1 E0 { nx:=fun _ H'=>Dn.nx (List.replicate X.N.length none) H',rt:=Dn.rt } (gh (ρk.set i (some (.err c []))) M1)):
  wpAny (model X.prog X.w) X.A (setFlight (.ref ea) none) (fun _ s₃=>wpAny (model X.prog X.w) X.A (handleBy (.ref ea) X.env [.ExceptHandler (some (.Name d np)) (some n) (b0 :: suite) hpos]) (SP X pins Dn) X.xe s₃) X.xe { s2 with heap:=h3 }:=by
 refine DQ.Zc0 (s:={ s2 with heap:=h3 }) fly fun h4 f4 up4=> ?_
 have inv: ∀ h,B.StaysIn h->s2.heap.UpToSlots h->Inv X pins σ1 H2 { s2 with heap:=h }:=fun h st up=>by
  obtain ⟨a1,a2⟩:=ZlE I1 un hok t1 t2 st2 st up
  exact I1.call' (s':={ s2 with heap:=h }) (ch:=[]) os a1 a2 bare fun b z=>absurd z (by simp)
 have J4:=inv h4 f4.stay (up3.trans up4)
 obtain ⟨oe4,vs4,T4,oT4,ts4,g1,g2,g3,g4,g5,g6⟩:=id f4.obj
 refine wpAny_handleBy_cons (codeAny_handlers_test ?_) (by intro q;cases q)
 refine Calls.Name_function_global J4.ok.kind hg (Calls.loadGlobal_global (by rw[J4.ok.glob];exact J4.mod.glob.keeps J4.bk) hmD ?_) hdb
 refine Zir (od:=none) J4.kIn ⟨g1,g2,by unfold PySem.W.notCls;rw[g4],by rw[g3];trivial⟩ hD1 hD2 hD3 hC1 ?_
 refine codeAny_handlers_suite_as ?_
 refine DQ.Zc0 (s:={ s2 with heap:=h4 }) f4 fun h5 f5 up5=> ?_
 have J5:=inv h5 f5.stay ((up3.trans up4).trans up5)
 obtain ⟨oe,vs,T5,oT5,ts5,k1,k2,k3,k4,k5,k6⟩:=id f5.obj
 have nB:B.get? ea=none:=f5.new
 have hn:H2 ea=none:=by
  cases z:H2 ea with
  |none=>rfl
  |some u=>obtain ⟨o,q⟩:=t1 ea u z;rw[nB] at q;cases q
 have nf:ea ∉ frs X.stack:=DQ.apart f5.frames k1 k4
 have h0:X.s₀.heap.get? ea=none:=by
  cases z:X.s₀.heap.get? ea with
  |none=>rfl
  |some o=>
   have nx:ea ∉ X.ex:=by rw[hx];simp
   obtain ⟨o',q⟩:=I1.base.there ea o z nx
   obtain ⟨o2,q2⟩:=t2 ea o' q nf
   rw[nB] at q2
   cases q2
 have hp: ∀ p∈X.pn ++ pins,p.1≠ea:=fun p hp z=>by
  obtain ⟨q1,_,q3,q4,_⟩:=I1.pin p hp
  obtain ⟨o2,q2⟩:=t2 p.1 p.2 q1 (by rw[z];exact nf)
  rw[z,nB] at q2
  cases q2
 have J6:=Zit J5 hn k1 k4 h0 hp
 have J7:=ZlC (e:=ea) J6 (.inr ⟨ea,oe,.own 0,vs,rfl,ZC,k4,k5⟩)
 have il:i < X.N.length:=(List.getElem?_eq_some_iff.mp hi).1
 refine Zcb (X:=Cx.han X ea) (v:= .ref ea) J7 hN hi (.inl hl) (by unfold Cx.may;rw[show (Cx.han X ea).fxs=none from fxn]) rfl (fun s8 J8=> ?_) (.inr hl)
 have ex:Ext X.K H2 (upd H2 ea (.frz oe (.own 0))) α1 α1:=Ext.new0 hn
 have rp:Rep X.K (upd H2 ea (.frz oe (.own 0))) α1 (.ref ea) (.err c []):= .err hC2 ⟨oe,.own 0,vs,ZC,k2,k4,k5,.inl ⟨rfl,k3⟩⟩ .nil
 have sr:SR X.K (upd H2 ea (.frz oe (.own 0))) α1 (σ1.set i (some (.ref ea))) (ρk.set i (some (.err c []))):=(srk.mono ex).set i rp
 obtain ⟨ts,ps,qs⟩:=hs ea
 have run:=ps pins s8 _ _ { nx:=fun _ H'=>Dn.nx (List.replicate X.N.length none) H',rt:=Dn.rt } J8 (qs _ _ _ α1 M1 _ sr (hr.tup hn) (fp _ ex))
 refine wpAny_mono run (fun f s9 h9=> ?_) (fun _ _ z=>z.elim)
 have hcls:(X.env.scope.kind == .class || (X.env.scope.kind == .module && X.env.locals != X.env.globals))=false:=by rw[J5.ok.kind];rfl
 cases f with
 |next=>
  obtain ⟨σ',H',J9,q⟩:=h9
  have K9:=Zfd J9 hh
  obtain ⟨m,hm,_⟩:=id K9.loc
  exact wpAny_nameGoes hl hm hcls fun h' m' hn' hs'=>⟨_,H',Zfe fxn K9 hn' hs',q⟩
 |ret u=>
  obtain ⟨v,σ',H',J9,r,q⟩:=h9
  have K9:=Zfd J9 hh
  obtain ⟨m,hm,_⟩:=id K9.loc
  exact wpAny_nameGoes hl hm hcls fun h' m' hn' hs'=>⟨v,_,H',Zfe fxn K9 hn' hs',r,q⟩
 |brk=>obtain ⟨_,_,_,q⟩:=h9;exact False.elim q
 |cont=>obtain ⟨_,_,_,q⟩:=h9;exact False.elim q
theorem ZnF (hcat:ZgB X.K d cs=true) (gl: ∀ c v,nsIn X.K mainGlobals c=some (some v)->X.mg c=some v) (hh:X.A.handled=none) (hx:X.ex=[]) (hst:X.stack=X.env :: X.outer) (hf:X.env.frame=some X.env.locals) (hN:X.N.Nodup)
  (W:List Bool) (hb: ∀ pn xe σ ξ',Thr (Cx.tri X pn xe W σ) ξ'->DSs (Cx.tri X pn xe W σ) ξ' body gb) (hs: ∀ ea,DSs (Cx.han X ea) E0 (b0 :: suite) gh) (fxn:X.fxs=none:=by rfl)
  (hi:X.N[i]?=some n:=by rfl) (hl:X.env.kindOf n=some .local:=by rfl) (hg:Gl X d:=by rfl) (hdb:(d == ("__debug__":Str))=false:=by decide):
  DS X ξ (.Try body [.ExceptHandler (some (.Name d np)) (some n) (b0 :: suite) hpos] [] [] pos) (ZlF gb cs W i gh):=by
 unfold ZgB at hcat
 split at hcat
 case h_2=>cases hcat
 rename_i D hD
 simp only[Bool.and_eq_true,beq_iff_eq,List.all_eq_true] at hcat
 obtain ⟨⟨⟨hD3,hD1⟩,hD2⟩,hall⟩:=hcat
 refine ⟨fun Dn σ H=> ∃ ρ α M,SR X.K H α σ ρ/\HR X.K H α M/\FP X.K H α ξ Dn (ZlF gb cs W i gh ρ M),?_,fun σ ρ H α M Dn s h q=>⟨ρ,α,M,s,h,q⟩⟩
 rintro pins s σ H Dn I ⟨ρ,α,M,sr,hr,fp⟩
 refine wpAny_Try_except ?_
 have lenρ:ρ.length=X.N.length:=by rw[<- sr.1];exact I.len
 generalize hxe:(fun (e:Value) (s₁:Shared)=>wpAny (model X.prog X.w) X.A (noteFrame e X.env) (fun _ s₂=>wpAny (model X.prog X.w) X.A (setFlight e none) (fun _ s₃=>wpAny (model X.prog X.w) X.A (handleBy e X.env [.ExceptHandler (some (.Name d np)) (some n) (b0 :: suite) hpos]) (SP X pins Dn) X.xe s₃) X.xe s₂) X.xe s₁)=xe'
 have own:PassesOwn (model X.prog X.w) X.A X.env xe':=by
  rw[<- hxe]
  exact PassesOwn.looking
 have land: ∀ {pins':List (Addr × Obj)} {σ1:L2.St} {H1 H2:Hp} {s1 s2:Shared} {h3 B:Heap} {ea C:Addr} {fl:Value},Inv (Cx.tri X (X.pn ++ pins) xe' W σ) pins' σ1 H1 s1->s2.os=s1.os->AllBare s2.gens->Un (frs X.stack) [] H1 H2 s1.heap s2.heap->HOk X.prog X.w H2 s2.heap->
   (∀ b u,H2 b=some u-> ∃ o,B.get? b=some o)->(∀ b o,s1.heap.get? b=some o->b ∉ frs X.stack-> ∃ o',B.get? b=some o')->B.StaysIn s2.heap->DQ.Fly B X.stack ea (.ref C) none fl h3->s2.heap.UpToSlots h3->
   (∃ c M1 α',gb ρ M= .exc c M1/\nsIn X.K mainGlobals c=some (some (.ref C))/\Ext X.K H H2 α α'/\HR X.K H2 α' M1)->
   wpAny (model X.prog X.w) X.A (setFlight (.ref ea) none) (fun _ s₃=>wpAny (model X.prog X.w) X.A (handleBy (.ref ea) X.env [.ExceptHandler (some (.Name d np)) (some n) (b0 :: suite) hpos]) (SP X pins Dn) X.xe s₃) X.xe { s2 with heap:=h3 }:=by
  intro pins' σ1 H1 H2 s1 s2 h3 B ea C fl I1 os bare un hok t1 t2 st2 fly up3 ⟨c,M1,α',eg,hC2,ex,hr1⟩
  unfold ZlF at fp
  simp only[eg] at fp
  by_cases hc:cs.contains c=true
  ·rw[if_pos hc] at fp
   have hm:=hall c (List.contains_iff_mem.mp hc)
   rw[ZgC hC2] at hm
   refine ZlG (ρk:=kpR W ρ) fxn ?_ hx hh hN hi hl hg hdb (gl d _ (Zem hD)) hD1 hD2 hD3 (by simpa using hm.2) hC2 hs (Zbo fxn I1) os bare un hok t1 t2 st2 fly up3 hr1 fun H3 ex3=> ?_
   ·refine ⟨by rw[ZfU,lenρ];exact I1.len,fun j dd e=> ?_⟩
    obtain ⟨w1,w2⟩:=Ziu W ρ j dd e
    obtain ⟨v,v1,v2⟩:=sr.2 j dd w2
    exact ⟨v,(I1.fx W σ rfl j w1).trans v1,Rep.mono ex v2⟩
   rw[lenρ] at fp
   cases er:gh ((kpR W ρ).set i (some (.err c []))) M1 with
   |ret dd M2=>rw[er] at fp;exact FP.ext (o:= .ret dd M2) fp (ex.trans ex3)
   |nx ρ2 M2=>
    rw[er] at fp
    intro σ' H' α'' e1 e2 e3
    refine fp _ H' α'' ((ex.trans ex3).trans e1) e2 ⟨by rw[List.length_replicate,List.length_replicate],fun j dd z=> ?_⟩
    rw[List.getElem?_replicate] at z
    split at z<;>cases z
   |brk ρ2 M2=>rw[er] at fp;exact fp.elim
   |cnt ρ2 M2=>rw[er] at fp;exact fp.elim
   |exc x M2=>rw[er] at fp;exact fp.elim
   |bad=>rw[er] at fp;exact fp.elim
  ·rw[if_neg hc] at fp
   exact fp.elim
 have T:Thr (Cx.tri X (X.pn ++ pins) xe' W σ) (fun cls dct H'=> ∃ C c M1 α',cls= .ref C/\dct=none/\gb ρ M= .exc c M1/\nsIn X.K mainGlobals c=some (some (.ref C))/\Ext X.K H H' α α'/\HR X.K H' α' M1):=by
  refine ⟨own,fun pins' σ1 H1 s1 e s2 I1 h=> ?_,fun pins' σ1 H1 s1 h' e oe vs C I1 k hn he hc hdi hd v1 v2 q=> ?_⟩
  ·obtain ⟨ea,C,dct,B,H2,rfl,os,bare,un,hok,fl,t1,t2,C',c,M1,α',q1,q2,q3,q4,q5,q6⟩:=h
   cases q1
   subst q2
   show xe' (.ref ea) s2
   rw[<- hxe]
   have fl':DQ.Fly B (X.env :: X.outer) ea (.ref C) none .none s2.heap:=hst ▸ fl
   refine DQ.Zgv (by rw[<- hst];exact I1.ok.frames) hf fl' fun h3 f3 up=> ?_
   exact land I1 os bare un hok t1 t2 fl.stay (hst ▸ f3) up ⟨c,M1,α',q3,q4,q5,q6⟩
  ·obtain ⟨C',c,M1,α',q1,q2,q3,q4,q5,q6⟩:=q
   cases q1
   show xe' (.ref e) { s1 with heap:=h' }
   rw[<- hxe]
   have I2:=Zbo fxn I1
   have st:=I2.stack
   have t2: ∀ b o,s1.heap.get? b=some o->b ∉ frs X.stack-> ∃ o',(Ze3 s1.heap (frs X.stack)).get? b=some o':=fun b o x n=>⟨o,Zc1 x n⟩
   have hs':(Ze3 s1.heap (frs X.stack)).StaysIn h':=fun b o x=>k b o (Zdd x).1
   have hl':h'.FunFrames (Ze3 s1.heap (frs X.stack)) X.stack:=(Zdc st fun b hb=>Ze4 hb).of_keeps fun b o x _=>⟨o,k b o x,rfl⟩
   have hb':(Ze3 s1.heap (frs X.stack)).get? e=none:=by
    cases z:(Ze3 s1.heap (frs X.stack)).get? e with
    |none=>rfl
    |some o=>
     have:=(Zdd z).1
     rw[hn] at this
     cases this
   have t1: ∀ b u,H1 b=some u-> ∃ o,(Ze3 s1.heap (frs X.stack)).get? b=some o:=fun b u x=>by
    obtain ⟨o,g⟩:=Zei (I2.hok b u x)
    exact ⟨o,Zc1 g fun z=>by rw[I2.stkFree b z] at x;cases x⟩
   generalize Ze3 s1.heap (frs X.stack)=B at t2 hs' hl' hb' t1
   refine Zhb (s:={ s1 with heap:=h' }) (by rw[<- hst];exact I2.ok.frames) hf (hst ▸ hl') he hs' hb' hd v1 v2 fun h3 f3 up=> ?_
   rw[hc,hdi] at f3
   exact land (s2:={ s1 with heap:=h' }) I1 rfl I2.bare (Un.kept k) (I2.hok.kept k) t1 t2 hs' (hst ▸ f3) up ⟨c,M1,α',q3,q4,q5,q6⟩
 obtain ⟨tb,pb,qb⟩:=hb _ _ _ _ T
 have fpb:FP X.K H α (fun cls dct H'=> ∃ C c M1 α',cls= .ref C/\dct=none/\gb ρ M= .exc c M1/\nsIn X.K mainGlobals c=some (some (.ref C))/\Ext X.K H H' α α'/\HR X.K H' α' M1) Dn (gb ρ M):=by
  unfold ZlF at fp
  cases eg:gb ρ M with
  |exc c M1=>exact fun C H' α' n1 e1 h1=>⟨C,c,M1,α',rfl,rfl,rfl,n1,e1,h1⟩
  |nx ρ2 M2=>rw[eg] at fp;exact fp
  |ret d2 M2=>rw[eg] at fp;exact fp
  |brk ρ2 M2=>rw[eg] at fp;exact fp
  |cnt ρ2 M2=>rw[eg] at fp;exact fp
  |bad=>rw[eg] at fp;exact fp
 have run:=pb [] s σ H Dn (ZlD I) (qb σ ρ H α M Dn sr hr fpb)
 refine wpAny_mono run (fun f s1 h1=> ?_) (fun e s1 h1=> ?_)
 ·cases f with
  |next=>
   obtain ⟨σ',H',J,q⟩:=h1
   exact wpAny_execs_nil ⟨σ',H',Zbo fxn J,q⟩
  |brk=>obtain ⟨σ',H',J,q⟩:=h1;exact ⟨σ',H',Zbo fxn J,q⟩
  |cont=>obtain ⟨σ',H',J,q⟩:=h1;exact ⟨σ',H',Zbo fxn J,q⟩
  |ret u=>obtain ⟨v,σ',H',J,r,q⟩:=h1;exact ⟨v,σ',H',Zbo fxn J,r,q⟩
 ·exact h1
end
theorem Zw {k:Nat} {A:Around} {env:Env} (hr:Room k (A.deeper env)) (h:100<=k):A.handled.isNone=true:=by
 have e:A.handled=none:=hr.hd h
 rw[e]
 rfl
end DL
end
section
namespace DL
open PySem PySem.Spec PyProof.Rows L2
noncomputable abbrev Me:=D->List D->Sto->Out D
noncomputable def MO (X:Cx) (ξ:XK) (r:V->List V->Hp->VK->Prop) (g:Me):Prop:= ∀ H α M v vs x ds Q,HR X.K H α M->Rep X.K H α v x->Reps X.K H α vs ds->OP X.K H α ξ Q (g x ds M)->r v vs H Q
theorem HR.wrE {K:PySem.W.Frag} {H:Hp} {α:List Addr} {M:Sto} {n:Nat} {p:Addr} {xs ys:List V} {ds:List D} (h:HR K H α M) (e:RefK H α 0 n p) (hp:H p=some (.lst ys)) (r:Reps K H α xs ds):Ext K H (upd H p (.lst xs)) α α/\HR K (upd H p (.lst xs)) α (M.set n (.lst ds)):=
 ⟨Ext.wr hp,h.wr e hp r⟩
section
variable {X:Cx} {ξ:XK} {o e:Expr} {es:List Expr} {fo fa:Ev} {fs:Av} {name:Str} {apos cpos pos:Pos} {T id:String} {r:V->List V->Hp->VK->Prop} {g:Me}
noncomputable def ZlH (x:D) (M:Sto):Bool:=match x with | .ref n=>M[n]?.isSome | _=>false
noncomputable def Zff (g:Me) (fo:Ev) (fs:Av):Ev:=fun ρ M=>(fo ρ M).bind fun x M1=>if ZlH x M1=true then (fs ρ M1).bind fun ds M2=>g x ds M2 else .bad
theorem ZlI {K:PySem.W.Frag} {H:Hp} {α:List Addr} {M:Sto} {v:V} {x:D} (h:HR K H α M) (rx:Rep K H α v x) (k:ZlH x M=true):tyV K "list" v H:=by
 cases rx with
 | @ref p n hp=>
  obtain ⟨xs,g⟩:=h.some_at hp
  exact .inl ⟨rfl,_,SqL.of g⟩
 |_=>cases k
theorem Ziv (slot:Slot "list" name id) (hty:typeOf (.builtin id)=pure (.type "method_descriptor")) (hm:MtR X id r) (hf:MO X ξ r g) (ho:DE X ξ o fo) (ha:DA X ξ (e :: es) fs)
  (hbase:attributeBase o name X.env (eval o X.env)=eval o X.env:=by rfl)
  (hfew:((backTo cpos (starEach (e :: es) X.env)).all (fun x=> !x.1) && (backToKw cpos (keywordEach [] X.env)).all (fun x=>x.1.isSome)
   && decide ((e :: es).length + ([]:List Keyword).length + (if ([]:List Keyword).isEmpty then 0 else 1) < 30))=true:=by rfl)
  (hline:(apos.endLine == cpos.line)=true:=by rfl) (hs:starEach (e :: es) X.env=(false,eval e X.env) :: starEach es X.env:=by rfl) (hplain:(backTo cpos (starEach es X.env)).any (·.1)=false:=by rfl):
  DE X ξ (.Call (.Attribute o name apos) (e :: es) [] cpos) (Zff g fo fs):=by
 obtain ⟨to,po,qo⟩:=ho
 obtain ⟨ta,pa,qa⟩:=ha
 refine ⟨_,Zna PySem.F.plainAttrs_list slot hty hm po pa hbase hfew hline hs hplain,fun σ ρ H α M Q s h q=> ?_⟩
 refine qo σ ρ H α M _ s h (OG.seq q fun x M1 v H1 α1 e1 h1 r1 q1=> ?_)
 by_cases k:ZlH x M1=true
 ·rw[if_pos k] at q1
  exact ⟨ZlI h1 r1 k,qa σ ρ H1 α1 M1 _ (s.mono e1) h1 (OG.seq q1 fun ds M2 vs H2 α2 e2 h2 r2 q2=>hf H2 α2 M2 v vs x ds Q h2 (Rep.mono e2 r1) r2 q2)⟩
 ·rw[if_neg k] at q1
  exact q1.elim
noncomputable def mApp:Me:=fun x ds M=>match x,ds with
 | .ref n,[d]=>(match M[n]? with | some (.lst xs)=>if xs.length < 10000000 then .ok .non (M.set n (.lst (xs ++ [d]))) else .bad | none=> .bad)
 |_,_=> .bad
theorem ZnG:MO X ξ rAppend mApp:=by
 intro H α M v vs x ds Q h rx rs q
 cases rx with
 | @ref p n hp=>
  match rs with
  | .nil=>exact q.elim
  | .cons _ (.cons _ _)=>exact q.elim
  | .cons (v:=u) (d:=d) ru .nil=>
   cases em:M[n]? with
   |none=>simp only[mApp,em] at q;exact q.elim
   |some so=>
    cases so with
    |lst es=>
     obtain ⟨xs,g1,g2⟩:=h.at hp em
     by_cases c:es.length < 10000000
     ·simp only[mApp,em,if_pos c] at q
      obtain ⟨k1,k2⟩:=h.wrE hp g1 (g2.append (.cons ru .nil))
      exact ⟨p,xs,u,rfl,rfl,g1,by rw[g2.length];exact Nat.lt_of_lt_of_le c (by decide),q _ _ α k1 k2 .non⟩
     ·simp only[mApp,em,if_neg c] at q
      exact q.elim
 |_=>cases rs<;>exact q.elim
noncomputable def Zr6:Me:=fun x ds M=>match x,ds with
 | .ref n,[]=>(match M[n]? with | some (.lst _)=> .ok .non (M.set n (.lst [])) | none=> .bad)
 |_,_=> .bad
noncomputable def mExt:Me:=fun x ds M=>match x,ds with
 | .ref n,[.ref m]=>(match M[n]?,M[m]? with | some (.lst xs),some (.lst ys)=>if xs.length + ys.length<=10000000 then .ok .non (M.set n (.lst (xs ++ ys))) else .bad | _,_=> .bad)
 |_,_=> .bad
theorem Ziw {x:D} {l:List D} {M:Sto} (h:mExt x l M≠ .bad): ∃ n m,x= .ref n/\l=[.ref m]:=by
 unfold mExt at h
 split at h
 ·rename_i n m;exact ⟨n,m,rfl,rfl⟩
 ·exact absurd rfl h
theorem ZkJ:MO X ξ rExtend mExt:=by
 intro H α M v vs x ds Q h rx rs q
 obtain ⟨n,m,rfl,rfl⟩:=Ziw (x:=x) (l:=ds) (M:=M) fun z=>by rw[z] at q;exact q.elim
 cases rx with
 | @ref p n hp=>
 cases rs with
 |cons ru rs=>
 cases rs
 cases ru with
 | @ref p2 m hp2=>
 cases em:M[n]? with
 |none=>simp only[mExt,em] at q;exact q.elim
 |some so=>
 cases em2:M[m]? with
 |none=>cases so;simp only[mExt,em,em2] at q;exact q.elim
 |some so2=>
 cases so with
 |lst es=>
 cases so2 with
 |lst es2=>
 obtain ⟨xs,g1,g2⟩:=h.at hp em
 obtain ⟨ys,g3,g4⟩:=h.at hp2 em2
 by_cases c:es.length + es2.length<=10000000
 ·simp only[mExt,em,em2,if_pos c] at q
  obtain ⟨k1,k2⟩:=h.wrE hp g1 (g2.append g4)
  exact ⟨p,p2,xs,ys,rfl,rfl,g1,g3,by rw[g2.length,g4.length];exact Nat.le_trans c (by decide),q _ _ α k1 k2 .non⟩
 ·simp only[mExt,em,em2,if_neg c] at q
  exact q.elim
theorem ZaP (ho:DE X ξ o fo) (ha:DE X ξ e fa) (hbase:attributeBase o "append" X.env (eval o X.env)=eval o X.env:=by rfl)
  (hfew:((backTo cpos (starEach [e] X.env)).all (fun x=> !x.1) && (backToKw cpos (keywordEach [] X.env)).all (fun x=>x.1.isSome)
   && decide ([e].length + ([]:List Keyword).length + (if ([]:List Keyword).isEmpty then 0 else 1) < 30))=true:=by rfl)
  (hline:(apos.endLine == cpos.line)=true:=by rfl) (hs:starEach [e] X.env=(false,eval e X.env) :: starEach [] X.env:=by rfl) (hplain:(backTo cpos (starEach [] X.env)).any (·.1)=false:=by rfl):
  DE X ξ (.Call (.Attribute o "append" apos) [e] [] cpos) (Zff mApp fo (Zc fa aNil)):=Ziv PySem.F.slot_list_append PySem.F.type_list_append ZeX ZnG ho (Za ha Zd hs) hbase hfew hline hs hplain
noncomputable def DO (X:Cx) (ξ:XK) (e:Option Expr) (f:Ro->Sto->Out (Option Int)):Prop:= ∃ t:TO,PO X e t/\ ∀ σ ρ H α M (Q:Option Int->Hp->Prop),SR X.K H α σ ρ->HR X.K H α M->OG X.K (fun _ _ v d=>v=d) H α ξ Q (f ρ M)->t σ H Q
noncomputable def oNo:Ro->Sto->Out (Option Int):=fun _ M=> .ok none M
noncomputable def oSo (f:Ev):Ro->Sto->Out (Option Int):=fun ρ M=>(f ρ M).bind fun x M1=>match x with | .int i=> .ok (some i) M1 | _=> .bad
theorem Zdg:DO X ξ none oNo:=⟨_,Zlf,fun σ ρ H α M Q s h q=>q none H α Ext.refl h rfl⟩
theorem Zdh (ha:DE X ξ e fa):DO X ξ (some e) (oSo fa):=by
 obtain ⟨ta,pa,qa⟩:=ha
 refine ⟨_,Zlg pa,fun σ ρ H α M Q s h q=> ?_⟩
 refine qa σ ρ H α M _ s h (OG.seq q fun x M1 v H1 α1 e1 h1 r1 q1=> ?_)
 cases r1 with
 |int i=>exact ⟨i,rfl,q1 (some i) H1 α1 Ext.refl h1 rfl⟩
 |_=>exact q1.elim
noncomputable def ZfV (xs:List D) (lo hi:Option Int):List D:=(xs.drop (HT.sIx xs.length 0 lo)).take (HT.sIx xs.length xs.length hi - HT.sIx xs.length 0 lo)
theorem Reps.drop {K:PySem.W.Frag} {H:Hp} {α:List Addr}: ∀ (n:Nat) {vs:List V} {ds:List D},Reps K H α vs ds->Reps K H α (vs.drop n) (ds.drop n)
 |0,_,_,h=>h
 |_ + 1,_,_,.nil=> .nil
 |n + 1,_,_,.cons _ t=>Reps.drop n t
theorem Reps.take {K:PySem.W.Frag} {H:Hp} {α:List Addr}: ∀ (n:Nat) {vs:List V} {ds:List D},Reps K H α vs ds->Reps K H α (vs.take n) (ds.take n)
 |0,_,_,_=> .nil
 |_ + 1,_,_,.nil=> .nil
 |n + 1,_,_,.cons r t=> .cons r (Reps.take n t)
theorem Reps.cut {K:PySem.W.Frag} {H:Hp} {α:List Addr} {vs:List V} {ds:List D} (r:Reps K H α vs ds) (lo hi:Option Int):Reps K H α (Zkw vs lo hi) (ZfV ds lo hi):=by
 unfold Zkw ZfV
 rw[r.length]
 exact (r.drop _).take _
noncomputable def eSl (f:Ev) (lo hi:Ro->Sto->Out (Option Int)):Ev:=fun ρ M=>(f ρ M).bind fun x M1=>(lo ρ M1).bind fun l M2=>(hi ρ M2).bind fun u M3=>match x with
 | .ref n=>(match M3[n]? with | some (.lst xs)=> .ok (.ref M3.length) (M3 ++ [.lst (ZfV xs l u)]) | none=> .bad)
 | .rol xs=> .ok (.ref M3.length) (M3 ++ [.lst (ZfV xs l u)])
 | .tup xs=>if HT.sIx xs.length 0 l=0/\HT.sIx xs.length xs.length u=xs.length then .bad else .ok (.tup (ZfV xs l u)) M3
 |_=> .bad
theorem Zdi {lo hi:Option Expr} {fl fh:Ro->Sto->Out (Option Int)} {p2:Pos} (he:DE X ξ e fa) (hl:DO X ξ lo fl) (hh:DO X ξ hi fh):DE X ξ (.Subscript e (.Slice lo hi none p2) pos) (eSl fa fl fh):=by
 obtain ⟨ta,pa,qa⟩:=he
 obtain ⟨tl,pl,ql⟩:=hl
 obtain ⟨th,ph,qh⟩:=hh
 refine ⟨_,ZjC (SlR.or Zll Zm7) pa pl ph,fun σ ρ H α M Q s h q=> ?_⟩
 refine qa σ ρ H α M _ s h (OG.seq q fun x M1 v H1 α1 e1 h1 r1 q1=> ?_)
 refine ql σ ρ H1 α1 M1 _ (s.mono e1) h1 (OG.seq q1 fun l M2 l' H2 α2 e2 h2 r2 q2=> ?_)
 refine qh σ ρ H2 α2 M2 _ ((s.mono e1).mono e2) h2 (OG.seq q2 fun u M3 u' H3 α3 e3 h3 r3 q3=> ?_)
 cases r2
 cases r3
 cases Rep.mono e3 (Rep.mono e2 r1) with
 | @ref p n hp=>
  cases em:M3[n]? with
  |none=>simp only[em] at q3;exact q3.elim
  |some so=>
   cases so with
   |lst es=>
    simp only[em] at q3
    obtain ⟨xs,g1,g2⟩:=h3.at hp em
    exact .inl ⟨p,xs,rfl,SqL.of g1,fun a ha=>q3 _ _ (α3 ++ [a]) (Ext.new ha) (h3.new ha (g2.cut l u)) (.ref ⟨h3.last a,Kn.lst ZC⟩)⟩
 | @rol p xs ds hp rp=>
  have q4:OP X.K H3 α3 ξ Q (.ok (.ref M3.length) (M3 ++ [.lst (ZfV ds l u)])):=q3
  exact .inl ⟨p,xs,rfl,hp.sq,fun a ha=>q4 _ _ (α3 ++ [a]) (Ext.new ha) (h3.new ha (rp.cut l u)) (.ref ⟨h3.last a,Kn.lst ZC⟩)⟩
 | @tup p xs ds hp rp=>
  by_cases c:HT.sIx ds.length 0 l=0/\HT.sIx ds.length ds.length u=ds.length
  ·simp only[if_pos c] at q3
   exact q3.elim
  ·simp only[if_neg c] at q3
   exact .inr ⟨p,xs,rfl,(SqT.of hp),by rw[rp.length];exact c,fun a ha=>q3 _ _ α3 (Ext.new0 ha) (h3.tup ha) (.tup ZC (Reps.mono (Ext.new0 ha) (rp.cut l u)))⟩
 |_=>exact q3.elim
noncomputable def Zqh (M:Sto) (x:D):Option (List D):=match x with | .con _=>none | y=>Ze2 M y
theorem Zix {M:Sto} {x:D} {ys:List D} (e:Zqh M x=some ys):Ze2 M x=some ys/\ ∀ zs,x≠ .con zs:=by
 cases x with
 |con _=>cases e
 |_=>exact ⟨e,fun _ z=>by cases z⟩
noncomputable def bTup:List D->Sto->Out D:=fun ds M=>match ds with
 | [x]=>match Zqh M x with | some xs=> .ok (.tup xs) M | none=> .bad
 |_=> .bad
theorem ZnH:CO X ξ (fun xs H Q=> ∃ p ys,xs=[.ref p]/\((SqL X.K H p ys/\ ∀ l,H l=none->Q (.ref l) (upd H l (.tup ys)))\/(SqT X.K H p ys/\Q (.ref p) H))) bTup:=by
 intro H α M vs ds Q h rs q
 unfold bTup at q
 match rs with
 | .nil=>exact q.elim
 | .cons _ (.cons _ _)=>exact q.elim
 | .cons (d:=x) r .nil=>
  cases e:Zqh M x with
  |none=>simp only[e] at q;exact q.elim
  |some ys=>
   simp only[e] at q
   obtain ⟨p,xs,rfl,h2,h3⟩:=ZjR h r (Zix e).1 (Zix e).2
   rcases h2 with h2 | h2
   ·exact ⟨p,xs,rfl,.inl ⟨h2,fun l hl=>q _ _ α (Ext.new0 hl) (h.tup hl) (.tup ZC (Reps.mono (Ext.new0 hl) h3))⟩⟩
   ·exact ⟨p,xs,rfl,.inr ⟨SqT.of h2,q _ H α Ext.refl h (.tup h2 h3)⟩⟩
noncomputable def iR2 (fs:Av):Ro->Sto->Out Src:=fun ρ M=>(fs ρ M).bind fun ds M1=>match ds with
 | [.int i,.int j]=>if -(2 ^ 62)<=i/\i < 2 ^ 62/\ -(2 ^ 62)<=j/\j < 2 ^ 62 then .ok (.pur (ZbD i (j - i).toNat)) M1 else .bad
 |_=> .bad
theorem Ziy {tg a b:Expr} {p:Pos} (hm:X.mg "range"=none) (ha:DA X ξ [a,b] fs) (hgl:Gl X "range":=by rfl) (hs:starEach [a,b] X.env=[(false,eval a X.env),(false,eval b X.env)]:=by rfl) (hs2:starEach [b] X.env=[(false,eval b X.env)]:=by rfl):DI X ξ tg (.Call (.Name "range" p) [a,b] [] pos) (iR2 fs):=by
 obtain ⟨ta,pa,qa⟩:=ha
 refine ⟨_,ZeR hgl hm pa hs hs2,fun σ ρ H α M R s hh q=>qa σ ρ H α M _ s hh (OG.seq q fun ds M1 vs H1 α1 e1 h1 r1 w1=> ?_)⟩
 split at w1
 ·rename_i i j
  cases r1 with
  |cons r t=>
   cases t with
   |cons r' t=>
    cases t
    cases r
    cases r'
    by_cases c: -(2 ^ 62)<=i/\i < 2 ^ 62/\ -(2 ^ 62)<=j/\j < 2 ^ 62
    ·simp only[if_pos c] at w1
     exact ⟨i,j,rfl,c,w1 _ H1 α1 Ext.refl h1 Zd0⟩
    ·simp only[if_neg c] at w1
     exact w1.elim
 ·exact w1.elim
end
noncomputable def eRv (f:Ev):Ev:=fun ρ M=>(f ρ M).bind fun x M1=>match x with
 | .tup xs=> .ok (.tup xs.reverse) M1
 | .ref n=>(match M1[n]? with | some (.lst xs)=> .ok (.ref M1.length) (M1 ++ [.lst xs.reverse]) | none=> .bad)
 | .rol xs=> .ok (.ref M1.length) (M1 ++ [.lst xs.reverse])
 |_=> .bad
end DL
end
section
namespace DL
open PySem PySem.Spec PyProof.Rows L2
noncomputable def ZgD (tg:Tg) (g:Sv) (src:Src):Nat->Nat->Ro->Sto->Fl
 |f,i,ρ,M=>match nxt src i M with
  |none=> .bad
  |some none=> .nx ρ M
  |some (some d)=>(match f with
   |0=> .bad
   |f + 1=>(match tg d ρ with
    |none=> .bad
    |some ρ1=>(match g ρ1 M with
     | .nx ρ2 M2=>ZgD tg g src f (i + 1) ρ2 M2
     | .cnt ρ2 M2=>ZgD tg g src f (i + 1) ρ2 M2
     | .brk ρ2 M2=> .nx ρ2 M2
     |o=>o)))
noncomputable def Zeo (tg:Tg) (fi:Ro->Sto->Out Src) (g:Sv):Sv:=fun ρ M=>Za2 (fi ρ M) fun src M1=>ZgD tg g src (cnt src M1) 0 ρ M1
section
variable {X:Cx} {ξ:XK} {tg iter a b:Expr} {gt:Tg} {fi:Ro->Sto->Out Src} {g:Sv} {body:List Stmt} {f fa fb:Ev} {fs:Av} {p pos:Pos}
theorem Zdj (hp:PassesOwn (model X.prog X.w) X.A X.env X.xe) (hi:DI X ξ tg iter fi) (hg:DG X tg gt) (hb:DSs X ξ body g) (hf: ∀ x,foldedSetIterable iter X.env x=pure x:=by intro _;rfl):DS X ξ (.For tg iter body [] pos) (Zeo gt fi g):=by
 obtain ⟨wi,pi,qi⟩:=hi
 obtain ⟨tt,pt,qt⟩:=hg
 obtain ⟨tb,pb,qb⟩:=hb
 refine ⟨_,Zgs hp pi pt pb hf,fun σ ρ H α M Dn s hh w=>qi σ ρ H α M _ s hh (FP.seq w fun src M1 J H1 α1 e1 h1 sc w1=> ?_)⟩
 generalize eo:ZgD gt g src (cnt src M1) 0 ρ M1=o at w1
 refine ⟨fun i m σ' H'=> ∃ ρ' α' M',Ext X.K H1 H' α1 α'/\SR X.K H' α' σ' ρ'/\HR X.K H' α' M'/\ZgD gt g src m i ρ' M'=o,⟨cnt src M1,ρ,α1,M1,Ext.refl,s.mono e1,h1,eo⟩,?_⟩
 rintro i m σ' H' ⟨ρ',α',M',ex,sr,hr,en⟩
 have s5:=sc i H' α' M' ex hr
 unfold ZgD at en
 cases en1:nxt src i M' with
 |none=>rw[en1] at en;cases en;exact w1.elim
 |some od=>
  rw[en1] at en s5
  cases od with
  |none=>cases en;exact .inl ⟨s5,w1 σ' H' α' ex hr sr⟩
  |some d=>
   obtain ⟨go,yl⟩:=s5
   cases m with
   |zero=>cases en;exact w1.elim
   |succ m=>
    simp only at en
    refine .inr ⟨go,fun σ2 H2=> ∃ ρ' α' M',Ext X.K H1 H2 α1 α'/\SR X.K H2 α' σ2 ρ'/\HR X.K H2 α' M'/\ZgD gt g src m (i + 1) ρ' M'=o,fun σ2 H2 z=>⟨m,Nat.lt_succ_self m,z⟩,fun x H2 y=> ?_⟩
    obtain ⟨ex7,hr7,rp7⟩:=yl x H2 y
    exact ZjW (tg:=tg) w1 qt qb (ex.trans ex7) (sr.mono ex7) hr7 rp7 en (fun σ' H' z=>z)
end
theorem Ziz {X:Cx} {pins:List (Addr × Obj)} {σ:L2.St} {H:Hp} {s:Shared} {h':Heap} {t':Nat} {ch:List Addr} (I:Inv X pins σ H s) (k: ∀ b o,b ∉ ch->s.heap.get? b=some o->h'.get? b=some o) (hf: ∀ b∈ch,ZdS X pins H b):Inv X pins σ H { s with heap:=h',toks:=t' }:=by
 have nit: ∀ b u,H b=some u->b ∉ ch:=fun b u e z=>by rw[(hf b z).1] at e;cases e
 have hL:X.env.locals ∉ ch:=fun z=>(hf _ z).2.1 rfl
 refine I.step (g':=s.gens) (d':=s.drawn) (ch:=ch) (fun b hb=> ?_) (fun b o _ _ hc e _=>k b o hc e) (fun b o _ _ hc e _=>⟨o.slots,k b o hc e⟩) (fun _ _ _ _ n=>n)
  (fun b o hc e=>⟨o,k b o hc e⟩) (fun _ _ e=>e) (fun _ _ _ e=>e) (fun b ps e=>⟨#[],by rw[e];simp⟩) (fun m hm=> ?_) (fun b u e=> ?_) I.bare
 ·obtain ⟨_,z1,_,z3,z4,z5⟩:=hf b hb
  exact ⟨z3,z1,z4,z5⟩
 ·obtain ⟨o,es,ep,ho,r⟩:=hm
  exact ⟨o,es,ep,k _ o hL ho,r⟩
 ·refine (I.hok b u e).stay (fun c v hc q=>k c v ?_ q) (fun _ q=>q) fun _ _ q=>q
  rcases hc with z | z
  ·rw[z];exact nit b u e
  ·exact nit c _ z
theorem ZkK {X:Cx} {pins:List (Addr × Obj)} {σ:L2.St} {H:Hp} {s:Shared} {h':Heap} {t':Nat} {ch:List Addr} {vs:List V} {us:List Value} (I:Inv X pins σ H s) (hf: ∀ b∈ch,ZdS X pins H b) (hlt: ∀ b∈ch,b < s.heap.objs.size) (rv:Z8 vs us) (hz:vs.length<=sizeLine)
  (k: ∀ b o,b ∉ ch->s.heap.get? b=some o->h'.get? b=some o) (ht:h'.get? s.heap.objs.size=some { cls:= .type "tuple",data:= .seq us.toArray }):
  Inv X pins σ (upd H s.heap.objs.size (.tup vs)) { s with heap:=h',toks:=t' }/\H s.heap.objs.size=none/\ ∀ b∈ch,upd H s.heap.objs.size (.tup vs) b=none:=by
 have fr:H s.heap.objs.size=none:=I.hok.fresh (Nat.le_refl _)
 have hn: ∀ b∈ch,upd H s.heap.objs.size (.tup vs) b=none:=fun b hb=>by rw[ZI (Nat.ne_of_lt (hlt b hb))];exact (hf b hb).1
 have I1:Inv X pins σ (upd H s.heap.objs.size (.tup vs)) { s with heap:=s.heap.push { cls:= .type "tuple",data:= .seq us.toArray },toks:=t' }:=
  I.laid (t':=t') (o:= .tup vs) (fun _ _ q=>Heap.get?_push_of_some _ q) (Nat.le_refl _) ⟨hz,us,rv,_,Heap.get?_push_size _ rfl,rfl,_,rfl⟩
 refine ⟨Ziz (s:={ s with heap:=s.heap.push { cls:= .type "tuple",data:= .seq us.toArray },toks:=t' }) (t':=t') (ch:=ch) I1 (fun b o hb e=> ?_) (fun b hb=>⟨hn b hb,(hf b hb).2⟩),fr,hn⟩
 by_cases c:b=s.heap.objs.size
 ·subst c
  have e':(s.heap.push { cls:= .type "tuple",data:= .seq us.toArray }).get? s.heap.objs.size=some o:=e
  rw[Heap.get?_push_size _ rfl] at e'
  cases e'
  exact ht
 ·refine k b o hb ?_
  have e':(s.heap.push { cls:= .type "tuple",data:= .seq us.toArray }).get? b=some o:=e
  have hl:b < s.heap.objs.size:=by
   have q:b < s.heap.objs.size + 1:=by
    have z:=Heap.lt_size e'
    rwa [Heap.size_push] at z
   exact Nat.lt_of_le_of_ne (Nat.le_of_lt_succ q) c
  have q:(s.heap.push { cls:= .type "tuple",data:= .seq us.toArray }).get? b=s.heap.get? b:=by
   unfold Heap.get? Heap.push
   simp only[Array.getElem?_push]
   rw[if_neg (Nat.ne_of_lt hl)]
  rwa [q] at e'
noncomputable def Ite (K:PySem.W.Frag) (a:Addr):It:=
 ⟨fun i H=> ∃ xs x,SqL K H a xs/\xs[i]?=some x,fun i H y H'=> ∃ p,H p=none/\y= .ref p/\ ∀ xs x,SqL K H a xs->xs[i]?=some x->H'=upd H p (.tup [.int i,x]),fun i H=> ∃ xs,SqL K H a xs/\xs.length<=i⟩
noncomputable def Itz (K:PySem.W.Frag) (a b:Addr):It:=
 ⟨fun i H=> ∃ xs ys x y,SqL K H a xs/\SqL K H b ys/\xs[i]?=some x/\ys[i]?=some y,fun i H v H'=> ∃ p,H p=none/\v= .ref p/\ ∀ xs ys x y,SqL K H a xs->SqL K H b ys->xs[i]?=some x->ys[i]?=some y->H'=upd H p (.tup [x,y]),
  fun i H=> ∃ xs ys,SqL K H a xs/\SqL K H b ys/\(xs.length<=i\/ys.length<=i)⟩
theorem ZiA {P:Program} {w:World} {K:PySem.W.Frag} {B:Around} {elts:List Expr} {k0:Nat} {tp:Pos} (hB:B.handled=none) (a e it:Addr) (hne:e≠it):
  Turn P w K B (.Tuple elts k0 tp) (Ite K a) [e,it] e (fun i h=>(∃ old,IsEnum h e it (i:Int) old)/\h.IsListIter it a i) where
 mem:=by simp
 obj:=fun i h st b hb=>by
  obtain ⟨⟨old,h1⟩,o,e2,c2,d2⟩:=st
  rcases List.mem_cons.mp hb with z | z
  ·subst z;exact ⟨_,h1,fun v z=>by cases z⟩
  ·have z':b=it:=by simpa using z
   subst z'
   exact ⟨o,e2,fun v z=>by rw[d2] at z;cases z⟩
 keep:=fun i h h' st k=>⟨let ⟨old,z⟩:=st.1;⟨old,k e (by simp) _ z⟩,st.2.at fun o z=>k it (by simp) o z⟩
 item:=by
  intro X hP hw hK hA i pins s σ H E I hf st hg
  subst hP hw hK hA
  obtain ⟨⟨old,h1⟩,h2⟩:=st
  obtain ⟨xs,x,hq,hx⟩:=hg
  obtain ⟨its,rv,p,hz⟩:=I.list hq
  obtain ⟨u,hu,ru⟩:=rv.get hx
  have lt: ∀ b∈[e,it],b < s.heap.objs.size:=fun b hb=>by
   rcases List.mem_cons.mp hb with z | z
   ·subst z;exact Heap.lt_size h1
   ·have z':b=it:=by simpa using z
    subst z'
    obtain ⟨o,e2,_⟩:=h2
    exact Heap.lt_size e2
  refine wpAny_pyNext_enum_item h1 h2 p.isList (x:=u) (by simpa using hu) hne fun h' o1 o2 o3 o4 o5=>⟨_,rfl,?_⟩
  refine wpAny_letOwnedTupleGo_enum (s:={ s with heap:=h',toks:=s.toks + 1 }) o1 fun h'' q1 q2=> ?_
  have pe:s.heap.objs.size≠e:=Nat.ne_of_gt (lt e (by simp))
  have ie:it≠e:=Ne.symm hne
  obtain ⟨J1,J2,J3⟩:=ZkK (h':=h'') (t':=s.toks + 1) (ch:=[e,it]) (vs:=[.int i,x]) (us:=[.int i s.toks,u]) I hf lt (.cons ⟨_,rfl⟩ (.cons ru .nil)) (by show 2<=sizeLine;decide)
   (fun b o hb z=>by
    have n1:b≠e:=fun y=>hb (by simp[y])
    have n2:b≠it:=fun y=>hb (by simp[y])
    exact (q2.2 b n1).trans (o5 b o n1 n2 z)) ((q2.2 _ pe).trans o3)
  refine ⟨.ref s.heap.objs.size,_,J1,rfl,⟨_,J2,rfl,fun ys y hy hy2=> ?_⟩,⟨⟨u,by simpa using q1⟩,o2.at fun o z=>(q2.2 it ie).trans z⟩,J3⟩
  rw[I.list_inj hy hq,hx] at hy2
  cases hy2
  rfl
 done:=by
  intro X hP hw hK hA i pins s σ H E I hf st hg
  subst hP hw hK hA
  obtain ⟨⟨old,h1⟩,h2⟩:=st
  obtain ⟨xs,hq,hx⟩:=hg
  obtain ⟨its,rv,p,hz⟩:=I.list hq
  obtain ⟨f0,f1,f2,f3,f4,f5⟩:=hf it (by simp)
  refine wpAny_pyNext_enum_end hB h1 h2 p.isList (by simp only[List.getElem?_toArray];exact List.getElem?_eq_none (by rw[<- rv.length];exact hx)) fun h' ext=>⟨rfl,?_⟩
  exact I.turned (t':=s.toks) (it:=it) (fun b o hb z=>ext b o hb z) f0 f1 f3 f4 f5
 self:=fun A i s Q E st q=>by
  obtain ⟨⟨old,h1⟩,_⟩:=st
  have hT:s.TypeIs (.ref e) "enumerate":=⟨_,h1,rfl⟩
  refine wpAny_pyIter_slot hT F.slot_enumerate_iter (wpAny_call_entry F.slot_enumerate_iter hT F.entry_enumerate_iter ?_ (F.args_enumerate_iter_1 _))
  show wpAny _ _ (ret (.ref e)) _ _ s
  exact wpAny_pure ⟨_,rfl,"enumerate",_,hT,F.slot_enumerate_next.lookup,q⟩
theorem Zj4 {P:Program} {w:World} {K:PySem.W.Frag} {B:Around} {elts:List Expr} {k0:Nat} {tp:Pos} (hB:B.handled=none) {z TI TO i1 i2 a b:Addr} (D:ZipApart z TI TO i1 i2 a b):
  Turn P w K B (.Tuple elts k0 tp) (Itz K a b) [z,TI,TO,i1,i2] z (fun i h=>IsZip h z TI TO .none/\IsPair h TI (.ref i1) (.ref i2)/\(∃ x y,IsPair h TO x y)/\h.IsListIter i1 a i/\h.IsListIter i2 b i) where
 mem:=by simp
 obj:=fun i h st c hc=>by
  obtain ⟨h1,h2,⟨x,y,h3⟩,⟨o4,e4,c4,d4⟩,⟨o5,e5,c5,d5⟩⟩:=st
  simp only[List.mem_cons,List.not_mem_nil,or_false] at hc
  rcases hc with rfl | rfl | rfl | rfl | rfl
  ·exact ⟨_,h1,fun v q=>by cases q⟩
  ·exact ⟨_,h2,fun v q=>by cases q⟩
  ·exact ⟨_,h3,fun v q=>by cases q⟩
  ·exact ⟨o4,e4,fun v q=>by rw[d4] at q;cases q⟩
  ·exact ⟨o5,e5,fun v q=>by rw[d5] at q;cases q⟩
 keep:=fun i h h' st k=>by
  obtain ⟨h1,h2,⟨x,y,h3⟩,h4,h5⟩:=st
  exact ⟨k z (by simp) _ h1,k TI (by simp) _ h2,⟨x,y,k TO (by simp) _ h3⟩,h4.at fun o q=>k i1 (by simp) o q,h5.at fun o q=>k i2 (by simp) o q⟩
 item:=by
  intro X hP hw hK hA i pins s σ H E I hf st hg
  subst hP hw hK hA
  obtain ⟨h1,h2,⟨x0,y0,h3⟩,h4,h5⟩:=st
  obtain ⟨xs,ys,x,y,hq,hq2,hx,hy⟩:=hg
  obtain ⟨its,rv,p,hz⟩:=I.list hq
  obtain ⟨its2,rv2,p2,hz2⟩:=I.list hq2
  obtain ⟨u,hu,ru⟩:=rv.get hx
  obtain ⟨u2,hu2,ru2⟩:=rv2.get hy
  have lt: ∀ c∈[z,TI,TO,i1,i2],c < s.heap.objs.size:=fun c hc=>by
   simp only[List.mem_cons,List.not_mem_nil,or_false] at hc
   rcases hc with rfl | rfl | rfl | rfl | rfl
   ·exact Heap.lt_size h1
   ·exact Heap.lt_size h2
   ·exact Heap.lt_size h3
   ·obtain ⟨o,e2,_⟩:=h4;exact Heap.lt_size e2
   ·obtain ⟨o,e2,_⟩:=h5;exact Heap.lt_size e2
  refine wpAny_pyNext_zip_item D h1 h2 h3 h4 h5 p.isList p2.isList (x:=u) (y:=u2) (by simpa using hu) (by simpa using hu2) fun h' o1 o2 o3 o4 o5 o6 o7=>⟨_,rfl,?_⟩
  refine wpAny_letOwnedTupleGo_zip (s:={ s with heap:=h' }) o1 fun h'' q1 q2=> ?_
  have pe:s.heap.objs.size≠z:=Nat.ne_of_gt (lt z (by simp))
  obtain ⟨J1,J2,J3⟩:=ZkK (h':=h'') (t':=s.toks) (ch:=[z,TI,TO,i1,i2]) (vs:=[x,y]) (us:=[u,u2]) I hf lt (.cons ru (.cons ru2 .nil)) (by show 2<=sizeLine;decide)
   (fun c o hc q=>by
    simp only[List.mem_cons,List.not_mem_nil,or_false,not_or] at hc
    exact (q2.2 c hc.1).trans (o7 c o hc.1 hc.2.2.1 hc.2.2.2.1 hc.2.2.2.2 q)) ((q2.2 _ pe).trans o5)
  refine ⟨.ref s.heap.objs.size,_,J1,rfl,⟨_,J2,rfl,fun xs' ys' x' y' hx1 hy1 hx2 hy2=> ?_⟩,⟨q1,(q2.2 TI D.TIz).trans (o7 TI _ D.TIz D.TITO D.TIi1 D.TIi2 h2),⟨u,u2,(q2.2 TO D.TOz).trans o2⟩,o3.at fun o q=>(q2.2 i1 D.i1z).trans q,o4.at fun o q=>(q2.2 i2 D.i2z).trans q⟩,J3⟩
  rw[I.list_inj hx1 hq,hx] at hx2
  rw[I.list_inj hy1 hq2,hy] at hy2
  cases hx2
  cases hy2
  rfl
 done:=by
  intro X hP hw hK hA i pins s σ H E I hf st hg
  subst hP hw hK hA
  obtain ⟨h1,h2,⟨x0,y0,h3⟩,h4,h5⟩:=st
  obtain ⟨xs,ys,hq,hq2,hx⟩:=hg
  obtain ⟨its,rv,p,hz⟩:=I.list hq
  obtain ⟨its2,rv2,p2,hz2⟩:=I.list hq2
  have he:its.toArray[i]?=none\/its2.toArray[i]?=none:=by
   rcases hx with hx | hx
   ·exact .inl (by simp only[List.getElem?_toArray];exact List.getElem?_eq_none (by rw[<- rv.length];exact hx))
   ·exact .inr (by simp only[List.getElem?_toArray];exact List.getElem?_eq_none (by rw[<- rv2.length];exact hx))
  refine wpAny_pyNext_zip_end hB D h1 h2 h3 h4 h5 p.isList p2.isList he fun h' keep=>⟨rfl,?_⟩
  refine Ziz (t':=s.toks) (ch:=[z,TI,TO,i1,i2]) I (fun c o hc q=> ?_) hf
  simp only[List.mem_cons,List.not_mem_nil,or_false,not_or] at hc
  exact keep c o hc.1 hc.2.2.1 hc.2.2.2.1 hc.2.2.2.2 q
 self:=fun A i s Q E st q=>wpAny_pyIter_zip st.1 q
theorem ZnI {n a b:Nat} (h1:a < n) (h2:b < n):ZipApart (n + 4) (n + 2) (n + 3) n (n + 1) a b:=⟨Nat.ne_of_lt (by omega),Nat.ne_of_lt (by omega),Nat.ne_of_lt (by omega),Nat.ne_of_lt (by omega),Nat.ne_of_lt (by omega),Nat.ne_of_gt (by omega),Nat.ne_of_gt (by omega),Nat.ne_of_gt (by omega),Nat.ne_of_gt (by omega),Nat.ne_of_lt (by omega),Nat.ne_of_lt (by omega),Nat.ne_of_lt (by omega),Nat.ne_of_lt (by omega),Nat.ne_of_lt (by omega),Nat.ne_of_lt (by omega),Nat.ne_of_lt (by omega),Nat.ne_of_lt (by omega),Nat.ne_of_lt (by omega)⟩
theorem ZnJ:bootBuiltins "zip"=some (.type "zip"):=by decide +kernel
theorem Zfg:bootBuiltins "enumerate"=some (.type "enumerate"):=by decide +kernel
section
variable {X:Cx} {ξ:XK} {a b:Expr} {elts:List Expr} {k0:Nat} {tp:Pos} {fa:Ev} {fs:Av} {p pos:Pos} {ta:TA}
noncomputable def Zqi (K:PySem.W.Frag) (t:TA):TI:=fun σ H R=>t σ H fun vs H1=> ∃ l xs,vs=[.ref l]/\SqL K H1 l xs/\R (Ite K l) H1
noncomputable def Zto (K:PySem.W.Frag) (t:TA):TI:=fun σ H R=>t σ H fun vs H1=> ∃ l l2 xs ys,vs=[.ref l,.ref l2]/\SqL K H1 l xs/\SqL K H1 l2 ys/\R (Itz K l l2) H1
theorem ZlJ (hc:X.A.handled=none) (hg:Gl X "enumerate") (hm:X.mg "enumerate"=none) (ha:PA X [a] ta) (hs:starEach [a] X.env=(false,eval a X.env) :: starEach [] X.env:=by rfl) (hpl:(backTo pos (starEach [] X.env)).any (·.1)=false:=by rfl):
  PI X (.Tuple elts k0 tp) (.Call (.Name "enumerate" p) [a] [] pos) (Zqi X.K ta):=by
 intro pins s σ H R I h
 refine wpAny_Call_Name_kw (Zc5 I hg hm Zfg (PyProof.Rows.callWith_type1 (thn (ha pos pins s σ H _ I h) fun us s1 ⟨vs,H1,I1,r1,q1⟩=> ?_) hs hpl) (by decide) (by decide))
 obtain ⟨l,xs,rfl,hq,q⟩:=q1
 obtain ⟨u,rfl,ru⟩:=ZdH r1
 cases ru
 obtain ⟨its,rv,pl,hz⟩:=I1.list hq
 refine call_enumerate_list pl.isList fun h' e1 e2 e3 e4=> ?_
 have T:=ZiA (P:=X.prog) (w:=X.w) (K:=X.K) (B:=X.A) (elts:=elts) (k0:=k0) (tp:=tp) hc l (s1.heap.objs.size + 1) s1.heap.objs.size (Nat.ne_of_gt (Nat.lt_succ_self _))
 have I2:Inv X pins σ H1 { s1 with heap:=h',toks:=s1.toks }:=I1.kept (t':=s1.toks) e4
 refine T.self X.A 0 { s1 with heap:=h' } _ _ ⟨⟨_,e1⟩,e2⟩ ⟨_,_,_,_,H1,rfl,I2,T,⟨⟨_,e1⟩,e2⟩,fun b hb=> ?_,q⟩
 have hb':s1.heap.objs.size<=b:=by
  simp only[List.mem_cons,List.not_mem_nil,or_false] at hb
  rcases hb with rfl | rfl<;>omega
 exact I1.fpOk hb' (I1.hok.fresh hb')
theorem ZnK (hc:X.A.handled=none) (hg:Gl X "zip") (hm:X.mg "zip"=none) (ha:PA X [a,b] ta) (hs:starEach [a,b] X.env=(false,eval a X.env) :: starEach [b] X.env:=by rfl) (hpl:(backTo pos (starEach [b] X.env)).any (·.1)=false:=by rfl):
  PI X (.Tuple elts k0 tp) (.Call (.Name "zip" p) [a,b] [] pos) (Zto X.K ta):=by
 intro pins s σ H R I h
 refine wpAny_Call_Name_kw (Zc5 I hg hm ZnJ (PyProof.Rows.callWith_type1 (thn (ha pos pins s σ H _ I h) fun us s1 ⟨vs,H1,I1,r1,q1⟩=> ?_) hs hpl) (by decide) (by decide))
 obtain ⟨l,l2,xs,ys,rfl,hq,hq2,q⟩:=q1
 obtain ⟨u,u2,rfl,ru,ru2⟩:=ZhS r1
 cases ru
 cases ru2
 obtain ⟨its,rv,pl,hz⟩:=I1.list hq
 obtain ⟨its2,rv2,pl2,hz2⟩:=I1.list hq2
 have lt1:l < s1.heap.objs.size:=by obtain ⟨_,e,_⟩:=pl.isList;exact Heap.lt_size e
 have lt2:l2 < s1.heap.objs.size:=by obtain ⟨_,e,_⟩:=pl2.isList;exact Heap.lt_size e
 refine call_zip_2 pl.isList pl2.isList fun h' e1 e2 e3 e4 e5 e6 e7=> ?_
 have D:=ZnI lt1 lt2
 have T:=Zj4 (P:=X.prog) (w:=X.w) (K:=X.K) (B:=X.A) (elts:=elts) (k0:=k0) (tp:=tp) hc D
 have I2:Inv X pins σ H1 { s1 with heap:=h',toks:=s1.toks }:=I1.kept (t':=s1.toks) e7
 refine T.self X.A 0 { s1 with heap:=h' } _ _ ⟨e1,e2,⟨_,_,e3⟩,e4,e5⟩ ⟨_,_,_,_,H1,rfl,I2,T,⟨e1,e2,⟨_,_,e3⟩,e4,e5⟩,fun c hc=> ?_,q⟩
 have hb':s1.heap.objs.size<=c:=by
  simp only[List.mem_cons,List.not_mem_nil,or_false] at hc
  rcases hc with rfl | rfl | rfl | rfl | rfl<;>omega
 exact I1.fpOk hb' (I1.hok.fresh hb')
noncomputable def iEn (fs:Av):Ro->Sto->Out Src:=fun ρ M=>(fs ρ M).bind fun ds M1=>match ds with | [.ref n]=> .ok (.enu n) M1 | _=> .bad
noncomputable def iZp (fs:Av):Ro->Sto->Out Src:=fun ρ M=>(fs ρ M).bind fun ds M1=>match ds with | [.ref n,.ref m]=> .ok (.zip n m) M1 | _=> .bad
theorem ZfW (hc:X.A.handled=none) (hm:X.mg "enumerate"=none) (ha:DA X ξ [a] fs) (hg:Gl X "enumerate":=by rfl) (hs:starEach [a] X.env=(false,eval a X.env) :: starEach [] X.env:=by rfl) (hpl:(backTo pos (starEach [] X.env)).any (·.1)=false:=by rfl):
  DI X ξ (.Tuple elts k0 tp) (.Call (.Name "enumerate" p) [a] [] pos) (iEn fs):=by
 obtain ⟨ta,pa,qa⟩:=ha
 refine ⟨_,ZlJ hc hg hm pa hs hpl,fun σ ρ H α M R s hh q=>qa σ ρ H α M _ s hh (OG.seq q fun ds M1 vs H1 α1 e1 h1 r1 w1=> ?_)⟩
 match r1 with
 | .nil=>exact w1.elim
 | .cons r (.cons _ _)=>cases r<;>exact w1.elim
 | .cons r .nil=>
  cases r with
  | @ref l n hp=>
   obtain ⟨xs0,g0⟩:=h1.some_at hp
   refine ⟨l,xs0,rfl,SqL.of g0,w1 _ H1 α1 Ext.refl h1 fun i H' α' M' ex hr=> ?_⟩
   cases em:M'[n]? with
   |none=>rw[show nxt (.enu n) i M'=none by simp only[nxt,em]];exact True.intro
   |some so=>
    cases so with
    |lst es=>
     obtain ⟨xs,g1,g2⟩:=hr.at (ex.get hp) em
     cases ei:es[i]? with
     |none=>rw[show nxt (.enu n) i M'=some none by simp only[nxt,em,ei]];exact ⟨xs,SqL.of g1,by rw[g2.length];exact List.getElem?_eq_none_iff.mp ei⟩
     |some d=>
      obtain ⟨v,k1,k2⟩:=g2.get ei
      rw[show nxt (.enu n) i M'=some (some (D.tup [D.int i,d])) by simp only[nxt,em,ei]]
      refine ⟨⟨xs,v,SqL.of g1,k1⟩,fun x H'' y=> ?_⟩
      obtain ⟨pp,y1,rfl,y3⟩:=y
      have y4:=y3 xs v (SqL.of g1) k1
      subst y4
      exact ⟨Ext.new0 y1,hr.tup y1,.tup ZC (.cons (.int i) (.cons (Rep.mono (Ext.new0 y1) k2) .nil))⟩
  |_=>exact w1.elim
theorem ZiB (hc:X.A.handled=none) (hm:X.mg "zip"=none) (ha:DA X ξ [a,b] fs) (hg:Gl X "zip":=by rfl) (hs:starEach [a,b] X.env=(false,eval a X.env) :: starEach [b] X.env:=by rfl) (hpl:(backTo pos (starEach [b] X.env)).any (·.1)=false:=by rfl):
  DI X ξ (.Tuple elts k0 tp) (.Call (.Name "zip" p) [a,b] [] pos) (iZp fs):=by
 obtain ⟨ta,pa,qa⟩:=ha
 refine ⟨_,ZnK hc hg hm pa hs hpl,fun σ ρ H α M R s hh q=>qa σ ρ H α M _ s hh (OG.seq q fun ds M1 vs H1 α1 e1 h1 r1 w1=> ?_)⟩
 split at w1
 ·rename_i n m
  cases r1 with
  |cons r t=>
   cases t with
   |cons r' t=>
    cases t
    cases r with
    |ref hp=>
    cases r' with
    |ref hp2=>
    rename_i l l2
    obtain ⟨xs0,g0⟩:=h1.some_at hp
    obtain ⟨ys0,g0'⟩:=h1.some_at hp2
    refine ⟨l,l2,xs0,ys0,rfl,SqL.of g0,SqL.of g0',w1 _ H1 α1 Ext.refl h1 fun i H' α' M' ex hr=> ?_⟩
    cases em:M'[n]? with
    |none=>rw[show nxt (.zip n m) i M'=none by simp only[nxt,em]];exact True.intro
    |some so=>
     cases em2:M'[m]? with
     |none=>cases so;rw[show nxt (.zip n m) i M'=none by simp only[nxt,em,em2]];exact True.intro
     |some so2=>
      cases so with
      |lst es=>
       cases so2 with
       |lst es2=>
        obtain ⟨xs,g1,g2⟩:=hr.at (ex.get hp) em
        obtain ⟨ys,g3,g4⟩:=hr.at (ex.get hp2) em2
        cases ei:es[i]? with
        |none=>rw[show nxt (.zip n m) i M'=some none by simp only[nxt,em,em2,ei]];exact ⟨xs,ys,SqL.of g1,SqL.of g3,.inl (by rw[g2.length];exact List.getElem?_eq_none_iff.mp ei)⟩
        |some d=>
         cases ej:es2[i]? with
         |none=>rw[show nxt (.zip n m) i M'=some none by simp only[nxt,em,em2,ei,ej]];exact ⟨xs,ys,SqL.of g1,SqL.of g3,.inr (by rw[g4.length];exact List.getElem?_eq_none_iff.mp ej)⟩
         |some d2=>
          obtain ⟨v,k1,k2⟩:=g2.get ei
          obtain ⟨v2,k3,k4⟩:=g4.get ej
          rw[show nxt (.zip n m) i M'=some (some (D.tup [d,d2])) by simp only[nxt,em,em2,ei,ej]]
          refine ⟨⟨xs,ys,v,v2,SqL.of g1,SqL.of g3,k1,k3⟩,fun x H'' y=> ?_⟩
          obtain ⟨pp,y1,rfl,y3⟩:=y
          have y4:=y3 xs ys v v2 (SqL.of g1) (SqL.of g3) k1 k3
          subst y4
          exact ⟨Ext.new0 y1,hr.tup y1,.tup ZC (.cons (Rep.mono (Ext.new0 y1) k2) (.cons (Rep.mono (Ext.new0 y1) k4) .nil))⟩
 ·exact w1.elim
end
end DL
end
section
namespace DL
open PySem PySem.Spec PyProof.Rows L2
open PySem.SeqAt (EqAt RcAt RcNeAt)
inductive Ks (X:Cx) (H:Hp) (α:List Addr):Kd->Kd->Prop where
 |non:Ks X H α .non .non
 |bl (b:Bool):Ks X H α (.bl b) (.bl b)
 |int (i:Int):Ks X H α (.int i) (.int i)
 |str (x:Str):Ks X H α (.str x) (.str x)
 |tup {vs:List V} {ds es:List D}:Reps X.K H α vs ds->Reps X.K H α vs es->Ks X H α (.tup ds) (.tup es)
 |lst {vs:List V} {ds es:List D}:Reps X.K H α vs ds->Reps X.K H α vs es->Ks X H α (.lst ds) (.lst es)
section
variable {X:Cx} {ξ:XK} {pins:List (Addr × Obj)} {σ:L2.St} {H:Hp} {s:Shared} {α:List Addr} {M:Sto}
theorem ZnL (h:HR X.K H α M) {v:V} {x:D} {k:Kd} (r:Rep X.K H α v x) (e:kd M x=some k):
  (match k with | .tup ds=> ∃ p vs,v= .ref p/\SqT X.K H p vs/\Reps X.K H α vs ds | .lst ds=> ∃ p vs,v= .ref p/\SqL X.K H p vs/\Reps X.K H α vs ds | .non=>v= .non | .bl b=>v= .bl b | .int i=>v= .int i | .str x=>v= .str x):=by
 cases r with
 |non=>cases e;rfl
 |bl b=>cases e;rfl
 |int i=>cases e;rfl
 |str x=>cases e;rfl
 |err _ _ _=>cases e
 |dk _=>cases e
 |dt _=>cases e
 |fn _=>cases e
 | @tup p xs ds hp rp=>cases e;exact ⟨p,xs,rfl,(SqT.of hp),rp⟩
 | @con p xs ds hp rp=>cases e;exact ⟨p,xs,rfl,hp.sq,rp⟩
 | @rol p xs ds hp rp=>cases e;exact ⟨p,xs,rfl,hp.sq,rp⟩
 | @ref p n hp=>
  cases e1:M[n]? with
  |none=>simp only[kd,e1] at e;cases e
  |some o=>
   cases o with
   |lst ds=>
    simp only[kd,e1] at e
    cases e
    obtain ⟨xs,g1,r1⟩:=h.at hp e1
    exact ⟨p,xs,rfl,SqL.of g1,r1⟩
theorem ZiC (I:Inv X pins σ H s) (h:HR X.K H α M) {v:V} {x y:D} {k l:Kd} (rx:Rep X.K H α v x) (ry:Rep X.K H α v y) (ex:kd M x=some k) (ey:kd M y=some l):Ks X H α k l:=by
 have a:=ZnL h rx ex
 have b:=ZnL h ry ey
 have nl: ∀ {p:Addr} {xs ys:List V},SqT X.K H p xs->SqL X.K H p ys->False:=fun {p xs ys} a c=>by
  obtain ⟨i1,_,⟨o1,g1,c1,_⟩,_⟩:=I.tuple a
  obtain ⟨i2,_,⟨o2,_,g2,c2,_⟩,_⟩:=I.list c
  rw[g1] at g2
  cases g2
  rw[c1] at c2
  exact absurd c2 (by decide)
 cases k with
 |non=>cases a;cases l<;>first | (cases b;done) | exact .non | (obtain ⟨_,_,q,_⟩:=b;cases q)
 |bl c=>cases a;cases l<;>first | (cases b;done) | (cases b;exact .bl c) | (obtain ⟨_,_,q,_⟩:=b;cases q)
 |int c=>cases a;cases l<;>first | (cases b;done) | (cases b;exact .int c) | (obtain ⟨_,_,q,_⟩:=b;cases q)
 |str c=>cases a;cases l<;>first | (cases b;done) | (cases b;exact .str c) | (obtain ⟨_,_,q,_⟩:=b;cases q)
 |tup ds=>
  obtain ⟨p,vs,rfl,q1,q2⟩:=a
  cases l with
  |tup es=>
   obtain ⟨p2,vs2,e2,q3,q4⟩:=b
   cases e2
   cases I.tuple_inj q1 q3
   exact .tup q2 q4
  |lst es=>
   obtain ⟨p2,vs2,e2,q3,q4⟩:=b
   cases e2
   exact (nl q1 q3).elim
  |_=>cases b
 |lst ds=>
  obtain ⟨p,vs,rfl,q1,q2⟩:=a
  cases l with
  |lst es=>
   obtain ⟨p2,vs2,e2,q3,q4⟩:=b
   cases e2
   cases I.list_inj q1 q3
   exact .lst q2 q4
  |tup es=>
   obtain ⟨p2,vs2,e2,q3,q4⟩:=b
   cases e2
   exact (nl q3 q1).elim
  |_=>cases b
theorem ZkL (I:Inv X pins σ H s) (h:HR X.K H α M): ∀ (n:Nat) {v w:V} {x x' y y':D} {b b':Bool},Rep X.K H α v x->Rep X.K H α v x'->Rep X.K H α w y->Rep X.K H α w y'->eqF n M x y=some b->eqF n M x' y'=some b'->b=b':=by
 intro n
 induction n with
 |zero=>intro v w x x' y y' b b' _ _ _ _ e;simp only[eqF] at e;cases e
 |succ n ih=>
  have lists: ∀ (vs ws:List V) (xs xs' ys ys':List D) (b b':Bool),Reps X.K H α vs xs->Reps X.K H α vs xs'->Reps X.K H α ws ys->Reps X.K H α ws ys'->eqL (eqF n M) xs ys=some b->eqL (eqF n M) xs' ys'=some b'->b=b':=by
   intro vs
   induction vs with
   |nil=>
    intro ws xs xs' ys ys' b b' r1 r2 r3 r4 e e'
    cases r1;cases r2
    cases r3 with
    |nil=>cases r4;simp only[eqL,Option.some.injEq] at e e';rw[<- e,<- e']
    |cons _ _=>cases r4;simp only[eqL,Option.some.injEq] at e e';rw[<- e,<- e']
   |cons v vs iv=>
    intro ws xs xs' ys ys' b b' r1 r2 r3 r4 e e'
    cases r1 with
    |cons p1 t1=>
     cases r2 with
     |cons p2 t2=>
      cases r3 with
      |nil=>cases r4;simp only[eqL,Option.some.injEq] at e e';rw[<- e,<- e']
      |cons p3 t3=>
       cases r4 with
       |cons p4 t4=>
        rename_i d1 ds1 d2 ds2 w d3 ws ds3 d4 ds4
        cases a1:eqF n M d1 d3 with
        |none=>simp only[eqL,a1] at e;cases e
        |some a=>
         cases a2:eqF n M d2 d4 with
         |none=>simp only[eqL,a2] at e';cases e'
         |some a'=>
          cases c1:eqL (eqF n M) ds1 ds3 with
          |none=>simp only[eqL,a1,c1] at e;cases e
          |some c=>
           cases c2:eqL (eqF n M) ds2 ds4 with
           |none=>simp only[eqL,a2,c2] at e';cases e'
           |some c'=>
            simp only[eqL,a1,c1,Option.some.injEq] at e
            simp only[eqL,a2,c2,Option.some.injEq] at e'
            rw[<- e,<- e',ih p1 p2 p3 p4 a1 a2,iv _ _ _ _ _ _ _ t1 t2 t3 t4 c1 c2]
  intro v w x x' y y' b b' rx rx' ry ry' e e'
  unfold eqF at e e'
  cases k1:kd M x with
  |none=>rw[k1] at e;cases e
  |some ka=>
   cases k2:kd M y with
   |none=>rw[k1,k2] at e;cases e
   |some kb=>
    cases k3:kd M x' with
    |none=>rw[k3] at e';cases e'
    |some ka'=>
     cases k4:kd M y' with
     |none=>rw[k3,k4] at e';cases e'
     |some kb'=>
      rw[k1,k2] at e
      rw[k3,k4] at e'
      have s1:=ZiC I h rx rx' k1 k3
      have s2:=ZiC I h ry ry' k2 k4
      cases s1 with
      |tup a1 a2=>
       cases s2 with
       |tup b1 b2=>simp only[eqK] at e e';exact lists _ _ _ _ _ _ _ _ a1 a2 b1 b2 e e'
       |_=>simp only[eqK,Option.some.injEq] at e e';rw[<- e,<- e']
      |lst a1 a2=>
       cases s2 with
       |lst b1 b2=>
        simp only[eqK] at e e'
        rw[<- a1.length,<- b1.length] at e
        rw[<- a2.length,<- b2.length] at e'
        split at e
        ·rename_i c
         rw[if_pos c] at e'
         exact lists _ _ _ _ _ _ _ _ a1 a2 b1 b2 e e'
        ·rename_i c
         rw[if_neg c] at e'
         cases e;cases e';rfl
       |_=>simp only[eqK,Option.some.injEq] at e e';rw[<- e,<- e']
      |_=>cases s2<;>(simp only[eqK,Option.some.injEq] at e e';rw[<- e,<- e'])
noncomputable def eqs (M:Sto) (d:D):List D->Option (List Bool)
 | []=>some []
 |x :: r=>match eqF 12 M x d with | some b=>(match eqs M d r with | some bs=>some (b :: bs) | none=>none) | none=>none
theorem ZiD: ∀ {M:Sto} {d:D} {xs:List D} {bs:List Bool},eqs M d xs=some bs->bs.length=xs.length
 |_,_,[],_,e=>by cases e;rfl
 |M,d,x :: r,bs,e=>by
  cases e1:eqF 12 M x d with
  |none=>simp only[eqs,e1] at e;cases e
  |some b=>
   cases e2:eqs M d r with
   |none=>simp only[eqs,e1,e2] at e;cases e
   |some cs=>simp only[eqs,e1,e2,Option.some.injEq] at e;subst e;rw[List.length_cons,List.length_cons,ZiD e2]
theorem ZiE: ∀ {M:Sto} {d:D} {xs:List D} {bs:List Bool} {i:Nat} {x:D},eqs M d xs=some bs->xs[i]?=some x-> ∃ b,bs[i]?=some b/\eqF 12 M x d=some b
 |_,_,[],_,i,x,e,hx=>by simp at hx
 |M,d,y :: r,bs,i,x,e,hx=>by
  cases e1:eqF 12 M y d with
  |none=>simp only[eqs,e1] at e;cases e
  |some b=>
   cases e2:eqs M d r with
   |none=>simp only[eqs,e1,e2] at e;cases e
   |some cs=>
    simp only[eqs,e1,e2,Option.some.injEq] at e
    subst e
    cases i with
    |zero=>simp at hx;subst hx;exact ⟨b,rfl,e1⟩
    |succ i=>simp at hx;obtain ⟨b',q1,q2⟩:=ZiE e2 hx;exact ⟨b',by simpa using q1,q2⟩
open Classical in
theorem ZfX {A:Around} (hu:A.units + 64 < cLine) (I:Inv X pins σ H s) (h:HR X.K H α M) {vs:List V} {ds:List D} {us:List Value} {v:V} {d:D} {u:Value} {bs:List Bool} (rv:Z8 vs us) (rp:Reps X.K H α vs ds) (ru:Z4 v u) (rd:Rep X.K H α v d) (e:eqs M d ds=some bs):
  ∃ f:Value->Bool,(∀ y,y∈us.toArray->EqAt A.in1 s y u (f y))/\us.map f=bs:=by
 have ll:us.length=ds.length:=by rw[<- rv.length,rp.length]
 have at_: ∀ (i:Nat) y,us[i]?=some y-> ∃ w x b,Z4 w y/\Rep X.K H α w x/\bs[i]?=some b/\eqF 12 M x d=some b:=fun i y hy=>by
  have hi:i < ds.length:=by rw[<- ll];exact (List.getElem?_eq_some_iff.mp hy).1
  obtain ⟨w,a1,a2⟩:=rp.get (List.getElem?_eq_getElem hi)
  obtain ⟨y',a3,a4⟩:=rv.get a1
  rw[hy] at a3
  cases a3
  obtain ⟨b,a5,a6⟩:=ZiE e (List.getElem?_eq_getElem hi)
  exact ⟨w,_,b,a4,a2,a5,a6⟩
 refine ⟨fun y=>decide (∃ w x,Z4 w y/\Rep X.K H α w x/\eqF 12 M x d=some true),fun y hy=> ?_,?_⟩
 ·obtain ⟨i,hi,ey⟩:=List.getElem_of_mem (by simpa using hy)
  obtain ⟨w,x,b,q1,q2,q3,q4⟩:=at_ i y (by rw[List.getElem?_eq_getElem hi,ey])
  have hb:decide (∃ w x,Z4 w y/\Rep X.K H α w x/\eqF 12 M x d=some true)=b:=by
   cases b with
   |true=>exact decide_eq_true ⟨w,x,q1,q2,q4⟩
   |false=>
    refine decide_eq_false fun ⟨w',x',z1,z2,z3⟩=> ?_
    cases Z4.inj z1 q1
    have:=ZkL I h 12 z2 q2 rd rd z3 q4
    cases this
  show EqAt A.in1 s y u (decide (∃ w x,Z4 w y/\Rep X.K H α w x/\eqF 12 M x d=some true))
  rw[hb]
  exact (eq3 I h 12 x d w v y u b A.in1 (by rw[Around.in1_units];omega) q4 q2 rd q1 ru).1
 ·apply List.ext_getElem?
  intro i
  rw[List.getElem?_map]
  cases hy:us[i]? with
  |none=>
   have:bs[i]?=none:=List.getElem?_eq_none (by rw[ZiD e,<- ll];exact List.getElem?_eq_none_iff.mp hy)
   rw[this]
   rfl
  |some y=>
   obtain ⟨w,x,b,q1,q2,q3,q4⟩:=at_ i y hy
   rw[q3]
   show some _=some b
   congr 1
   cases b with
   |true=>exact decide_eq_true ⟨w,x,q1,q2,q4⟩
   |false=>
    refine decide_eq_false fun ⟨w',x',z1,z2,z3⟩=> ?_
    cases Z4.inj z1 q1
    have:=ZkL I h 12 z2 q2 rd rd z3 q4
    cases this
end
section
variable {X:Cx} {ξ:XK}
noncomputable def inE (x y:D) (M:Sto):Option Bool:=match Ze2 M y with | some ds=>(match eqs M x ds with | some bs=>some (bs.any id) | none=>none) | none=>none
noncomputable def Zr7:Bo:=fun x y M=>match inE x y M with | some b=> .ok (.bl b) M | none=> .bad
noncomputable def ZiF:Bo:=fun x y M=>match inE x y M with | some b=> .ok (.bl (!b)) M | none=> .bad
noncomputable def ZnM (X:Cx):V->List V->Hp->VK->Prop:=fun v vs H Q=> ∃ α M d ds bs p xs u j,HR X.K H α M/\v= .ref p/\vs=[u]/\Rep X.K H α u d/\SqL X.K H p xs/\Reps X.K H α xs ds/\eqs M d ds=some bs/\bs.findIdx? id=some j/\Q (.int (j:Nat)) H
noncomputable def ZnN (X:Cx):V->List V->Hp->VK->Prop:=fun v vs H Q=> ∃ α M d ds bs p xs u,HR X.K H α M/\v= .ref p/\vs=[u]/\Rep X.K H α u d/\SqL X.K H p xs/\Reps X.K H α xs ds/\eqs M d ds=some bs/\Q (.int (bs.countP id:Nat)) H
theorem ZnO (hu:X.A.units + 64 < cLine):MtR X "list.index" (ZnM X):=by
 intro pins s σ H x vs v us Q I rx rv hh
 obtain ⟨α,M,d,ds,bs,p,xs,u,j,h,e1,e2,rd,hq,rp,e,ej,q⟩:=hh
 subst e1 e2
 cases rx
 obtain ⟨uv,rfl,ru⟩:=ZdH rv
 obtain ⟨its,r,pl,hz⟩:=I.list hq
 obtain ⟨f,f1,f2⟩:=ZfX (A:=X.A) hu I h r rp ru rd e
 obtain ⟨⟨cls,dd,data,sl⟩,ho,hc,n,hd⟩:=pl.isList
 simp only at hc hd
 subst hc hd
 obtain ⟨jl,j1,j2⟩:=List.findIdx?_eq_some_iff_getElem.mp ej
 have lb:bs.length=its.length:=by rw[<- f2,List.length_map]
 have at_: ∀ (m:Nat) (hm:m < its.length),bs[m]?=some (f its[m]):=fun m hm=>by rw[<- f2,List.getElem?_map,List.getElem?_eq_getElem hm];rfl
 have hj:j < its.toArray.size:=by rw[List.size_toArray,<- lb];exact jl
 have hit:f its.toArray[j]=true:=by
  have:=at_ j (by rw[<- lb];exact jl)
  rw[List.getElem?_eq_getElem jl] at this
  have:=Option.some.inj this
  simp only[List.getElem_toArray]
  rw[<- this]
  exact j1
 have hno: ∀ m (hm:m < its.toArray.size),m < j->f its.toArray[m]=false:=fun m hm hmj=>by
  have hm':m < its.length:=by simpa using hm
  have:=at_ m hm'
  rw[List.getElem?_eq_getElem (by omega)] at this
  have:=Option.some.inj this
  simp only[List.getElem_toArray]
  rw[<- this]
  simpa using j2 m hmj
 have hs:(j:Int) < 2 ^ 63 - 1:=by
  have h1:j < its.length:=by rw[<- lb];exact jl
  have h2:its.length<=sizeLine:=by rw[<- r.length];exact hz
  have h3:sizeLine < 2 ^ 62:=by decide
  omega
 refine call_meets F.slot_list_index ⟨_,ho,rfl⟩ F.entry_list_index (F.args_list_index_2 _ _) (SeqAt.list_indexAt p its.toArray n dd sl uv f j hj hs hit hno) ⟨ho,f1,?_⟩
 exact ⟨.int (j:Nat),H,I.tok _,⟨_,rfl⟩,q⟩
theorem ZnP (hu:X.A.units + 64 < cLine):MtR X "list.count" (ZnN X):=by
 intro pins s σ H x vs v us Q I rx rv hh
 obtain ⟨α,M,d,ds,bs,p,xs,u,h,e1,e2,rd,hq,rp,e,q⟩:=hh
 subst e1 e2
 cases rx
 obtain ⟨uv,rfl,ru⟩:=ZdH rv
 obtain ⟨its,r,pl,hz⟩:=I.list hq
 obtain ⟨f,f1,f2⟩:=ZfX (A:=X.A) hu I h r rp ru rd e
 obtain ⟨⟨cls,dd,data,sl⟩,ho,hc,n,hd⟩:=pl.isList
 simp only at hc hd
 subst hc hd
 refine call_meets F.slot_list_count ⟨_,ho,rfl⟩ F.entry_list_count (F.args_list_count_2 _ _) (SeqAt.list_countAt p its.toArray n dd sl uv f) ⟨ho,f1,?_⟩
 refine ⟨.int (bs.countP id:Nat),H,I.tok _,⟨s.toks,?_⟩,q⟩
 rw[<- f2,List.countP_map]
 rfl
noncomputable def mIdx:Me:=fun x ds M=>match x,ds with
 | .ref n,[d]=>(match M[n]? with | some (.lst xs)=>(match eqs M d xs with | some bs=>(match bs.findIdx? id with | some j=> .ok (.int (j:Nat)) M | none=> .bad) | none=> .bad) | none=> .bad)
 |_,_=> .bad
noncomputable def mCnt:Me:=fun x ds M=>match x,ds with
 | .ref n,[d]=>(match M[n]? with | some (.lst xs)=>(match eqs M d xs with | some bs=> .ok (.int (bs.countP id:Nat)) M | none=> .bad) | none=> .bad)
 |_,_=> .bad
theorem ZnQ:MO X ξ (ZnM X) mIdx:=by
 intro H α M v vs x ds Q h rx rs q
 cases rx with
 | @ref p n hp=>
  match rs with
  | .nil=>exact q.elim
  | .cons _ (.cons _ _)=>exact q.elim
  | .cons (v:=u) (d:=d) ru .nil=>
   cases em:M[n]? with
   |none=>simp only[mIdx,em] at q;exact q.elim
   |some so=>
    cases so with
    |lst es=>
     cases e2:eqs M d es with
     |none=>simp only[mIdx,em,e2] at q;exact q.elim
     |some bs=>
      cases e3:bs.findIdx? id with
      |none=>simp only[mIdx,em,e2,e3] at q;exact q.elim
      |some j=>
       simp only[mIdx,em,e2,e3] at q
       obtain ⟨xs,g1,g2⟩:=h.at hp em
       exact ⟨α,M,d,es,bs,p,xs,u,j,h,rfl,rfl,ru,SqL.of g1,g2,e2,e3,q _ H α Ext.refl h (.int _)⟩
 |_=>cases rs<;>exact q.elim
theorem ZnR:MO X ξ (ZnN X) mCnt:=by
 intro H α M v vs x ds Q h rx rs q
 cases rx with
 | @ref p n hp=>
  match rs with
  | .nil=>exact q.elim
  | .cons _ (.cons _ _)=>exact q.elim
  | .cons (v:=u) (d:=d) ru .nil=>
   cases em:M[n]? with
   |none=>simp only[mCnt,em] at q;exact q.elim
   |some so=>
    cases so with
    |lst es=>
     cases e2:eqs M d es with
     |none=>simp only[mCnt,em,e2] at q;exact q.elim
     |some bs=>
      simp only[mCnt,em,e2] at q
      obtain ⟨xs,g1,g2⟩:=h.at hp em
      exact ⟨α,M,d,es,bs,p,xs,u,h,rfl,rfl,ru,SqL.of g1,g2,e2,q _ H α Ext.refl h (.int _)⟩
 |_=>cases rs<;>exact q.elim
noncomputable def ZbV:List D->Option (List Int)
 | []=>some []
 | .int b :: r=>match ZbV r with | some bs=>some (b :: bs) | none=>none
 |_ :: _=>none
theorem ZgE {K:PySem.W.Frag} {H:Hp} {α:List Addr}: ∀ {vs:List V} {ds:List D} {bs:List Int},Reps K H α vs ds->ZbV ds=some bs->vs=bs.map V.int
 |_,_,_,.nil,e=>by cases e;rfl
 |_,_,bs,.cons (d:=d) (ds:=ds) r t,e=>by
  cases r with
  |int b=>
   cases e1:ZbV ds with
   |none=>simp only[ZbV,e1] at e;cases e
   |some cs=>
    simp only[ZbV,e1,Option.some.injEq] at e
    subst e
    rw[ZgE t e1]
    rfl
  |_=>cases e
noncomputable def Zhc (X:Cx) (g:List Int->Option V):List V->Hp->VK->Prop:=fun vs H Q=> ∃ (p:Addr) (ns:List Int) (v:V),vs=[.ref p]/\SqL X.K H p (ns.map V.int)/\g ns=some v/\Q v H
theorem Zcj: ∀ {ns:List Int} {us:List Value} {i:Nat} {u:Value},Z8 (ns.map V.int) us->us[i]?=some u-> ∃ t,u= .int (ns.getD i 0) t
 | [],us,i,u,h,e=>by cases h;simp at e
 |b :: r,us,i,u,h,e=>by
  cases h with
  |cons h1 h2=>
   cases i with
   |zero=>simp at e;subst e;exact h1
   |succ i=>simp at e;obtain ⟨t,g⟩:=Zcj h2 e;exact ⟨t,by simpa using g⟩
theorem Zfh (hc:X.calm=true) {pins:List (Addr × Obj)} {σ:L2.St} {H:Hp} {s:Shared} {p:Addr} {ns:List Int} (I:Inv X pins σ H s) (hl:SqL X.K H p (ns.map V.int)) {Q:Value->Shared->Prop} {E:Value->Shared->Prop}
  (q: ∀ (its:List Value) (it:Addr),Z8 (ns.map V.int) its->its.length=ns.length->it=s.heap.objs.size->Walks X.prog X.w X.A.in1 it [it,p] [it] its.toArray.size (fun i v=>its.toArray[i]?=some v) (fun i h=>h.IsListIter it p i/\h.IsList p its.toArray)->
   (∀ b∈[it,p],b < (s.heap.push { cls:= .type "list_iterator",data:= .fields #[.ref p,.int 0 0] }).objs.size)->((s.heap.push { cls:= .type "list_iterator",data:= .fields #[.ref p,.int 0 0] }).IsListIter it p 0/\(s.heap.push { cls:= .type "list_iterator",data:= .fields #[.ref p,.int 0 0] }).IsList p its.toArray)->
   (∀ h' tk,(∀ b o,b ∉ [it]->(s.heap.push { cls:= .type "list_iterator",data:= .fields #[.ref p,.int 0 0] }).get? b=some o->h'.get? b=some o)->Inv X pins σ H { s with heap:=h',toks:=tk })->Q (.ref it) { s with heap:=s.heap.push { cls:= .type "list_iterator",data:= .fields #[.ref p,.int 0 0] } }):
  wpAny (model X.prog X.w) X.A.in1 (pyIter (.ref p)) Q E s:=by
 obtain ⟨its,hv,hp,hz⟩:=I.list hl
 have hlt:p < s.heap.objs.size:=by obtain ⟨_,e,_⟩:=hp.isList;exact Heap.lt_size e
 refine wpAny_pyIter_list hp.isList ?_
 refine q its s.heap.objs.size hv (by rw[<- hv.length,List.length_map]) rfl (Walks.list (A:=X.A.in1) (I.ok.hd hc) _ p (Nat.ne_of_lt hlt) its.toArray) (fun b hb=> ?_) ⟨⟨_,Heap.get?_push_size _ rfl,rfl,rfl⟩,hp.isList.push _⟩ fun h' tk hk=> ?_
 ·rw[Heap.size_push]
  simp only[List.mem_cons,List.not_mem_nil,or_false] at hb
  rcases hb with rfl | rfl
  ·exact Nat.lt_succ_self _
  ·exact Nat.lt_succ_of_lt hlt
 ·exact I.kept fun b o e=>hk b o (fun hm=>by rw[List.mem_singleton.mp hm] at e;exact Nat.lt_irrefl _ (Heap.lt_size e)) (Heap.get?_push_of_some _ e)
theorem Zj5 {ns:List Int} (h:0 < ns.length):ns.max?=some (ns.getD (argBest (fun i j=>decide (ns.getD i 0 > ns.getD j 0)) (ns.length - 1)) 0):=by
 obtain ⟨h1,h2⟩:=argBest_gt (fun i=>ns.getD i 0) (ns.length - 1)
 refine List.max?_eq_some_iff.mpr ⟨?_,fun b hb=> ?_⟩
 ·have hl:argBest (fun i j=>decide (ns.getD i 0 > ns.getD j 0)) (ns.length - 1) < ns.length:=by omega
  rw[List.getD_eq_getElem?_getD,List.getElem?_eq_getElem hl]
  exact List.getElem_mem hl
 ·obtain ⟨j,hj,rfl⟩:=List.getElem_of_mem hb
  have:=h2 j (by omega)
  rwa [show ns.getD j 0=ns[j] by rw[List.getD_eq_getElem?_getD,List.getElem?_eq_getElem hj];rfl] at this
theorem Zj6 {ns:List Int} (h:0 < ns.length):ns.min?=some (ns.getD (argBest (fun i j=>decide (ns.getD i 0 < ns.getD j 0)) (ns.length - 1)) 0):=by
 obtain ⟨h1,h2⟩:=argBest_lt (fun i=>ns.getD i 0) (ns.length - 1)
 refine List.min?_eq_some_iff.mpr ⟨?_,fun b hb=> ?_⟩
 ·have hl:argBest (fun i j=>decide (ns.getD i 0 < ns.getD j 0)) (ns.length - 1) < ns.length:=by omega
  rw[List.getD_eq_getElem?_getD,List.getElem?_eq_getElem hl]
  exact List.getElem_mem hl
 ·obtain ⟨j,hj,rfl⟩:=List.getElem_of_mem hb
  have:=h2 j (by omega)
  rwa [show ns.getD j 0=ns[j] by rw[List.getD_eq_getElem?_getD,List.getElem?_eq_getElem hj];rfl] at this
noncomputable def ZpM (ns:List Int):Option V:=ns.max?.map V.int
noncomputable def ZpN (ns:List Int):Option V:=ns.min?.map V.int
theorem Zck (hc:X.calm=true):Zcd X (.builtin "max") (Zhc X ZpM):=by
 intro pins s σ H vs us Q I rs hh
 obtain ⟨p,ns,v,e,hl,hg,q⟩:=hh
 subst e
 obtain ⟨u,rfl,ru⟩:=ZdH rs
 cases ru
 have hn:0 < ns.length:=by cases ns with | nil=>cases hg | cons _ _=>simp
 unfold ZpM at hg
 rw[Zj5 hn] at hg
 cases hg
 refine call_max_walk (Zfh hc I hl fun its it hv hlen ei W hfp st back=> ?_)
 refine ⟨it,_,_,_,_,_,_,rfl,W,st,hfp,by rw[List.size_toArray,hlen];exact hn,CmpOf.ints_gt (fun i=>ns.getD i 0) (fun i v hP=>Zcj hv (by simpa using hP)),fun v h' tk hP hk=>⟨_,H,back h' tk hk,?_,q⟩⟩
 rw[List.size_toArray,hlen] at hP
 exact Zcj hv (by simpa using hP)
theorem Zcl (hc:X.calm=true):Zcd X (.builtin "min") (Zhc X ZpN):=by
 intro pins s σ H vs us Q I rs hh
 obtain ⟨p,ns,v,e,hl,hg,q⟩:=hh
 subst e
 obtain ⟨u,rfl,ru⟩:=ZdH rs
 cases ru
 have hn:0 < ns.length:=by cases ns with | nil=>cases hg | cons _ _=>simp
 unfold ZpN at hg
 rw[Zj6 hn] at hg
 cases hg
 refine call_min_walk (Zfh hc I hl fun its it hv hlen ei W hfp st back=> ?_)
 refine ⟨it,_,_,_,_,_,_,rfl,W,st,hfp,by rw[List.size_toArray,hlen];exact hn,CmpOf.ints_lt (fun i=>ns.getD i 0) (fun i v hP=>Zcj hv (by simpa using hP)),fun v h' tk hP hk=>⟨_,H,back h' tk hk,?_,q⟩⟩
 rw[List.size_toArray,hlen] at hP
 exact Zcj hv (by simpa using hP)
noncomputable def Zcm (g:List Int->Option Int):List D->Sto->Out D:=fun ds M=>match ds with
 | [x]=>(match Ze2 M x with | some xs=>(match x with | .con _=> .bad | .tup _=> .bad | _=>(match ZbV xs with | some ns=>(match g ns with | some i=> .ok (.int i) M | none=> .bad) | none=> .bad)) | none=> .bad)
 |_=> .bad
theorem ZiG {g:List Int->Option Int} {gV:List Int->Option V} (hg: ∀ ns i,g ns=some i->gV ns=some (.int i)):CO X ξ (Zhc X gV) (Zcm g):=by
 intro H α M vs ds Q h rs q
 unfold Zcm at q
 match rs with
 | .nil=>exact q.elim
 | .cons _ (.cons _ _)=>exact q.elim
 | .cons (d:=x) r .nil=>
  have fin: ∀ (p:Addr) (xs:List V) (ys:List D),SqL X.K H p xs->Reps X.K H α xs ys->OP X.K H α ξ Q (match ZbV ys with | some ns=>(match g ns with | some i=> .ok (.int i) M | none=> .bad) | none=> .bad)->Zhc X gV [.ref p] H Q:=fun p xs ys k1 k2 q=>by
   cases e1:ZbV ys with
   |none=>rw[e1] at q;exact q.elim
   |some ns=>
    cases e2:g ns with
    |none=>simp only[e1,e2] at q;exact q.elim
    |some i=>
     simp only[e1,e2] at q
     have:=ZgE k2 e1
     subst this
     exact ⟨p,ns,.int i,rfl,k1,hg _ _ e2,q _ H α Ext.refl h (.int i)⟩
  cases r with
  | @rol p xs ds hp rp=>exact fin p xs ds hp.sq rp q
  | @ref p n hp=>
   cases em:M[n]? with
   |none=>simp only[Ze2,em] at q;exact q.elim
   |some so=>
    cases so with
    |lst es=>
     simp only[Ze2,em] at q
     obtain ⟨xs,g1,g2⟩:=h.at hp em
     exact fin p xs es (SqL.of g1) g2 q
  |tup _ _=>exact q.elim
  |con _ _=>exact q.elim
  |_=>exact q.elim
theorem Zep:CO X ξ (Zhc X ZpM) (Zcm List.max?):=ZiG fun ns i e=>by unfold ZpM;rw[e];rfl
theorem Zeq:CO X ξ (Zhc X ZpN) (Zcm List.min?):=ZiG fun ns i e=>by unfold ZpN;rw[e];rfl
end
end DL
end
section
namespace DL
open PySem PySem.Spec PyProof.Rows L2
noncomputable def kK:D->Option Key
 | .int i=>some (.inl i)
 | .str x=>some (.inr x)
 |_=>none
noncomputable def kKs:List D->Option (List Key)
 | []=>some []
 |d :: r=>match kK d,kKs r with | some k,some ks=>some (k :: ks) | _,_=>none
noncomputable def kT:D->Option (List Key)
 | .tup ds=>kKs ds
 |_=>none
theorem ZnS {d:D} {k:Key} (h:kK d=some k):d=Zjp k:=by
 cases d<;>first | (cases h;rfl) | cases h
theorem ZiH (k:Key):kK (Zjp k)=some k:=by cases k<;>rfl
theorem ZiI: ∀ {ds:List D} {ks:List Key},kKs ds=some ks->ds=ks.map Zjp
 | [],ks,h=>by cases h;rfl
 |d :: r,ks,h=>by
  unfold kKs at h
  split at h
  ·rename_i k ks' e1 e2
   cases h
   rw[List.map_cons,<- ZnS e1,<- ZiI e2]
  ·cases h
theorem ZgF: ∀ (ks:List Key),kKs (ks.map Zjp)=some ks
 | []=>rfl
 |k :: ks=>by rw[List.map_cons,kKs,ZiH,ZgF ks]
theorem ZnT {d:D} {ks:List Key} (h:kT d=some ks):d=Zef ks:=by
 cases d with
 |tup ds=>rw[Zef,<- ZiI h]
 |_=>cases h
theorem ZgG (ks:List Key):kT (Zef ks)=some ks:=ZgF ks
section
variable {κ:Type} [DecidableEq κ]
noncomputable def ZhD (dec:D->Option κ) (k:κ):List D->Option D
 | []=>none
 | .tup [a,v] :: r=>if dec a=some k then some v else ZhD dec k r
 |_ :: r=>ZhD dec k r
noncomputable def ZnU (dec:D->Option κ) (k:κ) (v:D) (ds:List D):List D:=ds.map fun e=>match e with | .tup [a,w]=>if dec a=some k then .tup [a,v] else e | e=>e
noncomputable def ZpO (dec:D->Option κ) (k:κ) (kd v:D) (ds:List D):List D:=if (ZhD dec k ds).isSome then ZnU dec k v ds else ds ++ [.tup [kd,v]]
variable {K:PySem.W.Frag} {H H':Hp} {α α':List Addr} {key:κ->D} {dec:D->Option κ}
theorem ZiJ:Za1 K H α key [] []:=⟨[],rfl,.nil⟩
theorem Zcn (hd: ∀ k,dec (key k)=some k): ∀ {kvs:List (κ × V)} {es:List D} (k:κ),Reps K H α (kvs.map (·.2)) es->
  match ZhD dec k (List.zipWith (fun kv e=>D.tup [key kv.1,e]) kvs es) with | none=>ZfG kvs k=none | some d=> ∃ v,ZfG kvs k=some v/\Rep K H α v d
 | [],es,k,h=>by cases h;rfl
 | (k',v) :: kvs,_,k,.cons r t=>by
  simp only[List.zipWith_cons_cons,ZhD,hd,Option.some.injEq]
  by_cases c:k'=k
  ·rw[if_pos c]
   exact ⟨v,ZcY (p:=(k',v)) c,r⟩
  ·rw[if_neg c]
   have:=Zcn hd k t
   have e:ZfG ((k',v) :: kvs) k=ZfG kvs k:=ZcZ (p:=(k',v)) c
   rw[e]
   exact this
theorem Zfi (hd: ∀ k,dec (key k)=some k) {w:V} {d:D} (rw':Rep K H α w d): ∀ {kvs:List (κ × V)} {es:List D} (k:κ),Reps K H α (kvs.map (·.2)) es->
  ∃ es',ZnU dec k d (List.zipWith (fun kv e=>D.tup [key kv.1,e]) kvs es)=List.zipWith (fun kv e=>D.tup [key kv.1,e]) (kvs.map fun kv=>if kv.1=k then (kv.1,w) else kv) es'/\Reps K H α ((kvs.map fun kv=>if kv.1=k then (kv.1,w) else kv).map (·.2)) es'
 | [],es,k,h=>by cases h;exact ⟨[],rfl,.nil⟩
 | (k',v) :: kvs,_,k,.cons (d:=dv) (ds:=es) r t=>by
  obtain ⟨es',h1,h2⟩:=Zfi hd rw' k t
  unfold ZnU at h1
  by_cases c:k'=k
  ·refine ⟨d :: es',?_,?_⟩
   ·simp only[ZnU,List.zipWith_cons_cons,List.map_cons,hd,Option.some.injEq,if_pos c,h1]
   ·simp only[List.map_cons,if_pos c]
    exact .cons rw' h2
  ·refine ⟨dv :: es',?_,?_⟩
   ·simp only[ZnU,List.zipWith_cons_cons,List.map_cons,hd,Option.some.injEq,if_neg c,h1]
   ·simp only[List.map_cons,if_neg c]
    exact .cons r h2
theorem ZgH {α' β γ:Type} {f:α'->β->γ} {x:α'} {y:β}: ∀ {xs:List α'} {ys:List β},xs.length=ys.length->List.zipWith f (xs ++ [x]) (ys ++ [y])=List.zipWith f xs ys ++ [f x y]
 | [],[],_=>rfl
 |a :: xs,b :: ys,h=>by simp[ZgH (xs:=xs) (ys:=ys) (by simpa using h)]
theorem ZiK (hd: ∀ k,dec (key k)=some k) {kvs:List (κ × V)} {ds:List D} {w:V} {d:D} (k:κ) (h:Za1 K H α key kvs ds) (r:Rep K H α w d):Za1 K H α key (Zh6 kvs k w) (ZpO dec k (key k) d ds):=by
 obtain ⟨es,rfl,hr⟩:=h
 have pv:=Zcn hd k hr
 have an:=Zee k kvs
 unfold Zh6 ZpO
 cases e:ZhD dec k (List.zipWith (fun kv e=>D.tup [key kv.1,e]) kvs es) with
 |none=>
  rw[e] at pv
  rw[if_neg (by rw[an,pv];simp),if_neg (by simp)]
  refine ⟨es ++ [d],?_,?_⟩
  ·rw[ZgH (by rw[<- hr.length,List.length_map])]
  ·rw[List.map_append]
   exact hr.append (.cons r .nil)
 |some x=>
  rw[e] at pv
  obtain ⟨v,hv,_⟩:=pv
  rw[if_pos (by rw[an,hv];rfl),if_pos (show (some x).isSome=true from rfl)]
  exact Zfi hd r k hr
theorem ZiL {kvs:List (κ × V)} {ds:List D} (h:Za1 K H α key kvs ds):kvs.length=ds.length:=by
 obtain ⟨es,rfl,hr⟩:=h
 have:=hr.length
 rw[List.length_map] at this
 simp[this]
theorem Zhd {kvs:List (κ × V)} {ds:List D} (h:Za1 K H α key kvs ds) (e:Ext K H H' α α'):Za1 K H' α' key kvs ds:=by
 obtain ⟨es,h1,h2⟩:=h
 exact ⟨es,h1,Reps.mono e h2⟩
end
noncomputable def Zqj (K:PySem.W.Frag) (H:Hp) (α:List Addr) (o:Option D) (ov:Option V):Prop:=match o with | none=>ov=none | some d=> ∃ u,ov=some u/\Rep K H α u d
theorem Ztp {a b:Nat} (h:a + 64 < b):a + 1 < b:=by omega
noncomputable def ZiM (M:Sto) (x k:D):Option (Option D):=match x with
 | .dk n=>(match kK k,M[n]? with | some kk,some (.lst ds)=>some (ZhD kK kk ds) | _,_=>none)
 | .dt n=>(match kT k,M[n]? with | some kk,some (.lst ds)=>some (ZhD kT kk ds) | _,_=>none)
 |_=>none
section
variable {X:Cx} {ξ:XK} {H:Hp} {α:List Addr} {M:Sto}
theorem ZiN {v:V} {d:D} {k:Key} (r:Rep X.K H α v d) (e:kK d=some k):v=kV k:=by
 cases r with
 |int i=>cases e;rfl
 |str x=>cases e;rfl
 |_=>cases e
theorem Zer: ∀ {vs:List V} {ds:List D} {ks:List Key},Reps X.K H α vs ds->kKs ds=some ks->vs=ks.map kV
 |_,_,ks,.nil,e=>by cases e;rfl
 |_,_,ks,.cons (d:=d) (ds:=ds) r t,e=>by
  unfold kKs at e
  split at e
  ·rename_i k ks' e1 e2
   cases e
   rw[List.map_cons,ZiN r e1,Zer t e2]
  ·cases e
theorem ZlK (h:HR X.K H α M) {v w:V} {x k:D} {o:Option D} (r:Rep X.K H α v x) (rk:Rep X.K H α w k) (e:ZiM M x k=some o):
  ∃ a ov,v= .ref a/\Zqc H a w ov/\IsD H a/\Zqj X.K H α o ov:=by
 cases r with
 | @dk p n hp=>
  simp only[ZiM] at e
  split at e
  ·rename_i kk ds e1 e2
   cases e
   obtain ⟨kvs,es,g1,g2,ed⟩: ∃ kvs es,Rd H p (.dK kvs)/\Reps X.K H α (kvs.map (·.2)) es/\ZhD kK kk ds=ZhD kK kk (List.zipWith (fun kv e=>D.tup [Zjp kv.1,e]) kvs es):=by
    rcases h.atK hp e2 with ⟨kvs,g1,es,rfl,g2⟩ | ⟨o,kvs,_,g1,rfl,es,rfl,g2⟩
    ·exact ⟨kvs,es,.inl g1,g2,rfl⟩
    ·exact ⟨kvs,es,.inr ⟨o,g1⟩,g2,rfl⟩
   rw[ed]
   have pv:=Zcn ZiH kk g2
   refine ⟨p,ZfG kvs kk,rfl,.inl ⟨kvs,kk,g1,ZiN rk e1,rfl⟩,.inl ⟨kvs,g1⟩,?_⟩
   unfold Zqj
   exact pv
  ·cases e
 | @dt p n hp=>
  simp only[ZiM] at e
  split at e
  ·rename_i kk ds e1 e2
   cases e
   obtain ⟨kvs,es,g1,g2,ed⟩: ∃ kvs es,Rd H p (.dT kvs)/\Reps X.K H α (kvs.map (·.2)) es/\ZhD kT kk ds=ZhD kT kk (List.zipWith (fun kv e=>D.tup [Zef kv.1,e]) kvs es):=by
    rcases h.atT hp e2 with ⟨kvs,g1,es,rfl,g2⟩ | ⟨o,kvs,_,g1,rfl,es,rfl,g2⟩
    ·exact ⟨kvs,es,.inl g1,g2,rfl⟩
    ·exact ⟨kvs,es,.inr ⟨o,g1⟩,g2,rfl⟩
   rw[ed]
   have pv:=Zcn ZgG kk g2
   cases rk with
   | @tup b xs ds' hb rb=>
    refine ⟨p,ZfG kvs kk,rfl,.inr ⟨kvs,kk,b,g1,rfl,by rw[hb,Zer rb e1],rfl⟩,.inr ⟨kvs,g1⟩,?_⟩
    unfold Zqj
    exact pv
   |_=>cases e1
  ·cases e
 |_=>cases e
end
section
variable {X:Cx} {ξ:XK} {o i e:Expr} {fo fi f:Ev} {pos pos':Pos}
noncomputable def Zr8 (neg:Bool):R2:=fun v w H Q=> ∃ a o,w= .ref a/\Zqc H a v o/\Q (.bl (neg ^^ o.isSome)) H
noncomputable def Zqk (neg:Bool):Bo:=fun k x M=>match ZiM M x k with | some o=> .ok (.bl (neg ^^ o.isSome)) M | none=> .bad
theorem ZnV (hu:X.A.units + 64 < cLine):OpR X (compareOp .In) (Zr8 false):=by
 intro pins s σ H x y v u Q I rx ry ⟨a,ov,e1,g,q⟩
 subst e1
 cases (show u=Value.ref a from ry)
 exact Zti (Ztp hu) I g rx fun s' I'=>⟨.bl ov.isSome,H,I',rfl,by simpa using q⟩
theorem ZnW {neg:Bool}:BO X ξ (Zr8 neg) (Zqk neg):=by
 intro H α M v w x y Q h r1 r2 q
 unfold Zqk at q
 cases eg:ZiM M y x with
 |none=>rw[eg] at q;exact q.elim
 |some oo=>
  rw[eg] at q
  obtain ⟨a,ov,g1,g2,_,g4⟩:=ZlK h r2 r1 eg
  have es:ov.isSome=oo.isSome:=by
   cases oo with
   |none=>rw[show ov=none from g4];rfl
   |some d=>obtain ⟨u,rfl,_⟩:=g4;rfl
  exact ⟨a,ov,g1,g2,by rw[es];exact q _ H α Ext.refl h (.bl _)⟩
noncomputable def Zr9 (M:Sto) (x k d:D):Option Sto:=match x with
 | .dk n=>(match kK k,M[n]? with | some kk,some (.lst ds)=>if ds.length < 10000000/\nfz ds=true then some (M.set n (.lst (ZpO kK kk k d ds))) else none | _,_=>none)
 | .dt n=>(match kT k,M[n]? with | some kk,some (.lst ds)=>if ds.length < 10000000/\nfz ds=true then some (M.set n (.lst (ZpO kT kk k d ds))) else none | _,_=>none)
 |_=>none
end
end DL
end
section
namespace DL
open PySem PySem.Spec PyProof.Rows L2
section
variable {X:Cx} {ξ:XK} {tg a:Expr} {fs:Av} {p pos:Pos} {ta:TA}
noncomputable def iRv (fs:Av):Ro->Sto->Out Src:=fun ρ M=>(fs ρ M).bind fun ds M1=>match ds with | [.ref n]=>(match M1[n]? with | some (.lst xs)=> .ok (.rev n xs.length) M1 | none=> .bad) | _=> .bad
end
end DL
end
section
namespace DL
open PySem PySem.Spec PyProof.Rows L2
section
variable {X:Cx} {ξ:XK} {e e1 e2:Expr} {es:List Expr} {f:Ev} {pos:Pos}
noncomputable def eFm (f:Ev):Ev:=fun ρ M=>(f ρ M).bind fun x M1=>match x with
 | .int i=>if i.natAbs.log2 < 1900 then .ok (.str (Str.ofString (toString i))) M1 else .bad
 | .str y=>if y.length<=100000 then .ok (.str y) M1 else .bad
 |_=> .bad
theorem ZlL (ha:DE X ξ e f):DE X ξ (.FormattedValue e (-1) none pos) (eFm f):=by
 obtain ⟨ta,pa,qa⟩:=ha
 refine ⟨fun σ H Q=>ta σ H fun x H1=>(∃ i,x= .int i/\i.natAbs.log2 < 1900/\Q (.str (Str.ofString (toString i))) H1)\/ ∃ y,x= .str y/\y.length<=100000/\Q (.str y) H1,fun pins s σ H Q I h=> ?_,fun σ ρ H α M Q s h q=> ?_⟩
 ·refine wpAny_FormattedValue_plain (wpAny_mono (pa pins s σ H _ I h) (fun v s1 ⟨x,H1,I1,r1,q1⟩=> ?_) fun _ _ z=>z)
  rcases q1 with ⟨i,rfl,hi,q⟩ | ⟨y,rfl,hy,q⟩
  ·obtain ⟨t,rfl⟩:=r1
   exact wpAny_formatField_int (by omega) ⟨.str (Str.ofString (toString i)),H1,I1.tok _,⟨_,rfl⟩,q⟩
  ·obtain ⟨t,rfl⟩:=r1
   exact wpAny_formatField_str ⟨.str y,H1,I1,⟨_,rfl⟩,q⟩ ⟨.str y,H1,I1.tok _,⟨_,rfl⟩,q⟩ (Nat.le_trans hy (by rw[sizeLine_eq];decide))
 ·refine qa σ ρ H α M _ s h (OG.seq q fun x M1 v H1 α1 e1 h1 r1 q1=> ?_)
  cases r1 with
  |int i=>
   by_cases hi:i.natAbs.log2 < 1900
   ·simp only[hi,if_true] at q1
    exact .inl ⟨i,rfl,hi,q1 _ H1 α1 Ext.refl h1 (.str _)⟩
   ·simp only[hi,if_false] at q1
    exact q1.elim
  |str y=>
   by_cases hi:y.length<=100000
   ·simp only[hi,if_true] at q1
    exact .inr ⟨y,rfl,hi,q1 _ H1 α1 Ext.refl h1 (.str _)⟩
   ·simp only[hi,if_false] at q1
    exact q1.elim
  |_=>exact q1.elim
noncomputable abbrev Jv:=Str->Ro->Sto->Out Str
noncomputable def PJ (X:Cx) (es:List Expr) (t:L2.St->Hp->Str->(Str->Hp->Prop)->Prop):Prop:=
 ∀ (pins:List (Addr × Obj)) (s:Shared) (σ:L2.St) (H:Hp) (acc:Str) (Q:Str->Hp->Prop),Inv X pins σ H s->t σ H acc Q->Joins (model X.prog X.w) X.A X.xe (evalEach es X.env) acc (fun out s1=>out.length<=100000/\ ∃ H',Inv X pins σ H' s1/\Q out H') s
noncomputable def DJ (X:Cx) (ξ:XK) (es:List Expr) (g:Jv):Prop:= ∃ t,PJ X es t/\ ∀ σ ρ H α M acc (Q:Str->Hp->Prop),SR X.K H α σ ρ->HR X.K H α M->OG X.K (fun _ _ v d=>v=d) H α ξ Q (g acc ρ M)->t σ H acc Q
noncomputable def jNil:Jv:=fun acc _ M=>if acc.length<=100000 then .ok acc M else .bad
noncomputable def Zb4 (f:Ev) (g:Jv):Jv:=fun acc ρ M=>(f ρ M).bind fun x M1=>match x with
 | .str y=>if (acc ++ y).length<=100000 then g (acc ++ y) ρ M1 else .bad
 |_=> .bad
noncomputable def eFs (g:Jv):Ev:=fun ρ M=>(g Str.empty ρ M).bind fun x M1=> .ok (.str x) M1
theorem ZkM:DJ X ξ [] jNil:=by
 refine ⟨fun σ H acc Q=>acc.length<=100000/\Q acc H,fun pins s σ H acc Q I h=>⟨h.1,H,I,h.2⟩,fun σ ρ H α M acc Q s h q=> ?_⟩
 unfold jNil at q
 by_cases hl:acc.length<=100000
 ·rw[if_pos hl] at q
  exact ⟨hl,q acc H α Ext.refl h rfl⟩
 ·rw[if_neg hl] at q
  exact q.elim
theorem ZbM {g:Jv} (ha:DE X ξ e f) (hr:DJ X ξ es g):DJ X ξ (e :: es) (Zb4 f g):=by
 obtain ⟨ta,pa,qa⟩:=ha
 obtain ⟨tr,pr',qr⟩:=hr
 refine ⟨fun σ H acc Q=>ta σ H fun x H1=> ∃ y,x= .str y/\(acc ++ y).length<=100000/\tr σ H1 (acc ++ y) Q,fun pins s σ H acc Q I h=> ?_,fun σ ρ H α M acc Q s h q=> ?_⟩
 ·show wpAny _ _ (eval e X.env) _ _ s
  refine wpAny_mono (pa pins s σ H _ I h) (fun v s1 ⟨x,H1,I1,r1,q1⟩=> ?_) fun _ _ z=>z
  obtain ⟨y,rfl,hy,q⟩:=q1
  obtain ⟨t,rfl⟩:=r1
  exact ⟨y,t,rfl,Nat.le_trans hy (by rw[sizeLine_eq];decide),pr' pins s1 σ H1 (acc ++ y) Q I1 q⟩
 ·refine qa σ ρ H α M _ s h (OG.seq q fun x M1 v H1 α1 e1 h1 r1 q1=> ?_)
  cases r1 with
  |str y=>
   by_cases hi:(acc ++ y).length<=100000
   ·simp only[hi,if_true] at q1
    exact ⟨y,rfl,hi,qr σ ρ H1 α1 M1 (acc ++ y) Q (s.mono e1) h1 q1⟩
   ·simp only[hi,if_false] at q1
    exact q1.elim
  |_=>exact q1.elim
theorem ZnX {g:Jv} (h:DJ X ξ (e1 :: e2 :: es) g):DE X ξ (.JoinedStr (e1 :: e2 :: es) pos) (eFs g):=by
 obtain ⟨t,pj,qj⟩:=h
 refine ⟨fun σ H Q=>t σ H Str.empty fun x H1=>Q (.str x) H1,fun pins s σ H Q I h=> ?_,fun σ ρ H α M Q s h q=> ?_⟩
 ·refine wpAny_JoinedStr ?_
  have:=pj pins s σ H Str.empty _ I h
  have mono: ∀ (ms:List (Sem Value)) (acc:Str) (P R:Str->Shared->Prop) (s:Shared),(∀ o s,P o s->R o s)->Joins (model X.prog X.w) X.A X.xe ms acc P s->Joins (model X.prog X.w) X.A X.xe ms acc R s:=by
   intro ms
   induction ms with
   |nil=>intro acc P R s hp hj;exact hp _ _ hj
   |cons m r ih=>
    intro acc P R s hp hj
    exact wpAny_mono hj (fun v s1 ⟨y,t,e,l,k⟩=>⟨y,t,e,l,ih _ P R s1 hp k⟩) fun _ _ z=>z
  refine mono _ _ _ _ s (fun o s1 ⟨hl,H',I',q⟩=> ?_) this
  exact ⟨Nat.le_trans hl (by rw[sizeLine_eq];decide),.str o,H',I'.tok _,⟨_,rfl⟩,q⟩
 ·refine qj σ ρ H α M Str.empty _ s h (OG.seq q fun x M1 v H1 α1 e1 h1 r1 q1=> ?_)
  cases r1
  exact q1 _ H1 α1 Ext.refl h1 (.str x)
end
end DL
end
section
namespace DL
open PySem PySem.Spec PyProof.Rows L2
theorem Zhe {β γ:Type} {o:Out β} {f:β->Sto->Out γ} {g:γ->Sto->Fl}:Za2 (o.bind f) g=Za2 o fun x M=>Za2 (f x M) g:=by cases o<;>rfl
section
variable {X:Cx} {ξ:XK} {tg iter elt:Expr} {ifs:List Expr} {scope:Scope} {cl:List (Str × Addr)} {N:List Str} {k:Nat} {fr:List Nat} {fi:Ro->Sto->Out Src} {gt:Tg} {c:Tv} {f:Ev} {pos:Pos}
theorem Zes (iv:Nat) {x:Str} {pos' spos:Pos} (hN:X.N.Nodup) (B:Blk X scope cl N k fr) (hi:DI X ξ tg iter fi) (hg: ∀ C fp s H,DG (blk X scope cl N C fp s H) tg gt) (ht: ∀ C fp s H,DC (blk X scope cl N C fp s H) ifs c) (he: ∀ C fp s H,DE (blk X scope cl N C fp s H) E0 elt f)
  (hiv:X.N[iv]?=some x:=by rfl) (hxl:Loc X.env.scope x:=by first | exact Or.inl rfl | exact Or.inr rfl) (hm:X.may iv=true:=by rfl) (hsw:swapsWith (.ListComp elt [⟨tg,iter,ifs,0⟩] scope pos) (some (.Name x pos')) spos.line X.env=pure true:=by rfl) (hf:X.fn x=true\/X.env.scope.names.lookup x=some .local:=by first | exact .inl rfl | exact .inr rfl | assumption)
  (hs: ∀ x,foldedSetIterable iter X.env x=pure x:=by intro _;rfl):DS X ξ (.Assign [.Name x pos'] (.ListComp elt [⟨tg,iter,ifs,0⟩] scope pos) spos) (ZJ (gNm iv) (Za3 fi k fr gt c f)):=by
 obtain ⟨wi,pi,qi⟩:=hi
 refine ⟨fun Dn σ H=> ∃ ρ α M,SR X.K H α σ ρ/\HR X.K H α M/\FP X.K H α ξ Dn (ZJ (gNm iv) (Za3 fi k fr gt c f) ρ M),?_,fun σ ρ H α M Dn s h q=>⟨ρ,α,M,s,h,q⟩⟩
 rintro pins s σ H Dn I ⟨ρ,α,M,sr,hr,op⟩
 rw[exec_Assign_Name_used _ _ _ _ hsw]
 refine wpAny_bind (wpAny_standAt (wpAny_bind ?_))
 show wpAny _ X.A (do let _ <- comprehension (.ListComp elt [⟨tg,iter,ifs,0⟩] scope pos) scope X.env _ (newList []) false (eval iter X.env) (some (assign (.Name x pos') X.env))) _ _ s
 have op:FP X.K H α ξ Dn (Za2 (fi ρ M) fun src M1=>Za2 (match ZdG src gt c f M1.length (cnt src M1) 0 (roB k fr ρ) (M1 ++ [.lst []]) with | .ok _ M2'=> .ok (.ref M1.length) M2' | _=> .bad) fun d M1=>Fl.nx (ρ.set iv (some d)) M1):=by
  have e:ZJ (gNm iv) (Za3 fi k fr gt c f) ρ M=(Za2 (fi ρ M) fun src M1=>Za2 (match ZdG src gt c f M1.length (cnt src M1) 0 (roB k fr ρ) (M1 ++ [.lst []]) with | .ok _ M2'=> .ok (.ref M1.length) M2' | _=> .bad) fun d M1=>Fl.nx (ρ.set iv (some d)) M1):=by
   unfold ZJ Za3
   rw[Zhe]
   rfl
  rw[<- e]
  exact op
 refine wpAny_bind (wpAny_mono (wpAny_comprehension_free (Q:=fun _ s'=>SP X pins Dn .next s') (use:=some (assign (.Name x pos') X.env)) rfl hs B.clos B.kind B.names ?_) (fun _ s' hq=>wpAny_pure (wpAny_pure hq)) fun _ _ e=>e)
 refine thn (pi pins s σ H (fun J H2=> ∃ α2 M2 src,Ext X.K H H2 α α2/\HR X.K H2 α2 M2/\Zlu X.K H2 α2 J src/\FP X.K H2 α2 ξ Dn (Za2 (match ZdG src gt c f M2.length (cnt src M2) 0 (roB k fr ρ) (M2 ++ [.lst []]) with | .ok _ M2'=> .ok (.ref M2.length) M2' | _=> .bad) fun d M1=>Fl.nx (ρ.set iv (some d)) M1)) I
  (qi σ ρ H α M _ sr hr (FP.seq op fun src M1 J H1 α1 e1 h1 r1 q1=>⟨α1,M1,src,e1,h1,r1,q1⟩))) fun v s1 w1=>thn w1 fun itv s2 w2=> ?_
 obtain ⟨it,fp,tn,J,H2,rfl,I2,T,st2,f2,α2,M2,src,e2,h2,sc,op2⟩:=w2
 have srI:=sr.mono e2
 refine wpAny_newObj_type ?_
 have I3:Inv X pins σ (upd H2 s2.heap.objs.size (.lst [])) { s2 with heap:=s2.heap.push { cls:= .type "list",data:= .seq ([]:List Value).toArray } }:=I2.lnew (its:=[]) (t':=s2.toks) .nil (Nat.zero_le _)
 have fD:H2 s2.heap.objs.size=none:=I2.fresh
 generalize hD:s2.heap.objs.size=D at I3 fD
 generalize hs3:({ s2 with heap:=s2.heap.push { cls:= .type "list",data:= .seq ([]:List Value).toArray } }:Shared)=s3 at I3
 generalize hH3:upd H2 D (.lst [])=H3 at I3
 have h3:HR X.K H3 (α2 ++ [D]) (M2 ++ [.lst []]):=by rw[<- hH3];exact h2.new fD .nil
 have e3:Ext X.K H2 H3 α2 (α2 ++ [D]):=by rw[<- hH3];exact Ext.new fD
 have aD:RefK H3 (α2 ++ [D]) 0 M2.length D:=⟨h2.last D,by first | exact Kn.lst ZC | (rw[<- hH3];exact Kn.lst ZC)⟩
 have lt2: ∀ b∈fp,b < s2.heap.objs.size:=fun b hb=>let ⟨o,e,_⟩:=T.obj _ _ st2 b hb;Heap.lt_size e
 have keep3: ∀ b o,s2.heap.get? b=some o->s3.heap.get? b=some o:=fun b o e=>by rw[<- hs3];exact Heap.get?_push_of_some _ e
 have f3: ∀ b∈fp,ZdS X pins H3 b:=fun b hb=>⟨by rw[<- hH3,ZI (by rw[<- hD];exact Nat.ne_of_lt (lt2 b hb))];exact (f2 b hb).1,(f2 b hb).2⟩
 have lt3: ∀ b∈fp,b < s3.heap.objs.size:=fun b hb=>let ⟨o,e,_⟩:=T.obj _ _ st2 b hb;Heap.lt_size (keep3 b o e)
 have st3:tn 0 s3.heap:=T.keep _ _ _ st2 fun b _ o e=>keep3 b o e
 refine wpAny_newFunctionEnv B.cell (by intro y hy;simp at hy) (fun h₁ hns₁ hsb₁=> ?_) B.kind
 have keep4: ∀ b o,s3.heap.get? b=some o->h₁.get? b=some o:=fun b o e=>hsb₁.extBut b o (Nat.ne_of_lt (Heap.lt_size e)) (Heap.get?_push_of_some _ e)
 have I4:=ZfS (tk:=s3.toks + ([]:List (Str × Value)).length) B I3 f3 lt3 hns₁ keep4
 have st4:tn 0 h₁:=T.keep _ _ _ st3 fun b _ o e=>keep4 b o e
 have fp5: ∀ {H':Hp},(∀ b∈fp,H' b=none)-> ∀ b∈fp,ZdS (blk X scope cl N s3.heap.objs.size fp s3 H3) [] H' b:=fun hn b hb=>⟨hn b hb,Nat.ne_of_lt (lt3 b hb),(Zgz B I3 f3 lt3).exfs b hb,.inl hb,fun x c h=>(f3 b hb).2.2.2.2.1 x c (B.sub x c h),fun p hp=>(by simp[blk] at hp)⟩
 cases er:ZdG src gt c f M2.length (cnt src M2) 0 (roB k fr ρ) (M2 ++ [.lst []]) with
 |exc x M9=>rw[er] at op2;exact op2.elim
 |bad=>rw[er] at op2;exact op2.elim
 |ok u9 M9=>
  rw[er] at op2
  have loop:codeAny (model X.prog X.w) X.A (.compLoop (.ListComp elt [⟨tg,iter,ifs,0⟩] scope pos) 0 (.ref it) (.ref D) (compEnvC scope cl s3.heap.objs.size X.env)) (compPost (model X.prog X.w) X.A X.xe (some (assign (.Name x pos') X.env)) (fun _ s'=>SP X pins Dn .next s') (.ref D) s3.heap.objs.size) { s3 with heap:=h₁,toks:=s3.toks + ([]:List (Str × Value)).length }:=by
   refine ZgA (Y:=blk X scope cl N s3.heap.objs.size fp s3 H3) T (fun _ _ z=>z) fp5 (hg _ fp s3 H3) (ht _ fp s3 H3) (he _ fp s3 H3) (fun i H' α' M' ex hr=>sc i H' α' M' (e3.trans ex) hr) aD I4 st4 (fun b hb=>(f3 b hb).1) ((srI.blk).mono e3) h3 er ?_
   intro σ5 H5 α5 s6 I6 ex5 hr5
   obtain ⟨I7,tu⟩:=Zek B I3 f3 I6
   obtain ⟨m6,hm6,_⟩:=id I6.loc
   refine wpAny_assign_Name (ZeP (v:= .ref D) I7 hN hiv hxl hm rfl (fun s8 I8 ⟨a,sb8,ha⟩=> ?_) hf)
   have nca:s3.heap.objs.size≠a:=by
    rcases ha with e | e
    ·rw[e];exact Nat.ne_of_gt I3.lt
    ·intro z
     obtain ⟨v,o,e',_⟩:=I3.cell x a e
     exact absurd (Heap.lt_size e') (by rw[<- z];exact Nat.lt_irrefl _)
   exact ⟨m6,hm6.sameBut sb8 nca,fun h' sb=>⟨_,H5,tu _ s8 h' I8 (fun b o hb e=>(sb.2 b hb).trans e),op2 _ H5 α5 (e3.trans ex5) hr5 ((srI.mono (e3.trans ex5)).set iv (.ref (ex5.get aD)))⟩⟩
  exact codeAny_compStart_list loop (T.self X.A 0 _ _ _ st4 loop)
end
end DL
end
section
namespace DL
open PySem PySem.Spec PyProof.Rows L2
noncomputable def Ztq:Bo:=fun x y M=>match x,y with
 | .ref n,.int k=>match M[n]? with
  |some (.lst xs)=>if (-9223372036854775808<=k/\k < 9223372036854775808)/\xs.length * k.toNat<=100000 then .ok (.ref M.length) (M ++ [.lst (List.replicate k.toNat xs).flatten]) else .bad
  |none=> .bad
 |_,_=> .bad
section
variable {X:Cx} {ξ:XK} {a b:Expr} {fa fb:Ev} {pos:Pos}
end
end DL
end
namespace DL
open PySem PySem.Spec L2
open PySem.W
section
variable {prog:Program} {w:World} {A:Around} {E:Value->Shared->Prop} {s:Shared}
end
section
variable {prog:Program} {w:World} {A:Around} {s:Shared} {R:Result->Shared->Prop}
variable {I:Addr} {fp wr:List Addr} {G:Array GenState->Array GenState->Prop} {n:Nat} {P:Nat->Value->Prop} {St:Nat->Shared->Prop}
end
section
variable {prog:Program} {w:World} {A:Around} {E:Value->Shared->Prop} {s:Shared}
variable {I:Addr} {fp wr:List Addr} {G:Array GenState->Array GenState->Prop} {n:Nat} {P:Nat->Value->Prop} {St:Nat->Shared->Prop}
end
section
variable {X:Cx} {ξ:XK} {a:Expr} {fs:Av} {p1 p2 p3 pos:Pos} {ta:TA}
end
end DL
section
namespace DL3
open PySem PySem.Spec PyProof.Rows L2 DL
open Sem (wp)
section
variable {prog:Program} {w:World} {A:Around} {E:Value->Shared->Prop} {s:Shared}
end
section
variable {prog:Program} {w:World} {A:Around} {E:Value->Shared->Prop} {s:Shared}
end
section
variable {X:Cx} {ξ:XK} {y1 y2 y3:Expr} {elts:List Expr} {k0:Nat} {tp:Pos} {fs:Av} {p pos:Pos} {ta:TA}
end
end DL3
end
section
namespace DL4
open PySem PySem.Spec PyProof.Rows L2 DL
open Sem (wp)
section
variable {prog:Program} {w:World} {A:Around} {E:Value->Shared->Prop} {s:Shared}
end
section
variable {prog:Program} {w:World} {A:Around} {E:Value->Shared->Prop} {s:Shared}
end
section
variable {X:Cx} {ξ:XK} {y1 y2 y3 y4:Expr} {elts:List Expr} {k0:Nat} {tp:Pos} {fs:Av} {p pos:Pos} {ta:TA}
end
end DL4
end
section
namespace PySem.SeqAt
open AutoSeq1 (wpAny_loadPart')
open MeetsSeq MeetsSeq2 MeetsSeq3 SeqRoads2
noncomputable def Zql (A:Around) (s:Shared) (y x:Value) (b:Bool):Prop:=
 ∀ (prog:Program) (w:World) (E:Value->Shared->Prop) (Q:Value->Shared->Prop),Q (.bool b) s->wpAny (model prog w) A (richCompare .Lt y x) Q E s
noncomputable def lxI (e f:Nat->Bool) (m n:Nat):Nat->Nat->Bool
 |0,_=>decide (m < n)
 |k + 1,i=>if e i=true then lxI e f m n k (i + 1) else f i
theorem ZiO (l b:Addr) (items items2:Array Value) (n n2:Nat) (dd dd2:Option Addr) (sl sl2:Array (Option Value)) (e f:Nat->Bool) (k:Nat):
  ∀ i:Nat,min items.size items2.size - i=k->Meets (Builtin.«list.__eq__.loop» ⟨[.ref l,.ref b,rawInt i,rawInt 0],[]⟩)
   (fun A R s=>s.heap.get? l=some { cls:= .type "list",dict:=dd,data:= .seq items n,slots:=sl }/\s.heap.get? b=some { cls:= .type "list",dict:=dd2,data:= .seq items2 n2,slots:=sl2 }/\
    (∀ j (h1:j < items.size) (h2:j < items2.size),EqAt A.in1 s items[j] items2[j] (e j))/\(∀ j (h1:j < items.size) (h2:j < items2.size),e j=false->Zql A.in1 s items[j] items2[j] (f j))/\
    R (.ok (.ret (.bool (lxI e f items.size items2.size k i)))) s):=by
 induction k with
 |zero=>
  intro i hk prog w A R s h
  obtain ⟨hp,g,d,tk,os⟩:=s;obtain ⟨hl,hb,he,hf,h⟩:=h
  wp_walk using wpAny_loadPart' hl,wpAny_loadPart' hb
  have hor:items[((i:Nat):Int).toNat]?=none\/items2[((i:Nat):Int).toNat]?=none:=by
   rcases Nat.lt_or_ge i items.size with c | c
   ·exact .inr (by simp;omega)
   ·exact .inl (by simp;omega)
  rcases hor with hi1 | hi2
  ·rw[hi1]
   wp_walk using wpAny_loadPart' hl,wpAny_loadPart' hb
   exact h
  ·rw[hi2]
   cases hi1:items[((i:Nat):Int).toNat]? with
   |none=>
    wp_walk using wpAny_loadPart' hl,wpAny_loadPart' hb
    exact h
   |some x=>
    wp_walk using wpAny_loadPart' hl,wpAny_loadPart' hb
    exact h
 |succ k ih=>
  intro i hk prog w A R s h
  obtain ⟨hp,g,d,tk,os⟩:=s;obtain ⟨hl,hb,he,hf,h⟩:=h
  wp_walk using wpAny_loadPart' hl,wpAny_loadPart' hb
  have hlt:i < items.size:=by omega
  have hlt2:i < items2.size:=by omega
  have hi1:items[((i:Nat):Int).toNat]?=some items[i]:=by simp[hlt]
  have hi2:items2[((i:Nat):Int).toNat]?=some items2[i]:=by simp[hlt2]
  have hc:((i:Int) + 1)=((i + 1:Nat):Int):=by push_cast;rfl
  rw[lxI] at h
  rw[hi1,hi2]
  refine wpAny_bind (he i hlt hlt2 prog w _ _ ?_)
  cases hb':e i with
  |true=>
   rw[if_pos hb'] at h
   wp_walk
   rw[hc]
   exact ⟨plainId_quiet plain_eq_loop _,codeAny_builtin entry_eq_loop (by
    rw[Around.under_plainId plain_eq_loop _]
    exact ih (i + 1) (by omega) prog w A R _ ⟨hl,hb,he,hf,h⟩)⟩
  |false=>
   rw[if_neg (by rw[hb'];decide)] at h
   wp_walk using wpAny_loadPart' hl,wpAny_loadPart' hb
   rw[hi1,hi2]
   refine wpAny_bind (hf i hlt hlt2 hb' prog w _ _ ?_)
   wp_walk
   exact h
theorem ZiP (l b:Addr) (items items2:Array Value) (n n2:Nat) (dd dd2:Option Addr) (sl sl2:Array (Option Value)) (e f:Nat->Bool):
  Meets (Builtin.«list.__lt__» ⟨[.ref l,.ref b],[]⟩)
   (fun A R s=>s.heap.get? l=some { cls:= .type "list",dict:=dd,data:= .seq items n,slots:=sl }/\s.heap.get? b=some { cls:= .type "list",dict:=dd2,data:= .seq items2 n2,slots:=sl2 }/\
    (∀ j (h1:j < items.size) (h2:j < items2.size),EqAt A.in1 s items[j] items2[j] (e j))/\(∀ j (h1:j < items.size) (h2:j < items2.size),e j=false->Zql A.in1 s items[j] items2[j] (f j))/\
    R (.ok (.ret (.bool (lxI e f items.size items2.size (min items.size items2.size) 0)))) s):=by
 intro prog w A R s h
 obtain ⟨hp,g,d,tk,os⟩:=s;obtain ⟨hl,hb,he,hf,h⟩:=h
 have f3:=AutoSeq1.sub_list_list
 wp_walk using wpAny_loadPart' hl,wpAny_loadPart' hb
 exact ⟨plainId_quiet plain_eq_loop _,codeAny_builtin entry_eq_loop (by
  rw[Around.under_plainId plain_eq_loop _]
  exact ZiO l b items items2 n n2 dd dd2 sl sl2 e f _ 0 rfl prog w A R _ ⟨hl,hb,he,hf,h⟩)⟩
end PySem.SeqAt
namespace DL
open PySem PySem.Spec PyProof.Rows L2
open PySem.SeqAt
noncomputable def ZbW:List D->Option (List Int)
 | []=>some []
 | .int i :: r=>match ZbW r with | some is=>some (i :: is) | none=>none
 |_ :: _=>none
noncomputable def ltE:D->D->Option Bool
 | .int a,.int b=>some (decide (a < b))
 | .tup xs,.tup ys=>(match ZbW xs,ZbW ys with | some a,some b=>some (HT.Zce a b) | _,_=>none)
 |_,_=>none
noncomputable def ltL:List D->List D->Option Bool
 | [],[]=>some false
 | [],_ :: _=>some true
 |_ :: _,[]=>some false
 |x :: xs,y :: ys=>match ltE x y with
  |none=>none
  |some b=>if eqX x y=true then ltL xs ys else some b
where eqX:D->D->Bool
 | .int a,.int b=>a == b
 | .tup xs,.tup ys=>ZbW xs == ZbW ys
 |_,_=>false
theorem Zfj {M:Sto} {n:Nat}: ∀ {xs ys:List D} {a b:List Int},ZbW xs=some a->ZbW ys=some b->eqL (eqF (n + 1) M) xs ys=some (a == b)
 | [],[],a,b,h1,h2=>by cases h1;cases h2;rfl
 | [],y :: ys,a,b,h1,h2=>by
  cases h1
  cases y with
  |int i=>
   unfold ZbW at h2
   split at h2
   ·cases h2;rfl
   ·cases h2
  |_=>cases h2
 |x :: xs,[],a,b,h1,h2=>by
  cases h2
  cases x with
  |int i=>
   unfold ZbW at h1
   split at h1
   ·cases h1;rfl
   ·cases h1
  |_=>cases h1
 |x :: xs,y :: ys,a,b,h1,h2=>by
  cases x with
  |int i=>
   cases y with
   |int j=>
    unfold ZbW at h1 h2
    split at h1
    ·rename_i is e1
     split at h2
     ·rename_i js e2
      cases h1
      cases h2
      rw[eqL,Zfj e1 e2]
      show some ((i == j) && (is == js))=_
      rfl
     ·cases h2
    ·cases h1
   |_=>cases h2
  |_=>cases h1
theorem ZnY {M:Sto} {n:Nat} {x y:D} {b:Bool} (h:ltE x y=some b):eqF (n + 2) M x y=some (ltL.eqX x y):=by
 cases x with
 |int i=>
  cases y with
  |int j=>rfl
  |_=>cases h
 |tup xs=>
  cases y with
  |tup ys=>
   cases e1:ZbW xs with
   |none=>simp only[ltE,e1] at h;cases h
   |some a=>
    cases e2:ZbW ys with
    |none=>simp only[ltE,e1,e2] at h;cases h
    |some c=>
     show eqL (eqF (n + 1) M) xs ys=_
     rw[Zfj e1 e2]
     simp only[ltL.eqX,e1,e2]
     rfl
  |_=>cases h
 |_=>cases h
theorem Zdk {K:PySem.W.Frag} {H:Hp} {α:List Addr}: ∀ {vs:List V} {ds:List D} {a:List Int},Reps K H α vs ds->ZbW ds=some a->vs=a.map V.int
 |_,_,a,.nil,e=>by cases e;rfl
 |_,_,a,.cons (d:=d) (ds:=ds) r t,e=>by
  cases r with
  |int i=>
   unfold ZbW at e
   split at e
   ·rename_i is e1
    cases e
    rw[Zdk t e1]
    rfl
   ·cases e
  |_=>cases e
section
variable {X:Cx} {pins:List (Addr × Obj)} {σ:L2.St} {H:Hp} {s:Shared} {α:List Addr} {M:Sto}
theorem Zqm (I:Inv X pins σ H s) {A:Around} (hu:A.units < cLine) {x y:D} {v w:V} {u z:Value} {b:Bool} (h:ltE x y=some b) (r1:Rep X.K H α v x) (r2:Rep X.K H α w y) (ru:Z4 v u) (rz:Z4 w z):Zql A s u z b:=by
 intro prog w' E Q q
 cases r1 with
 |int i=>
  cases r2 with
  |int j=>
   cases h
   obtain ⟨t,rfl⟩:=ru
   obtain ⟨t',rfl⟩:=rz
   exact lt_int q
  |_=>cases h
 | @tup p xs ds hp rp=>
  cases r2 with
  | @tup p2 xs2 ds2 hp2 rp2=>
   cases e1:ZbW ds with
   |none=>simp only[ltE,e1] at h;cases h
   |some a=>
    cases e2:ZbW ds2 with
    |none=>simp only[ltE,e1,e2] at h;cases h
    |some c=>
     simp only[ltE,e1,e2,Option.some.injEq] at h
     subst h
     cases ru
     cases rz
     have h1:=Zdk rp e1
     have h2:=Zdk rp2 e2
     subst h1 h2
     obtain ⟨its,q1,p1,_⟩:=I.tuple (SqT.of hp)
     obtain ⟨its2,q2,p2',_⟩:=I.tuple (SqT.of hp2)
     exact HT.Zg3 p1 p2' (ZdU q1) (ZdU q2) hu q
  |_=>cases h
 |_=>cases h
theorem ZkN: ∀ {xs ys:List D} {b:Bool},ltL xs ys=some b-> ∀ (e f:Nat->Bool) (i m n:Nat),(∀ j x y,xs[j]?=some x->ys[j]?=some y->(ltE x y).isSome=true->e (i + j)=ltL.eqX x y/\(ltL.eqX x y=false->ltE x y=some (f (i + j))))->m=i + xs.length->n=i + ys.length->lxI e f m n (min xs.length ys.length) i=b
 | [],[],b,h,e,f,i,m,n,hh,hm,hn=>by cases h;simp[lxI,hm,hn]
 | [],y :: ys,b,h,e,f,i,m,n,hh,hm,hn=>by cases h;simp[lxI,hm,hn]
 |x :: xs,[],b,h,e,f,i,m,n,hh,hm,hn=>by cases h;simp[lxI,hm,hn]
 |x :: xs,y :: ys,b,h,e,f,i,m,n,hh,hm,hn=>by
  rw[ltL] at h
  cases el:ltE x y with
  |none=>rw[el] at h;cases h
  |some c=>
   rw[el] at h
   simp only at h
   obtain ⟨h1,h2⟩:=hh 0 x y rfl rfl (by rw[el];rfl)
   rw[Nat.add_zero] at h1 h2
   rw[List.length_cons,List.length_cons,Nat.succ_min_succ,lxI,h1]
   by_cases q:ltL.eqX x y=true
   ·rw[if_pos q] at h ⊢
    exact ZkN h e f (i + 1) m n (fun j a b' ha hb hs=>by
     have:=hh (j + 1) a b' (by simpa using ha) (by simpa using hb) hs
     rw[show i + (j + 1)=i + 1 + j by omega] at this
     exact this) (by rw[hm,List.length_cons];omega) (by rw[hn,List.length_cons];omega)
   ·rw[if_neg q] at h ⊢
    cases h
    have:=h2 (by simpa using q)
    rw[el] at this
    exact (Option.some.inj this).symm
noncomputable def Zd2:List D->List D->Bool
 |x :: xs,y :: ys=>(ltE x y).isSome && Zd2 xs ys
 |_,_=>true
theorem Zdl: ∀ {xs ys:List D},Zd2 xs ys=true-> ∀ (j:Nat) x y,xs[j]?=some x->ys[j]?=some y->(ltE x y).isSome=true
 | [],_,_,j,x,y,hx,_=>by simp at hx
 |_ :: _,[],_,j,x,y,_,hy=>by simp at hy
 |x0 :: xs,y0 :: ys,h,j,x,y,hx,hy=>by
  rw[Zd2,Bool.and_eq_true] at h
  cases j with
  |zero=>simp at hx hy;subst hx hy;exact h.1
  |succ j=>exact Zdl h.2 j x y (by simpa using hx) (by simpa using hy)
noncomputable def Zsa (X:Cx):R2:=fun v w H Q=> ∃ α M p q xs ys ds es b,HR X.K H α M/\v= .ref p/\w= .ref q/\H p=some (.lst xs)/\H q=some (.lst ys)/\Reps X.K H α xs ds/\Reps X.K H α ys es/\Zd2 ds es=true/\ltL ds es=some b/\Q (.bl b) H
theorem ZfY: ∀ {xs:List V} {us:List Value} {j:Nat} {u:Value},Z8 xs us->us[j]?=some u-> ∃ x,xs[j]?=some x/\Z4 x u
 | [],us,j,u,h,e=>by cases h;simp at e
 |x :: xs,us,j,u,h,e=>by
  cases h with
  |cons h1 h2=>
   cases j with
   |zero=>simp at e;subst e;exact ⟨x,rfl,h1⟩
   |succ j=>simp at e;obtain ⟨y,g1,g2⟩:=ZfY h2 e;exact ⟨y,by simpa using g1,g2⟩
theorem ZfZ {K:PySem.W.Frag}: ∀ {xs:List V} {ds:List D} {j:Nat} {x:V},Reps K H α xs ds->xs[j]?=some x-> ∃ d,ds[j]?=some d/\Rep K H α x d
 |_,_,j,x,.nil,e=>by simp at e
 |_,_,0,x,.cons r _,e=>by simp at e;subst e;exact ⟨_,rfl,r⟩
 |_,_,j + 1,x,.cons _ t,e=>by
  obtain ⟨d,g1,g2⟩:=ZfZ (j:=j) t (by simpa using e)
  exact ⟨d,by simpa using g1,g2⟩
theorem ZnZ (hu:X.A.units + 64 < cLine):OpR X (compareOp .Lt) (Zsa X):=by
 intro pins s σ H x y v u Q I rx ry hh
 obtain ⟨α,M,p,q,xs,ys,ds,es,b,hr,e1,e2,hp,hq,r1,r2,hc,hl,k⟩:=hh
 subst e1 e2
 cases (show v=Value.ref p from rx)
 cases (show u=Value.ref q from ry)
 obtain ⟨its,v1,p1,_⟩:=I.list (SqL.of hp)
 obtain ⟨its2,v2,p2,_⟩:=I.list (SqL.of hq)
 obtain ⟨⟨cls,dd,data,sl⟩,ho,hcl,n,hd⟩:=id p1.isList
 obtain ⟨⟨cls2,dd2,data2,sl2⟩,ho2,hcl2,n2,hd2⟩:=id p2.isList
 simp only at hcl hd hcl2 hd2
 subst hcl hd hcl2 hd2
 let e:Nat->Bool:=fun j=>match ds[j]?,es[j]? with | some a,some c=>ltL.eqX a c | _,_=>false
 let f:Nat->Bool:=fun j=>match ds[j]?,es[j]? with | some a,some c=>(ltE a c).getD false | _,_=>false
 have both: ∀ j (h1:j < its.toArray.size) (h2:j < its2.toArray.size),∃ a c vx vy,ds[j]?=some a/\es[j]?=some c/\Rep X.K H α vx a/\Rep X.K H α vy c/\Z4 vx its.toArray[j]/\Z4 vy its2.toArray[j]:=by
  intro j h1 h2
  obtain ⟨vx,g1,g2⟩:=ZfY (j:=j) (u:=its.toArray[j]) v1 (by simp at h1;simp[h1])
  obtain ⟨vy,g3,g4⟩:=ZfY (j:=j) (u:=its2.toArray[j]) v2 (by simp at h2;simp[h2])
  obtain ⟨a,g5,g6⟩:=ZfZ r1 g1
  obtain ⟨c,g7,g8⟩:=ZfZ r2 g3
  exact ⟨a,c,vx,vy,g5,g7,g6,g8,g2,g4⟩
 have lx:lxI e f its.toArray.size its2.toArray.size (min its.toArray.size its2.toArray.size) 0=b:=by
  have l1:its.toArray.size=ds.length:=by rw[List.size_toArray,<- v1.length,r1.length]
  have l2:its2.toArray.size=es.length:=by rw[List.size_toArray,<- v2.length,r2.length]
  rw[l1,l2]
  refine ZkN hl e f 0 _ _ (fun j a c ha hb hs=> ?_) (by omega) (by omega)
  rw[Nat.zero_add]
  refine ⟨by show (match ds[j]?,es[j]? with | some a,some c=>ltL.eqX a c | _,_=>false)=_;rw[ha,hb],fun _=> ?_⟩
  show _=some (match ds[j]?,es[j]? with | some a,some c=>(ltE a c).getD false | _,_=>false)
  obtain ⟨b',hb'⟩:=Option.isSome_iff_exists.mp hs
  simp[ha,hb,hb']
 refine richCompare_meets_room (op:= .Lt) ⟨_,ho,rfl⟩ ⟨_,ho2,rfl⟩ F.slot_list_lt F.entry_list_lt (F.args_list_lt_2 _ _) (ZiP p q its.toArray its2.toArray n n2 dd dd2 sl sl2 e f)
  ⟨ho,ho2,fun j h1 h2=> ?_,fun j h1 h2 ej=> ?_,?_⟩ (by omega)
 ·obtain ⟨a,c,vx,vy,g1,g2,g3,g4,g5,g6⟩:=both j h1 h2
  have hs:=Zdl hc j a c g1 g2
  obtain ⟨b',hb'⟩:=Option.isSome_iff_exists.mp hs
  have ee:e j=ltL.eqX a c:=by show (match ds[j]?,es[j]? with | some a,some c=>ltL.eqX a c | _,_=>false)=_;rw[g1,g2]
  rw[ee]
  exact (eq3 I hr 12 a c vx vy _ _ _ _ (by rw[Around.in1_units];omega) (ZnY (n:=10) hb') g3 g4 g5 g6).1
 ·obtain ⟨a,c,vx,vy,g1,g2,g3,g4,g5,g6⟩:=both j h1 h2
  have hs:=Zdl hc j a c g1 g2
  obtain ⟨b',hb'⟩:=Option.isSome_iff_exists.mp hs
  have ff:f j=b':=by show (match ds[j]?,es[j]? with | some a,some c=>(ltE a c).getD false | _,_=>false)=_;rw[g1,g2];simp only;rw[hb'];rfl
  rw[ff]
  exact Zqm I (by rw[Around.in1_units];omega) hb' g3 g4 g5 g6
 ·rw[lx]
  show Value.bool b≠Value.notImplemented/\EP X pins σ Q (.bool b) s
  exact ⟨(fun z=>nomatch z),(⟨V.bl b,H,I,rfl,k⟩:EP X pins σ Q (.bool b) s)⟩
noncomputable def dLtL:Bo:=fun x y M=>match x,y with
 | .ref n,.ref m=>(match M[n]?,M[m]? with | some (.lst ds),some (.lst es)=>if Zd2 ds es=true then (match ltL ds es with | some b=> .ok (.bl b) M | none=> .bad) else .bad | _,_=> .bad)
 |_,_=> .bad
theorem ZiQ {x y:D} {M:Sto} (h:dLtL x y M≠ .bad): ∃ n m,x= .ref n/\y= .ref m:=by
 unfold dLtL at h
 split at h
 ·rename_i n m;exact ⟨n,m,rfl,rfl⟩
 ·exact absurd rfl h
theorem Zn0 {ξ:XK}:BO X ξ (Zsa X) dLtL:=by
 intro H α M v w x y Q h r1 r2 q
 obtain ⟨n,m,rfl,rfl⟩:=ZiQ (x:=x) (y:=y) (M:=M) fun z=>by rw[z] at q;exact q.elim
 cases r1 with
 | @ref p n hp=>
  cases r2 with
  | @ref p2 m hp2=>
   simp only[dLtL] at q
   cases e1:M[n]? with
   |none=>simp only[e1] at q;exact q.elim
   |some so=>
    cases e2:M[m]? with
    |none=>cases so;simp only[e1,e2] at q;exact q.elim
    |some so2=>
     cases so with
     |lst ds=>
      cases so2 with
      |lst es=>
       simp only[e1,e2] at q
       by_cases hc:Zd2 ds es=true
       ·rw[if_pos hc] at q
        cases hl:ltL ds es with
        |none=>simp only[hl] at q;exact q.elim
        |some b=>
         simp only[hl] at q
         obtain ⟨xs,g1,g2⟩:=h.at hp e1
         obtain ⟨ys,g3,g4⟩:=h.at hp2 e2
         exact ⟨α,M,p,p2,xs,ys,ds,es,b,h,rfl,rfl,g1,g3,g2,g4,hc,hl,q _ H α Ext.refl h (.bl b)⟩
       ·rw[if_neg hc] at q
        exact q.elim
end
end DL
end
section
namespace PySem
open Sem (wp)
section
variable {prog:Program} {w:World} {A:Around} {R:Result->Shared->Prop} {I:Addr} {fp wr:List Addr} {P:Nat->Value->Prop} {St:Nat->Heap->Prop}
end
section
variable {prog:Program} {w:World} {A:Around} {E:Value->Shared->Prop} {s:Shared}
end
end PySem
namespace DL
open PySem PySem.Spec PyProof.Rows L2
open PySem.SeqAt
section
variable {X:Cx} {pins:List (Addr × Obj)} {σ:L2.St} {H:Hp} {s:Shared} {α:List Addr} {M:Sto}
end
end DL
end
section
namespace HT
open PySem PyProof.Rows
section
open PySem.SeqAt
open PySem.AutoSeq1 (wpAny_loadPart')
open PySem.MeetsSeq PySem.MeetsSeq2 PySem.MeetsSeq3
end
section
variable {prog:Program} {w:World} {A:Around} {E:Value->Shared->Prop} {s:Shared}
end
end HT
namespace DL
open PySem PySem.Spec PyProof.Rows L2
section
variable {X:Cx} {ξ:XK}
end
end DL
end
section
namespace DL
open PySem PySem.Spec PyProof.Rows L2
theorem Zqn (its:List Value):slicePick its.toArray none (some 0) (some (-1))=(its.drop 1).reverse.toArray:=by
 cases its with
 |nil=>rfl
 |cons x r=>
  have h:=Zj0 r.toArray
  have e:slicePick (x :: r).toArray none (some 0) (some (-1))=((List.range r.toArray.size).filterMap fun (m:Nat)=>r.toArray[((r.toArray.size:Int) - 1 + (m:Int) * (-1)).toNat]?).toArray:=by
   unfold slicePick sliceBounds sliceRange
   simp only[Option.getD_some]
   congr 1
   rw[List.filterMap_map]
   simp only[List.size_toArray,List.length_cons]
   simp only[gt_iff_lt,show ¬ ((0:Int) < -1) by decide,if_false,Int.lt_irrefl]
   generalize hn:(if max (-1:Int) (min 0 (((r.length + 1:Nat):Int) - 1)) < ((r.length + 1:Nat):Int) - 1 then _ else (0:Int)).toNat=cnt
   have c:cnt=r.length:=by
    rw[<- hn]
    have m0:max (-1:Int) (min 0 (((r.length + 1:Nat):Int) - 1))=0:=by omega
    rw[m0]
    split
    ·simp
     try omega
    ·simp
     omega
   rw[c]
   refine Zel fun m hm=> ?_
   have hm':=List.mem_range.mp hm
   simp only[Function.comp]
   rw[show (((r.length + 1:Nat):Int) - 1 + -1 * (m:Int)).toNat=((r.length:Int) - 1 + (m:Int) * (-1)).toNat + 1 by omega]
   simp
  rw[e,h]
  rfl
noncomputable def eR0 (f:Ev):Ev:=fun ρ M=>(f ρ M).bind fun x M1=>match x with
 | .ref n=>(match M1[n]? with | some (.lst xs)=> .ok (.ref M1.length) (M1 ++ [.lst (xs.drop 1).reverse]) | none=> .bad)
 |_=> .bad
noncomputable def tR0 (K:PySem.W.Frag) (te:TE):TE:=fun σ H Q=>te σ H fun x H1=> ∃ a xs,x= .ref a/\SqL K H1 a xs/\ ∀ p,H1 p=none->Q (.ref p) (upd H1 p (.lst (xs.drop 1).reverse))
theorem Zqo {X:Cx} {e:Expr} {p2 p3 p4 p5 pos:Pos} {j j0:Nat} {te:TE} (he:PE X e te):PE X (.Subscript e (.Slice none (some (.Constant (.int 0) j0 p5)) (some (.UnaryOp .USub (.Constant (.int 1) j p3) p4)) p2) pos) (tR0 X.K te):=by
 intro pins s σ H Q I h
 refine Subscript_ (thn (he pins s σ H _ I h) fun v s1 ⟨x,H1,I1,r1,q1⟩=> ?_)
 refine wpAny_Slice ?_
 rw[evalPart_none]
 refine wpAny_pure ?_
 rw[evalPart_some]
 refine thn (ZhM pins s1 σ H1 (fun v H'=>v= .int 0/\H'=H1) I1 ⟨rfl,rfl⟩) fun u0 s1' ⟨y0,H1',I1',r2',ey0,eH0⟩=> ?_
 subst ey0 eH0
 obtain ⟨t0,rfl⟩:=r2'
 rw[evalPart_some]
 refine thn (ZmY Zku ZhM pins s1' σ H1' (fun v H'=>v= .int (-1)/\H'=H1') I1' ⟨1,rfl,rfl,rfl⟩) fun u s2 ⟨y,H2,I2,r2,ey,eH⟩=> ?_
 subst ey eH
 obtain ⟨t,rfl⟩:=r2
 have I4:Inv X pins σ H2 { s2 with heap:=s2.heap.push { cls:= .type "slice",data:= .fields #[.none,.int 0 t0,.int (-1) t] } }:=I2.kept (t':=s2.toks) fun b ob q=>Heap.get?_push_of_some _ q
 show wpAny (model X.prog X.w) X.A (subscriptTail e (.Slice none (some (.Constant (.int 0) j0 p5)) (some (.UnaryOp .USub (.Constant (.int 1) j p3) p4)) p2) v (.ref s2.heap.objs.size)) (EP X pins σ Q) X.xe { s2 with heap:=s2.heap.push { cls:= .type "slice",data:= .fields #[.none,.int 0 t0,.int (-1) t] } }
 obtain ⟨a,xs,rfl,hq,q⟩:=q1
 cases r1
 obtain ⟨its,rv,ht,hz⟩:=I4.list hq
 have hsz:its.toArray.size<=sizeLine:=by rw[List.size_toArray,<- rv.length];exact hz
 refine tail_any (ops:=[.ref a,.ref s2.heap.objs.size]) ht.isList.typeIs slot_list_getitem.lookup (wpAny_getItem_list_slice ht.isList (Heap.IsSliceOf.new ..) .none (.int 0 t0) (.int (-1) t) (by decide) ?_ hsz) (by with_unfolding_all rfl)
 rw[Zqn]
 refine ⟨.ref _,_,I4.laid (t':=s2.toks) (o:= .lst (xs.drop 1).reverse) (fun _ _ q=>Heap.get?_push_of_some _ q) (Nat.le_refl _) ?_,rfl,q _ (I4.hok.fresh (Nat.le_refl _))⟩
 exact ⟨by rw[List.length_reverse,List.length_drop];omega,(its.drop 1).reverse,0,(rv.drop 1).reverse,Heap.get?_push_size _ rfl⟩
theorem ZiR {K:PySem.W.Frag} {H:Hp} {α:List Addr}: ∀ {vs:List V} {ds:List D},Reps K H α vs ds->Reps K H α (vs.drop 1) (ds.drop 1)
 |_,_,.nil=> .nil
 |_,_,.cons _ t=>t
theorem Zqp {X:Cx} {ξ:XK} {e:Expr} {f:Ev} {p2 p3 p4 p5 pos:Pos} {j j0:Nat} (he:DE X ξ e f):DE X ξ (.Subscript e (.Slice none (some (.Constant (.int 0) j0 p5)) (some (.UnaryOp .USub (.Constant (.int 1) j p3) p4)) p2) pos) (eR0 f):=by
 obtain ⟨t,p,q⟩:=he
 refine ⟨_,Zqo p,fun σ ρ H α M Q s h w=>q σ ρ H α M _ s h (OG.seq w fun x M1 v H1 α1 e1 h1 r1 w1=> ?_)⟩
 cases r1 with
 | @ref a n hp=>
  cases em:M1[n]? with
  |none=>simp only[em] at w1;exact w1.elim
  |some so=>
   cases so with
   |lst es=>
    simp only[em] at w1
    obtain ⟨xs,g1,g2⟩:=h1.at hp em
    exact ⟨a,xs,rfl,SqL.of g1,fun l hl=>w1 _ _ (α1 ++ [l]) (Ext.new hl) (h1.new hl (ZiR g2).rev) (.ref ⟨h1.last l,Kn.lst ZC⟩)⟩
 |_=>exact w1.elim
end DL
end
section
namespace DL
open PySem PySem.Spec PyProof.Rows L2
section
variable {X:Cx} {pins:List (Addr × Obj)} {σ:L2.St} {H:Hp} {s:Shared} {a b:Addr} {v:V} {r:Value} {A:Around} {E:Value->Shared->Prop}
theorem Zn1 {kvs:List (List Key × V)} {k:List Key} {Q:Unit->Shared->Prop} (hu:A.units < cLine) (I:Inv X pins σ H s) (e:H a=some (.dT kvs)) (eb:H b=some (.tup (k.map kV))) (l:kvs.length < sizeLine) (rv:Z4 v r) (h: ∀ s',Inv X pins σ (upd H a (.dT (Zh6 kvs k v))) s'->Q () s'):
  wpAny (model X.prog X.w) A (dictSet a (.ref b) r) Q E s:=by
 obtain ⟨z,hd,xs,rel,dd⟩:=L2.ZjG I.hok e
 have hz:xs.length<=sizeLine:=by rw[<- Paired.length rel];exact z
 have hl:(Zh6 kvs k v).length<=sizeLine:=by have:=ZfN kvs k v;omega
 refine wpAny_dictSet_heap (hsz:=hz) (knd:=tupleKind (ZaQ X.prog X.w)) hu (Zh7 I.hok eb) dd fun h' dd' hs=>h _ ?_
 obtain ⟨q,es,ep,hq,h2,h3,h4,_,h5⟩:=dd'
 refine Zln I (by rw[e];exact True.intro) hs ⟨q,hq⟩ ⟨hl,hd,_,(rel.put k eb rv).keeps fun c ys ec=> ?_,q,es,ep,hq,h2,h3,h4,h5⟩
 rw[ZI (ZpT ec e (fun z=>nomatch z))]
 exact ec
end
noncomputable def ZdM (src:Src) (tg:Tg) (c:Tv) (fk fv:Ev) (n:Nat):Nat->Nat->Ro->Sto->Out Unit
 |fuel,i,ρ,M=>match nxt src i M with
  |none=> .bad
  |some none=> .ok () M
  |some (some d)=>(match fuel with
   |0=> .bad
   |fuel + 1=>(match tg d ρ with
    |none=> .bad
    |some ρ1=>(match c ρ1 M with
     | .ok true M1=>(match fk ρ1 M1 with
      | .ok x M2=>(match fv ρ1 M2 with
       | .ok y M3=>(match Zr9 M3 (.dt n) x y with
        |some M4=>ZdM src tg c fk fv n fuel (i + 1) ρ1 M4
        |none=> .bad)
       |_=> .bad)
      |_=> .bad)
     | .ok false M1=>ZdM src tg c fk fv n fuel (i + 1) ρ1 M1
     |_=> .bad)))
noncomputable def ZiS (fi:Ro->Sto->Out Src) (k:Nat) (fr:List Nat) (tg:Tg) (c:Tv) (fk fv:Ev):Ev:=fun ρ M=>(fi ρ M).bind fun src M1=>match ZdM src tg c fk fv M1.length (cnt src M1) 0 (roB k fr ρ) (M1 ++ [.lst []]) with
 | .ok _ M2=> .ok (.dt M1.length) M2
 |_=> .bad
theorem Zet {prog:Program} {w:World} {A:Around} {R:Result->Shared->Prop} {s:Shared} {kx vx target iter:Expr} {ifs:List Expr} {scope:Scope} {pos:Pos} {it:Value} {D:Addr} {env:Env} (I:Nat->Shared->Prop)
  (turn: ∀ n s,I n s->wpAny (model prog w) A (pyNext it) (fun r s₁=>match r with
   |none=>R (.ok .next) s₁
   |some v=>wpAny (model prog w) A (letOwnedTupleGo target it v) (fun _ s₁=>wpAny (model prog w) A (assign target env v) (fun _ s₂=>
     wpAny (model prog w) A (forIn ifs true fun c r=>if r=true then do let ok <- isTrue c env (eval c env);pure (ForInStep.yield ok) else pure (ForInStep.yield r)) (fun ok s₃=>
      if ok=true then wpAny (model prog w) A (eval kx env) (fun kv s₄=>wpAny (model prog w) A (eval vx env) (fun vv s₅=>
       wpAny (model prog w) A (dictSet D kv vv) (fun _ s₆=> ∃ m,m < n/\I m s₆) (fun _ _=>False) s₅) (fun _ _=>False) s₄) (fun _ _=>False) s₃
      else ∃ m,m < n/\I m s₃) (fun _ _=>False) s₂) (fun _ _=>False) s₁) (fun _ _=>False) s₁) (fun _ _=>False) s)
  (n:Nat) (h:I n s):
  codeAny (model prog w) A (.compLoop (.DictComp kx vx [⟨target,iter,ifs,0⟩] scope pos) 0 it (.ref D) env) R s:=by
 refine codeAny_loop rfl I (fun n s hI=> ?_) n h
 show wpAny _ A ((compTurn (.DictComp kx vx [⟨target,iter,ifs,0⟩] scope pos) 0 it (.ref D) env).onRaise (fun x=>do noteFrame x env;theTreesLotGoes x)) _ _ s
 refine wpAny_noted ?_
 rw[compTurn_dict]
 refine wpAny_bind (wpAny_standAt (wpAny_bind (wpAny_mono (turn n s hI) (fun r s₁ h₁=> ?_) fun _ _ h'=>h'.elim)))
 cases r with
 |none=>exact wpAny_pure h₁
 |some v=>
  refine wpAny_bind (wpAny_mono h₁ (fun _ s₁ h₁=> ?_) fun _ _ h'=>h'.elim)
  refine wpAny_bind (wpAny_mono h₁ (fun _ s₂ h₂=>wpAny_bind (wpAny_mono h₂ (fun ok s₃ h₃=> ?_) fun _ _ h'=>h'.elim)) fun _ _ h'=>h'.elim)
  cases ok with
  |false=>exact wpAny_pure ⟨rfl,h₃⟩
  |true=>
   refine wpAny_bind (wpAny_bind (wpAny_mono h₃ (fun kv s₄ h₄=> ?_) fun _ _ h'=>h'.elim))
   refine wpAny_bind (wpAny_holding (wpAny_mono h₄ (fun vv s₅ h₅=> ?_) fun _ _ h'=>h'.elim))
   refine wpAny_bind (wpAny_standAt ?_)
   refine wpAny_holding (wpAny_mono h₅ (fun _ s₆ h₆=> ?_) fun _ _ h'=>h'.elim)
   exact wpAny_pure ⟨rfl,h₆⟩
section
variable {X:Cx} {ξ:XK} {tg iter kx vx:Expr} {ifs:List Expr} {scope:Scope} {cl:List (Str × Addr)} {N:List Str} {k:Nat} {fr:List Nat} {fi:Ro->Sto->Out Src} {gt:Tg} {c:Tv} {fk fv:Ev} {pos:Pos}
theorem ZiT {Y:Cx} {fp α3:List Addr} {it D:Addr} {tn:Nat->Heap->Prop} {J:It} {tg iter kx vx:Expr} {ifs:List Expr} {scope:Scope} {pos:Pos} {gt:Tg} {c:Tv} {fk fv:Ev} {src:Src} {H3:Hp} {σ0:L2.St} {ρ0:Ro} {M3 M9:Sto} {u9:Unit} {n0 fuel:Nat} {s4:Shared} {R:Result->Shared->Prop}
  (hu:Y.A.units + 64 < cLine) (T:Turn Y.prog Y.w Y.K Y.A tg J fp it tn) (hxe: ∀ x y,Y.xe x y->False) (fp5: ∀ {H':Hp},(∀ b∈fp,H' b=none)-> ∀ b∈fp,ZdS Y [] H' b) (hg:DG Y tg gt) (tst:DC Y ifs c) (hk:DE Y E0 kx fk) (hv:DE Y E0 vx fv)
  (sc:Zlu Y.K H3 α3 J src) (aD:RefK H3 α3 2 n0 D) (I4:Inv Y [] σ0 H3 s4) (st4:tn 0 s4.heap) (fr4: ∀ b∈fp,H3 b=none) (sr:SR Y.K H3 α3 σ0 ρ0) (h3:HR Y.K H3 α3 M3) (er:ZdM src gt c fk fv n0 fuel 0 ρ0 M3= .ok u9 M9)
  (post: ∀ σ5 H5 α5 s6,Inv Y [] σ5 H5 s6->Ext Y.K H3 H5 α3 α5->HR Y.K H5 α5 M9->R (.ok .next) s6):
  codeAny (model Y.prog Y.w) Y.A (.compLoop (.DictComp kx vx [⟨tg,iter,ifs,0⟩] scope pos) 0 (.ref it) (.ref D) Y.env) R s4:=by
 obtain ⟨tt,pt,qt⟩:=hg
 obtain ⟨tk,pk,qk⟩:=hk
 obtain ⟨tv,pv,qv⟩:=hv
 refine Zet (CmI Y fp tn H3 α3 fun n i ρ' M'=>ZdM src gt c fk fv n0 n i ρ' M'= .ok u9 M9) ?_ fuel ⟨0,σ0,ρ0,H3,α3,M3,I4,st4,fr4,sr,h3,Ext.refl,er⟩
 rintro n s5 ⟨i,σ5,ρ5,H5,α5,M5,I5,st5,fr5,sr5,hr5,ex5,en⟩
 have src5:=sc i H5 α5 M5 ex5 hr5
 rw[ZdM] at en
 cases ex:nxt src i M5 with
 |none=>rw[ex] at en;cases en
 |some od=>
  rw[ex] at src5 en
  cases od with
  |none=>
   cases en
   have fin:=T.done Y rfl rfl rfl rfl i [] s5 σ5 H5 (fun _ _=>False) I5 (fp5 fr5) st5 src5
   refine thn fin fun r s6 w6=> ?_
   obtain ⟨hr6,I6⟩:=w6
   subst hr6
   exact post σ5 H5 α5 s6 I6 ex5 hr5
  |some d=>
   obtain ⟨go,yl⟩:=src5
   cases n with
   |zero=>cases en
   |succ n=>
    simp only at en
    have itm:=T.item Y rfl rfl rfl rfl i [] s5 σ5 H5 (fun _ _=>False) I5 (fp5 fr5) st5 go
    refine thn itm fun r s6 ⟨u,hr6,w6⟩=> ?_
    subst hr6
    refine thn w6 fun _ s7 ⟨x,H7,I7,r7,y7,st7,fr7⟩=> ?_
    obtain ⟨ex7,hr7,rp7⟩:=yl x H7 y7
    have sr5:=sr5.mono ex7
    have hr5:=hr7
    have ex5:=ex5.trans ex7
    have I7':=I7.pinned (fp5 fr7) (T.obj _ _ st7)
    cases eg:gt d ρ5 with
    |none=>rw[eg] at en;cases en
    |some ρ6=>
     rw[eg] at en
     simp only at en
     have asg:=pt _ s7 σ5 H7 x u _ I7' r7 (qt x d σ5 ρ5 H7 α5 ρ6 (fun σ' H'=>H'=H7/\SR Y.K H7 α5 σ' ρ6) (sr5) (rp7) eg fun σ' s'=>⟨rfl,s'⟩)
     refine wpAny_mono asg (fun _ s8 ⟨σ8,H8,I8,z8,sr8⟩=> ?_) (fun x y z=>hxe x y z)
     subst z8
     have again: ∀ {σ9:L2.St} {H9:Hp} {s9:Shared},Inv Y ([] ++ Zcc fp s7.heap) σ9 H9 s9->Inv Y [] σ9 H9 s9/\tn (i + 1) s9.heap/\ ∀ b∈fp,H9 b=none:=fun {σ9 H9 s9} I9=>by
      refine ⟨I9.unpinned,T.keep _ _ _ st7 fun b hb o e=>(I9.pin (b,o) (List.mem_append_right _ (List.mem_append_right _ (ZaS hb e)))).1,fun b hb=> ?_⟩
      obtain ⟨o,e,_⟩:=T.obj _ _ st7 b hb
      exact (I9.pin (b,o) (List.mem_append_right _ (List.mem_append_right _ (ZaS hb e)))).2.1
     have after: ∀ (kk:Bool) (M8:Sto) (H9:Hp) (α9:List Addr) (s9:Shared),Inv Y ([] ++ Zcc fp s7.heap) σ8 H9 s9->Ext Y.K H8 H9 α5 α9->HR Y.K H9 α9 M8->c ρ6 M5= .ok kk M8->
       (if kk=true then wpAny (model Y.prog Y.w) Y.A (eval kx Y.env) (fun kv s₄=>wpAny (model Y.prog Y.w) Y.A (eval vx Y.env) (fun vv s₅=>wpAny (model Y.prog Y.w) Y.A (dictSet D kv vv) (fun _ s₆=> ∃ m,m < n + 1/\CmI Y fp tn H3 α3 (fun n i ρ' M'=>ZdM src gt c fk fv n0 n i ρ' M'= .ok u9 M9) m s₆) (fun _ _=>False) s₅) (fun _ _=>False) s₄) (fun _ _=>False) s9
        else ∃ m,m < n + 1/\CmI Y fp tn H3 α3 (fun n i ρ' M'=>ZdM src gt c fk fv n0 n i ρ' M'= .ok u9 M9) m s9):=by
      intro kk M8 H9 α9 s9 I9 ex9 hr9 ec
      rw[ec] at en
      cases kk with
      |false=>
       obtain ⟨a1,a2,a3⟩:=again I9
       exact Zkx ⟨n,Nat.lt_succ_self n,i + 1,σ8,ρ6,H9,α9,M8,a1,a2,a3,sr8.mono ex9,hr9,ex5.trans ex9,en⟩
      |true=>
       simp only at en
       refine Zky ?_
       cases ef:fk ρ6 M8 with
       |exc x9 M10=>rw[ef] at en;cases en
       |bad=>rw[ef] at en;cases en
       |ok y M10=>
        rw[ef] at en
        simp only at en
        have ev:=pk _ s9 σ8 H9 (fun v H'=> ∃ α',Ext Y.K H9 H' α9 α'/\HR Y.K H' α' M10/\Rep Y.K H' α' v y) I9 (qk σ8 ρ6 H9 α9 M8 _ (sr8.mono ex9) (hr9) (by
         rw[ef]
         exact fun v H' α' e h r=>⟨α',e,h,r⟩))
        refine wpAny_mono ev (fun yv s10 ⟨v,H10,I10,r10,α10,ex10,hr10,rp10⟩=> ?_) (fun x y z=>hxe x y z)
        cases eg2:fv ρ6 M10 with
        |exc x9 M11=>rw[eg2] at en;cases en
        |bad=>rw[eg2] at en;cases en
        |ok y2 M11=>
         rw[eg2] at en
         simp only at en
         have ev2:=pv _ s10 σ8 H10 (fun v H'=> ∃ α',Ext Y.K H10 H' α10 α'/\HR Y.K H' α' M11/\Rep Y.K H' α' v y2) I10 (qv σ8 ρ6 H10 α10 M10 _ ((sr8.mono ex9).mono ex10) (hr10) (by
          rw[eg2]
          exact fun v H' α' e h r=>⟨α',e,h,r⟩))
         refine wpAny_mono ev2 (fun yv2 s11 ⟨v2,H11,I11,r11,α11,ex11,hr11,rp11⟩=> ?_) (fun x y z=>hxe x y z)
         have aD11:=ex11.get (ex10.get (ex9.get (ex5.get aD)))
         have rk:=Rep.mono ex11 rp10
         simp only[Zr9] at en
         cases e5:kT y with
         |none=>simp only[e5] at en;cases en
         |some kk=>
          cases em:M11[n0]? with
          |none=>simp only[e5,em] at en;cases en
          |some so=>
           cases so with
           |lst ds=>
            simp only[e5,em] at en
            by_cases cz:ds.length < 10000000/\nfz ds=true
            ·simp only[if_pos cz] at en
             obtain ⟨kvs,g1,g2⟩:=hr11.atTn aD11 em cz.2
             have kn:Kn (upd H11 D (.dT (Zh6 kvs kk v2))) D=some 2:=by unfold Kn;rw[ZC]
             have exw:Ext Y.K H11 (upd H11 D (.dT (Zh6 kvs kk v2))) α11 α11:=Ext.wrK aD11.kn (fun _ _ z=>by rw[g1] at z;cases z) kn
             have eg3:=ZiK ZgG kk g2 rp11
             rw[<- ZnT e5] at eg3
             cases rk with
             | @tup tb txs tds thb trb=>
              cases r10
              have hkey:H11 tb=some (.tup (kk.map kV)):=by rw[thb,Zer (X:=Y) trb e5]
              have st:=Zn1 (A:=Y.A) (E:=fun _ _=>False) (by omega) I11 g1 hkey (by rw[ZiL g2];exact Nat.lt_of_lt_of_le cz.1 (by decide)) r11 (Q:=fun _ s'=>Inv Y ([] ++ Zcc fp s7.heap) σ8 (upd H11 D (.dT (Zh6 kvs kk v2))) s') fun s' I'=>I'
              refine wpAny_mono st (fun _ s12 I12=> ?_) (fun _ _ z=>z)
              obtain ⟨a1,a2,a3⟩:=again I12
              exact ⟨n,Nat.lt_succ_self n,i + 1,σ8,ρ6,_,α11,_,a1,a2,a3,(((sr8.mono ex9).mono ex10).mono ex11).mono exw,hr11.wrO aD11.at' exw (.inr (.inr (.inl ⟨_,ZC,Zhd eg3 exw⟩))),(((ex5.trans ex9).trans ex10).trans ex11).trans exw,en⟩
             |_=>cases e5
            ·simp only[if_neg cz] at en
             cases en
     rcases tst with ⟨rfl,ec⟩ | ⟨e,rfl,tt',ptt,qtt⟩
     ·refine wpAny_tests_nil ?_
      exact after true M5 H8 α5 s8 I8 Ext.refl hr5 (by rw[ec])
     ·refine wpAny_tests_one ?_
      cases ec:c ρ6 M5 with
      |exc x9 M10=>rw[ec] at en;cases en
      |bad=>rw[ec] at en;cases en
      |ok kk M8=>
       have tv':=ptt _ s8 σ8 H8 (fun b H'=>b=kk/\ ∃ α',Ext Y.K H8 H' α5 α'/\HR Y.K H' α' M8) I8 (qtt σ8 ρ6 H8 α5 M5 _ (sr8) (hr5) (by
        rw[ec]
        exact fun v H' α' e h r=>⟨r,α',e,h⟩))
       refine wpAny_mono tv' (fun b s9 ⟨H9,I9,zb,α9,ex9,hr9⟩=> ?_) (fun x y z=>hxe x y z)
       subst zb
       exact after b M8 H9 α9 s9 I9 ex9 hr9 ec
theorem Zj7 (hu:X.A.units + 64 < cLine) (B:Blk X scope cl N k fr) (hi:DI X ξ tg iter fi) (hg: ∀ C fp s H,DG (blk X scope cl N C fp s H) tg gt) (ht: ∀ C fp s H,DC (blk X scope cl N C fp s H) ifs c) (hk: ∀ C fp s H,DE (blk X scope cl N C fp s H) E0 kx fk) (hv: ∀ C fp s H,DE (blk X scope cl N C fp s H) E0 vx fv)
  (hs: ∀ x,foldedSetIterable iter X.env x=pure x:=by intro _;rfl):DE X ξ (.DictComp kx vx [⟨tg,iter,ifs,0⟩] scope pos) (ZiS fi k fr gt c fk fv):=by
 obtain ⟨wi,pi,qi⟩:=hi
 refine ⟨fun σ H Q=> ∃ ρ α M,SR X.K H α σ ρ/\HR X.K H α M/\OP X.K H α ξ Q (ZiS fi k fr gt c fk fv ρ M),?_,fun σ ρ H α M Q s h q=>⟨ρ,α,M,s,h,q⟩⟩
 rintro pins s σ H Q I ⟨ρ,α,M,sr,hr,op⟩
 rw[arm_eval_DictComp]
 refine wpAny_comprehension_free (use:=none) rfl hs B.clos B.kind B.names ?_
 refine thn (pi pins s σ H (fun J H2=> ∃ α2 M2 src,Ext X.K H H2 α α2/\HR X.K H2 α2 M2/\Zlu X.K H2 α2 J src/\OP X.K H2 α2 ξ Q (match ZdM src gt c fk fv M2.length (cnt src M2) 0 (roB k fr ρ) (M2 ++ [.lst []]) with | .ok _ M2'=> .ok (.dt M2.length) M2' | _=> .bad)) I
  (qi σ ρ H α M _ sr hr (OG.seq op fun src M1 J H1 α1 e1 h1 r1 q1=>⟨α1,M1,src,e1,h1,r1,q1⟩))) fun v s1 w1=>thn w1 fun itv s2 w2=> ?_
 obtain ⟨it,fp,tn,J,H2,rfl,I2,T,st2,f2,α2,M2,src,e2,h2,sc,op2⟩:=w2
 have srI:=sr.mono e2
 refine wpAny_newObj_type ?_
 have I3:Inv X pins σ (upd H2 s2.heap.objs.size (.dT [])) { s2 with heap:=s2.heap.push { cls:= .type "dict",dict:=none,data:= .dict #[] } }:=I2.laid (a:=s2.heap.objs.size) (o:= .dT []) (t':=s2.toks) (fun _ _ q=>Heap.get?_push_of_some _ q) (Nat.le_refl _) (ZjH s2.heap I2.big)
 have fD:H2 s2.heap.objs.size=none:=I2.fresh
 generalize hD:s2.heap.objs.size=D at I3 fD
 generalize hs3:({ s2 with heap:=s2.heap.push { cls:= .type "dict",dict:=none,data:= .dict #[] } }:Shared)=s3 at I3
 generalize hH3:upd H2 D (.dT [])=H3 at I3
 have h3:HR X.K H3 (α2 ++ [D]) (M2 ++ [.lst []]):=by rw[<- hH3];exact h2.newO fD (.inr (.inr (.inl ⟨[],ZC,ZiJ⟩)))
 have e3:Ext X.K H2 H3 α2 (α2 ++ [D]):=by rw[<- hH3];exact Ext.new fD
 have aD:RefK H3 (α2 ++ [D]) 2 M2.length D:=⟨h2.last D,by rw[<- hH3];unfold Kn;rw[ZC]⟩
 have lt2: ∀ b∈fp,b < s2.heap.objs.size:=fun b hb=>let ⟨o,e,_⟩:=T.obj _ _ st2 b hb;Heap.lt_size e
 have keep3: ∀ b o,s2.heap.get? b=some o->s3.heap.get? b=some o:=fun b o e=>by rw[<- hs3];exact Heap.get?_push_of_some _ e
 have f3: ∀ b∈fp,ZdS X pins H3 b:=fun b hb=>⟨by rw[<- hH3,ZI (by rw[<- hD];exact Nat.ne_of_lt (lt2 b hb))];exact (f2 b hb).1,(f2 b hb).2⟩
 have lt3: ∀ b∈fp,b < s3.heap.objs.size:=fun b hb=>let ⟨o,e,_⟩:=T.obj _ _ st2 b hb;Heap.lt_size (keep3 b o e)
 have st3:tn 0 s3.heap:=T.keep _ _ _ st2 fun b _ o e=>keep3 b o e
 refine wpAny_newFunctionEnv B.cell (by intro y hy;simp at hy) (fun h₁ hns₁ hsb₁=> ?_) B.kind
 have keep4: ∀ b o,s3.heap.get? b=some o->h₁.get? b=some o:=fun b o e=>hsb₁.extBut b o (Nat.ne_of_lt (Heap.lt_size e)) (Heap.get?_push_of_some _ e)
 have I4:=ZfS (tk:=s3.toks + ([]:List (Str × Value)).length) B I3 f3 lt3 hns₁ keep4
 have st4:tn 0 h₁:=T.keep _ _ _ st3 fun b _ o e=>keep4 b o e
 have fp5: ∀ {H':Hp},(∀ b∈fp,H' b=none)-> ∀ b∈fp,ZdS (blk X scope cl N s3.heap.objs.size fp s3 H3) [] H' b:=fun hn b hb=>⟨hn b hb,Nat.ne_of_lt (lt3 b hb),(Zgz B I3 f3 lt3).exfs b hb,.inl hb,fun x c h=>(f3 b hb).2.2.2.2.1 x c (B.sub x c h),fun p hp=>(by simp[blk] at hp)⟩
 cases er:ZdM src gt c fk fv M2.length (cnt src M2) 0 (roB k fr ρ) (M2 ++ [.lst []]) with
 |exc x M9=>rw[er] at op2;exact op2.elim
 |bad=>rw[er] at op2;exact op2.elim
 |ok u9 M9=>
  rw[er] at op2
  have loop:codeAny (model X.prog X.w) X.A (.compLoop (.DictComp kx vx [⟨tg,iter,ifs,0⟩] scope pos) 0 (.ref it) (.ref D) (compEnvC scope cl s3.heap.objs.size X.env)) (compPost (model X.prog X.w) X.A X.xe none (EP X pins σ Q) (.ref D) s3.heap.objs.size) { s3 with heap:=h₁,toks:=s3.toks + ([]:List (Str × Value)).length }:=by
   refine ZiT (Y:=blk X scope cl N s3.heap.objs.size fp s3 H3) hu T (fun _ _ z=>z) fp5 (hg _ fp s3 H3) (ht _ fp s3 H3) (hk _ fp s3 H3) (hv _ fp s3 H3) (fun i H' α' M' ex hr=>sc i H' α' M' (e3.trans ex) hr) aD I4 st4 (fun b hb=>(f3 b hb).1) ((srI.blk).mono e3) h3 er ?_
   intro σ5 H5 α5 s6 I6 ex5 hr5
   obtain ⟨I7,I8⟩:=Zek B I3 f3 I6
   obtain ⟨m6,hm6,_⟩:=id I6.loc
   exact ⟨m6,hm6,fun h' sb=>⟨.ref D,H5,I8 σ s6 h' I7 (fun b o hb e=>(sb.2 b hb).trans e),rfl,op2 _ H5 α5 (e3.trans ex5) hr5 (.dt (ex5.get aD))⟩⟩
  exact codeAny_compStart_dict loop (T.self X.A 0 _ _ _ st4 loop)
end
end DL
end
section
namespace DL
open PySem PySem.Spec PyProof.Rows L2
section
variable {prog:Program} {w:World} {A:Around} {E:Value->Shared->Prop} {s:Shared} {d it:Addr} {od:Obj} {es:Array DictEntry} {ep i n:Nat}
end
section
variable {X:Cx} {pins:List (Addr × Obj)} {σ:L2.St} {H:Hp} {s:Shared} {d:Addr} {o:Obj} {kvs:List (List Key × V)}
end
section
variable {X:Cx} {ξ:XK} {tg a:Expr} {f:Ev} {te:TE}
end
end DL
end
section
namespace DL
open PySem PySem.Spec PyProof.Rows L2
section
variable {X:Cx} {ξ:XK} {e:Expr} {es:List Expr} {fs:Av} {p pos:Pos} {x:Str}
end
section
variable {X:Cx} {ξ:XK} {pos p:Pos} {v:Expr} {keys:List (Option Expr)} {values:List Expr} {k:Str} {f:Ev} {kfs:List (Str × Ev)} {j:Nat}
end
section
variable {X:Cx} {ξ:XK} {tg a:Expr} {f:Ev} {te:TE}
end
end DL
end
section
namespace DL
open PySem PySem.Spec PyProof.Rows L2
section
variable {X:Cx} {ξ:XK} {pins:List (Addr × Obj)} {σ:L2.St} {H:Hp} {s:Shared} {α:List Addr} {M:Sto}
end
end DL
end
namespace DL
open PySem PySem.Spec L2
section
variable {X:Cx} {ξ:XK} {a b c:Expr} {fa fb fc:Ev} {pos:Pos}
end
end DL
section
namespace DL
open PySem PySem.Spec PyProof.Rows L2 PySem.W
noncomputable def Zhf:List Value->List Int->Bool
 | [],[]=>true
 | .int i _ :: r,j :: s=>i == j && Zhf r s
 |_,_=>false
noncomputable def Zhg (K:PySem.W.Frag) (v:Value):Option (Addr × List Value):=match v with
 | .ref p=>(match K.lookup p with
  |some o=>if (o.cls == .type "tuple" && o.dict.isNone)=true then (match o.data with | .seq its _=>if its.size<=1000 then some (p,its.toList) else none | _=>none) else none
  |none=>none)
 |_=>none
noncomputable def Zhh (K:PySem.W.Frag):List Value->List (List Int)->Bool
 | [],[]=>true
 |v :: r,js :: s=>(match Zhg K v with | some (_,us)=>Zhf us js | none=>false) && Zhh K r s
 |_,_=>false
noncomputable def Zj8 (K:PySem.W.Frag) (x:Str) (rows:List (List Int)):Bool:=match nsIn K mainGlobals x with
 |some (some v)=>(match Zhg K v with | some (_,us)=>Zhh K us rows | none=>false)
 |_=>false
noncomputable def Zsb (rows:List (List Int)):D:= .con (rows.map fun r=> .con (r.map D.int))
section
variable {K:PySem.W.Frag} {H:Hp} {α:List Addr}
theorem ZgI: ∀ {us:List Value} {js:List Int},Zhf us js=true-> ∃ xs,Z8 xs us/\Reps K H α xs (js.map D.int)
 | [],[],_=>⟨[],.nil,.nil⟩
 | .int i t :: r,j :: s,h=>by
  simp only[Zhf,Bool.and_eq_true,beq_iff_eq] at h
  obtain ⟨xs,h1,h2⟩:=ZgI h.2
  obtain ⟨rfl,-⟩:=h
  exact ⟨.int i :: xs,.cons ⟨t,rfl⟩ h1,.cons (.int i) h2⟩
 | [],_ :: _,h=>by simp[Zhf] at h
 | .int _ _ :: _,[],h=>by simp[Zhf] at h
theorem ZgJ {v:Value} {p:Addr} {us:List Value} (h:Zhg K v=some (p,us)):v= .ref p/\ ∃ (o:Obj) (its:Array Value) (n:Nat),K.lookup p=some o/\o.cls= .type "tuple"/\o.data= .seq its n/\its.size<=sizeLine/\its.toList=us/\o.dict=none:=by
 unfold Zhg at h
 split at h
 ·rename_i p'
  split at h
  ·rename_i o ho
   split at h
   ·rename_i hc
    split at h
    ·rename_i its n hd
     split at h
     ·rename_i hz
      cases h
      simp only[Bool.and_eq_true,beq_iff_eq,Option.isNone_iff_eq_none] at hc
      exact ⟨rfl,o,its,n,ho,hc.1,hd,Nat.le_trans hz (by decide),rfl,hc.2⟩
     ·cases h
    ·cases h
   ·cases h
  ·cases h
 ·cases h
theorem ZgK: ∀ {us:List Value} {rows:List (List Int)},Zhh K us rows=true-> ∃ xs,Z8 xs us/\Reps K H α xs (rows.map fun r=>D.con (r.map D.int))
 | [],[],_=>⟨[],.nil,.nil⟩
 |v :: r,js :: s,h=>by
  simp only[Zhh,Bool.and_eq_true] at h
  obtain ⟨h1,h2⟩:=h
  obtain ⟨xs,k1,k2⟩:=ZgK h2
  cases e:Zhg K v with
  |none=>rw[e] at h1;cases h1
  |some q=>
   obtain ⟨p,us⟩:=q
   rw[e] at h1
   obtain ⟨rfl,o,its,n,a1,a2,a3,a4,a5,a6⟩:=ZgJ e
   obtain ⟨ys,b1,b2⟩:=ZgI (K:=K) (H:=H) (α:=α) h1
   exact ⟨.ref p :: xs,.cons rfl k1,.cons (.con ⟨o,its,n,a1,a2,a3,a4,by rw[a5];exact b1,a6⟩ b2) k2⟩
 | [],_ :: _,h=>by simp[Zhh] at h
 |_ :: _,[],h=>by simp[Zhh] at h
end
section
variable {X:Cx} {ξ:XK} {pos:Pos}
theorem Zn2 {x:Str} {rows:List (List Int)} (hx:Zj8 X.K x rows=true) (gl: ∀ c v,nsIn X.K mainGlobals c=some (some v)->X.mg c=some v) (hg:Gl X x:=by rfl) (hdb:(x == ("__debug__":Str))=false:=by decide):DE X ξ (.Name x pos) (eC (Zsb rows)):=by
 unfold Zj8 at hx
 split at hx
 ·rename_i v hv
  cases e:Zhg X.K v with
  |none=>rw[e] at hx;cases hx
  |some q=>
   obtain ⟨p,us⟩:=q
   rw[e] at hx
   obtain ⟨rfl,o,its,n,a1,a2,a3,a4,a5,a6⟩:=ZgJ e
   refine ⟨_,ZhN (v:= .ref p) hg (gl x _ hv) rfl hdb,fun σ ρ H α M Q s h q=> ?_⟩
   obtain ⟨ys,b1,b2⟩:=ZgK (K:=X.K) (H:=H) (α:=α) hx
   exact q _ H α Ext.refl h (.con ⟨o,its,n,a1,a2,a3,a4,by rw[a5];exact b1,a6⟩ b2)
 ·cases hx
variable {o e:Expr} {fo fa:Ev} {apos cpos:Pos}
end
end DL
end
section
namespace PySem.SeqAt
open MeetsSeq MeetsSeq2 MeetsSeq3 SeqRoads2
theorem tup_idx (p:Addr) (items:Array Value) (n:Nat) (dd:Option Addr) (sl:Array (Option Value)) (x:Value) (e:Value->Bool) (j:Nat) (hj:j < items.size)
  (hit:e items[j]=true) (hno: ∀ m (hm:m < items.size),m < j->e items[m]=false):
  Meets (Builtin.«tuple.index» ⟨[.ref p,x],[]⟩)
   (fun A R s=>s.heap.get? p=some { cls:= .type "tuple",dict:=dd,data:= .seq items n,slots:=sl }/\(∀ y,y∈items->EqAt A.in1 s y x (e y))/\R (.ok (.ret (.int j s.toks))) { s with toks:=s.toks + 1 }):=by
 intro prog w A R s h
 obtain ⟨hl,he,h⟩:=h
 obtain ⟨hp,g,d,tk,os⟩:=s
 wp_walk using wpAny_tupleItemsOf hl rfl
 rw[Nat.min_self]
 show wpAny _ _ (forIn [:items.size] ((none,()):Option Fin × Unit) _) _ _ _
 rw[Std.Legacy.Range.forIn_eq_forIn_range']
 refine wpAny_forIn_list _ (fun l b s'=>s'=⟨hp,g,d,tk,os⟩/\b=(none,())/\ ∃ i,i<=j/\l=List.range' i (items.size - i)) _ ?_ ?_ _ _ ⟨rfl,rfl,0,Nat.zero_le _,by simp[Std.Legacy.Range.size]⟩
 ·rintro i rest b s' ⟨rfl,rfl,k,hk,e1⟩
  have hk2:k < items.size:=by omega
  rw[show items.size - k=(items.size - (k + 1)) + 1 by omega,List.range'_succ] at e1
  obtain ⟨rfl,rfl⟩:=List.cons.inj e1
  have hi:items[i]?=some items[i]:=by simp[hk2]
  rw[hi]
  refine wpAny_bind (he _ (Array.getElem_mem hk2) prog w _ _ ?_)
  by_cases c:i=j
  ·subst c
   rw[hit]
   simp only[if_true]
   wp_walk
   exact h
  ·rw[hno i hk2 (by omega)]
   simp only[Bool.false_eq_true,if_false]
   exact wpAny_pure ⟨rfl,rfl,i + 1,by omega,rfl⟩
 ·rintro b s' ⟨rfl,rfl,k,hk,e1⟩
  exfalso
  have:=congrArg List.length e1
  simp at this
  omega
end PySem.SeqAt
namespace DL
open PySem PySem.Spec PyProof.Rows L2 PySem.W
section
variable {X:Cx} {ξ:XK} {o e:Expr} {fo fa:Ev} {apos cpos:Pos}
noncomputable def Zqq (X:Cx):V->List V->Hp->VK->Prop:=fun v vs H Q=> ∃ α M d ds bs p xs u j,HR X.K H α M/\v= .ref p/\vs=[u]/\Rep X.K H α u d/\SqT X.K H p xs/\Reps X.K H α xs ds/\eqs M d ds=some bs/\bs.findIdx? id=some j/\Q (.int (j:Nat)) H
theorem ZlM (hu:X.A.units + 64 < cLine):MtR X "tuple.index" (Zqq X):=by
 intro pins s σ H x vs v us Q I rx rv hh
 obtain ⟨α,M,d,ds,bs,p,xs,u,j,h,e1,e2,rd,hq,rp,e,ej,q⟩:=hh
 subst e1 e2
 cases rx
 obtain ⟨uv,rfl,ru⟩:=ZdH rv
 obtain ⟨its,r,pl,hz⟩:=I.tuple hq
 obtain ⟨f,f1,f2⟩:=ZfX (A:=X.A) hu I h r rp ru rd e
 obtain ⟨⟨cls,dd,data,sl⟩,ho,hc,n,hd⟩:=pl
 simp only at hc hd
 subst hc hd
 obtain ⟨jl,j1,j2⟩:=List.findIdx?_eq_some_iff_getElem.mp ej
 have lb:bs.length=its.length:=by rw[<- f2,List.length_map]
 have gt: ∀ (m:Nat) (hm:m < its.length),bs[m]?=some (f its[m]):=fun m hm=>by rw[<- f2,List.getElem?_map,List.getElem?_eq_getElem hm];rfl
 refine call_meets PySem.F.slot_tuple_index ⟨_,ho,rfl⟩ PySem.F.entry_tuple_index (PySem.F.args_tuple_index_2 _ _) (SeqAt.tup_idx p its.toArray n dd sl uv f j (by simp;omega) ?_ fun m hm hmj=> ?_) ⟨ho,f1,.int (j:Nat),H,I.tok _,⟨_,rfl⟩,q⟩
 ·have g1:=gt j (by omega)
  rw[List.getElem?_eq_getElem jl] at g1
  rw[List.getElem_toArray,<- Option.some.inj g1]
  exact j1
 ·have hm':m < its.length:=by simpa using hm
  have g1:=gt m hm'
  rw[List.getElem?_eq_getElem (by omega)] at g1
  rw[List.getElem_toArray,<- Option.some.inj g1]
  simpa using j2 m hmj
noncomputable def Zsc (g:Me) (fo:Ev) (fs:Av):Ev:=fun ρ M=>(fo ρ M).bind fun x M1=>match x with | .con xs=>(fs ρ M1).bind fun ds M2=>g (.con xs) ds M2 | _=> .bad
noncomputable def ZiU:Me:=fun x ds M=>match x,ds with
 | .con xs,[d]=>(match eqs M d xs with | some bs=>(match bs.findIdx? id with | some j=> .ok (.int (j:Nat)) M | none=> .bad) | none=> .bad)
 |_,_=> .bad
theorem ZlN (hu:X.A.units + 64 < cLine) (ho:DE X ξ o fo) (ha:DE X ξ e fa) (hbase:attributeBase o "index" X.env (eval o X.env)=eval o X.env:=by rfl)
  (hfew:((backTo cpos (starEach [e] X.env)).all (fun x=> !x.1) && (backToKw cpos (keywordEach [] X.env)).all (fun x=>x.1.isSome)
   && decide ([e].length + ([]:List Keyword).length + (if ([]:List Keyword).isEmpty then 0 else 1) < 30))=true:=by rfl)
  (hline:(apos.endLine == cpos.line)=true:=by rfl) (hs:starEach [e] X.env=(false,eval e X.env) :: starEach [] X.env:=by rfl) (hplain:(backTo cpos (starEach [] X.env)).any (·.1)=false:=by rfl):
  DE X ξ (.Call (.Attribute o "index" apos) [e] [] cpos) (Zsc ZiU fo (Zc fa aNil)):=by
 obtain ⟨to,po,qo⟩:=ho
 obtain ⟨ta,pa,qa⟩:=Za ha Zd hs
 refine ⟨_,Zna PySem.F.plainAttrs_tuple PySem.F.slot_tuple_index PySem.F.type_tuple_index (ZlM hu) po pa hbase hfew hline hs hplain,fun σ ρ H α M Q s h q=> ?_⟩
 refine qo σ ρ H α M _ s h (OG.seq q fun x M1 v H1 α1 e1 h1 r1 q1=> ?_)
 cases r1 with
 | @con p xs ds hp rp=>
  refine ⟨?_,qa σ ρ H1 α1 M1 _ (s.mono e1) h1 (OG.seq q1 fun ds' M2 vs H2 α2 e2 h2 r2 q2=> ?_)⟩
  ·obtain ⟨o,its,n,k1,k2,k3,k4,k5,k6⟩:=hp
   exact .inr (.inl ⟨rfl,o,k1,k2,k6⟩)
  ·match r2 with
   | .nil=>exact q2.elim
   | .cons _ (.cons _ _)=>exact q2.elim
   | .cons (v:=u) (d:=d) ru .nil=>
    cases c2:eqs M2 d ds with
    |none=>simp only[ZiU,c2] at q2;exact q2.elim
    |some bs=>
     cases c3:bs.findIdx? id with
     |none=>simp only[ZiU,c2,c3] at q2;exact q2.elim
     |some j=>
      simp only[ZiU,c2,c3] at q2
      exact ⟨α2,M2,d,ds,bs,p,xs,u,j,h2,rfl,rfl,ru,hp.sq,Reps.mono e2 rp,c2,c3,q2 _ H2 α2 Ext.refl h2 (.int _)⟩
 |_=>exact q1.elim
end
end DL
end
section
namespace ST
open PySem PyProof.Rows
noncomputable abbrev lt (a b:List Int):Bool:=HT.Zce a b
noncomputable def le (a b:List Int):Prop:=lt b a=false
variable (kf:Keyed->List Int)
noncomputable def ky (xs:Array Keyed) (i:Nat):List Int:=match xs[i]? with | some p=>kf p | none=>[]
noncomputable def Dn (xs:Array Keyed) (n:Nat):Prop:= ∀ i j,i<=j->j < n->le (ky kf xs j) (ky kf xs i)
variable {kf}
section
variable {prog:Program} {w:World} {A:Around} {E:Value->Shared->Prop} {s:Shared} {B:SortSt->Prop} {N:Nat}
end
end ST
end
section
namespace ST
end ST
namespace DL
open PySem PySem.Spec PyProof.Rows L2 PySem.W
section
variable {X:Cx} {ξ:XK}
end
end DL
end
section
namespace DL
open PySem PySem.Spec PyProof.Rows L2
noncomputable def Bag (n:Nat) (M:Sto):Prop:= ∃ a b:Int,0<=a/\M[n]?=some (.lst [.int a,.int b])
structure Gr (n:Nat) (M M':Sto):Prop where
 len:M.length<=M'.length
 bag:Bag n M'
 keep: ∀ k,k≠n->k < M.length->M'[k]?=M[k]?
theorem ZiV {i j:Int} (h1: -(2 ^ 64) < j) (h2:j < 2 ^ 64):Zag i j:= .inr (.inl (intBits_le_64 h1 h2))
theorem ZiW {i j:Int} (h1: -(2 ^ 64) < i) (h2:i < 2 ^ 64):Zag i j:= .inl (intBits_le_64 h1 h2)
theorem at0 {x:D} {r:List D}:atI (x :: r) 0=some x:=by
 show (ixN (r.length + 1) 0).bind _=_
 unfold ixN
 rw[if_pos (by decide),if_pos (by omega)]
 rfl
theorem at1 {x y:D} {r:List D}:atI (x :: y :: r) 1=some y:=by
 show (ixN (r.length + 2) 1).bind _=_
 unfold ixN
 rw[if_pos (by decide),if_pos (by omega)]
 rfl
theorem Zj9 {ns:List Int} {k:Nat} (h:k < ns.length):atI (ns.map D.int) (k:Int)=some (.int ns[k]):=Zlj (by rw[List.getElem?_map,List.getElem?_eq_getElem h];rfl)
theorem ZlO (a:Int):(if a < 0 then -a else a)=(a.natAbs:Int):=by split<;>omega
end DL
end
section
end
section
namespace HD
open PySem PySem.W PyProof.Rows
noncomputable def ZpP (thr:Thread->Bool) (stp:SharedT->Thread->Option (SharedT × Thread)) (n:Nat):SharedT->Thread->Option SharedT:=
 Nat.rec (motive:=fun _=>SharedT->Thread->Option SharedT) (fun _ _=>none) (fun _ ih s t=>Bool.rec (motive:=fun _=>Option SharedT) (Option.rec (motive:=fun _=>Option SharedT) none (fun r=>ih r.1 r.2) (stp s t)) (some s) (thr t)) n
noncomputable def Zka (ok:Thread->Bool) (stp:SharedT->Thread->Option (SharedT × Thread)) (s:SharedT) (t:Thread):Option (SharedT × Thread):=Bool.rec (motive:=fun _=>Option (SharedT × Thread)) none (stp s t) (ok t)
section
variable {tb:String->Option Builtin} {p:Program} {w:World} {n₀:Nat} {ann:Option Value}
theorem ZkO: ∀ {n:Nat} {s s':SharedT} {t:Thread},ZpP through (Zka (stepOk n₀ ann) (stepT (denote tb) p w)) n s t=some s'->topRun tb p w n₀ ann n s.abs t=some s'.abs
 |0,s,s',t,h=>by cases h
 |n + 1,s,s',t,h=>by
  unfold topRun
  change Bool.rec (motive:=fun _=>Option SharedT) (Option.rec (motive:=fun _=>Option SharedT) none (fun r=>ZpP through (Zka (stepOk n₀ ann) (stepT (denote tb) p w)) n r.1 r.2) (Zka (stepOk n₀ ann) (stepT (denote tb) p w) s t)) (some s) (through t)=some s' at h
  cases ht:through t with
  |true=>
   rw[ht] at h
   have h':some s=some s':=h
   cases h'
   rfl
  |false=>
   rw[ht] at h
   cases hk:stepOk n₀ ann t with
   |false=>
    have e:Zka (stepOk n₀ ann) (stepT (denote tb) p w) s t=none:=by unfold Zka;rw[hk]
    rw[e] at h
    cases h
   |true=>
    have e:Zka (stepOk n₀ ann) (stepT (denote tb) p w) s t=stepT (denote tb) p w s t:=by unfold Zka;rw[hk]
    rw[e] at h
    cases hs:stepT (denote tb) p w s t with
    |none=>rw[hs] at h;cases h
    |some r=>
     obtain ⟨s2,t2⟩:=r
     rw[hs] at h
     have:=stepT_spec hs
     rw[this]
     exact ZkO (n:=n) h
end
noncomputable def T0 (w:World) (os:OsState):SharedT:=
 ⟨[boot_o_0,boot_o_1,boot_o_2,boot_o_3,boot_o_4,boot_o_5,boot_o_6,boot_o_7,boot_o_8,boot_o_9,boot_o_10].foldl (fun (r:Nat × BT) o=>(r.1 + 1,r.2.ins r.1 (o w.params))) (0,.nil) |>.2,11,(boot_heap w.params).life,#[],boot_drawn,boot_toks,os⟩
theorem Zn3 (w:World) (os:OsState):(T0 w os).abs=⟨boot_heap w.params,#[],boot_drawn,boot_toks,os⟩:=by kernel_rfl
theorem ZlP:Str.ofString "__annotations__"=⟨#[95,95,97,110,110,111,116,97,116,105,111,110,115,95,95]⟩:=by decide +kernel
theorem ZiX {p q:Program} {loose:List Str} {Xt:Shared->Bool} {α:Type} {Yf:Shared->α} {Ya:World->α} {N M:Nat} (e:opening p=plainProg p.main.scope.names) (hN:Nat.ble 600 N=true) (f: ∀ s,fenceModules? p s=some s) (le:Nat.ble M N=true)
  (Zqr: ∀ (w:World) (os:OsState),(ZpP through (Zka (stepOk 11 (some (.ref 6))) (stepT (denote treeTable) p w)) M (T0 w os) (topStub p)).map (fun s=>((staticsOk (importedModules p.main.body) (boot_heap w.params) s.abs.heap && namesBound p s.abs.heap && gensDone s.abs && laidKept (boot_heap w.params) s.abs.heap),
    openSeen q loose (importedModules p.main.body) Xt true s.abs,Yf s.abs))=some (true,openGood q loose,Ya w)):LeftO p q loose Xt Yf Ya N:=fun w=>by
 obtain ⟨⟨h,gs,d,k,os⟩,e1,e2⟩:=Option.map_eq_some_iff.mp (boot_open e hN f w)
 obtain ⟨rfl,rfl,rfl,rfl⟩:h=boot_heap w.params/\gs=Array.mk []/\d=boot_drawn/\k=boot_toks:=by simpa using e2
 obtain ⟨s',r1,r2⟩:=Option.map_eq_some_iff.mp (Zqr w os)
 obtain ⟨l1,l2,l3⟩:_/\_/\_:=by simpa only[Prod.mk.injEq] using r2
 have r:=ZkO r1
 rw[Zn3] at r
 have r:=topRun_mono (N - M) _ _ _ _ r
 rw[show M + (N - M)=N by have:=Nat.le_of_ble_eq_true le;omega] at r
 have z1:((boot_heap w.params).isNs mainGlobals && (Array.mk []:Array GenState).size == 0)=true:=by kernel_rfl
 have z2:(boot_heap w.params).objs.size=11:=rfl
 have z3:(boot_heap w.params).nsMap mainGlobals "__annotations__"=some (.ref 6):=by
  rw[ZlP]
  kernel_rfl
 have t:topFrom treeTable p w N ⟨boot_heap w.params,Array.mk [],boot_drawn,boot_toks,os⟩=some s'.abs:=by
  unfold topFrom
  dsimp only
  rw[z1,z2,z3,r]
  show (match staticsOk (importedModules p.main.body) (boot_heap w.params) s'.abs.heap && namesBound p s'.abs.heap && gensDone s'.abs && laidKept (boot_heap w.params) s'.abs.heap with | true=>_ | false=>_)=_
  rw[l1]
 unfold openEnds
 rw[e1]
 show (topFrom treeTable p w N _).map _=_
 rw[t]
 exact congrArg some (Prod.ext l2 l3)
end HD
namespace HD
open PySem PySem.W
theorem Zqs: @stepOk= @PySem.W.Fast.tw6613529449190102663:=PySem.W.Fast.te6613529449190102663
theorem ZlQ: @stepT= @PySem.W.Fast.tw10156331382660048174:=PySem.W.Fast.te10156331382660048174
theorem Zn4: @denote= @PySem.W.Fast.tw11892475500146522536:=PySem.W.Fast.te11892475500146522536
theorem Zn5: @treeTable= @PySem.W.Fast.tw14364793385576792824:=PySem.W.Fast.te14364793385576792824
theorem ZlR: @openSeen= @PySem.W.Fast.tw4187177175401517315:=PySem.W.Fast.te4187177175401517315
theorem Zn6: @importedModules= @PySem.W.Fast.tw5923862056798008813:=PySem.W.Fast.te5923862056798008813
end HD
end
section
namespace DL
open PySem PySem.Spec PyProof.Rows L2
noncomputable def wO {β:Type} (o:Out β) (Q:β->Sto->Prop) (E:Str->Sto->Prop):Prop:=match o with
 | .ok a M=>Q a M
 | .exc c M=>E c M
 | .bad=>False
noncomputable def wS (f:Fl) (N:Ro->Sto->Prop) (R:D->Sto->Prop) (B C:Ro->Sto->Prop) (E:Str->Sto->Prop):Prop:=match f with
 | .nx ρ M=>N ρ M
 | .ret d M=>R d M
 | .brk ρ M=>B ρ M
 | .cnt ρ M=>C ρ M
 | .exc c M=>E c M
 | .bad=>False
noncomputable def Br (k:Bool) (A B:Prop):Prop:=(k=true->A)/\(k=false->B)
noncomputable def wG {β:Type} (o:Option β) (N:β->Prop):Prop:=match o with | some ρ=>N ρ | none=>False
noncomputable def wV (o:Option (Option D)) (Q:D->Prop):Prop:=match o with | some (some d)=>Q d | _=>False
noncomputable def wI (x:D) (Q:Int->Prop):Prop:=match x with | .int i=>Q i | _=>False
noncomputable def wB (x:D) (Q:Bool->Prop):Prop:=match x with | .bl i=>Q i | _=>False
noncomputable def wR (x:D) (Q:Nat->Prop):Prop:=match x with | .ref i=>Q i | _=>False
noncomputable def w1 (x:List D) (Q:D->Prop):Prop:=match x with | [v]=>Q v | _=>False
noncomputable def w2 (x:List D) (Q:D->D->Prop):Prop:=match x with | [v,w]=>Q v w | _=>False
noncomputable def wL (o:Option SO) (Q:List D->Prop):Prop:=match o with | some (.lst xs)=>Q xs | none=>False
section
variable {β:Type} {o o':Option (Option D)} {x x':D} {Q:D->Prop} {QI:Int->Prop} {QB:Bool->Prop} {QR:Nat->Prop} {QL:List D->Prop} {l l':Option SO} {d:D} {i:Int} {k:Bool} {n:Nat} {xs:List D} {g g':Option β} {QG:β->Prop} {y:β}
theorem Ztr:w1 [d] Q=Q d:=rfl
theorem Zts {Q2:D->D->Prop}:w2 [d,x] Q2=Q2 d x:=rfl
theorem Ztt:wV (some (some d)) Q=Q d:=rfl
theorem Ztu:wI (.int i) QI=QI i:=rfl
theorem Ztv:wB (.bl k) QB=QB k:=rfl
theorem Ztw:wR (.ref n) QR=QR n:=rfl
theorem Ztx:wL (some (.lst xs)) QL=QL xs:=rfl
theorem Zty:wG (some y) QG=QG y:=rfl
end
section
variable {β:Type} {Q:β->Sto->Prop} {E:Str->Sto->Prop} {N B C:Ro->Sto->Prop} {R:D->Sto->Prop} {ρ:Ro} {M:Sto} {A A':Prop}
theorem ZF {d:β}:wO (.ok d M) Q E=Q d M:=rfl
theorem Zn7 {c:Str}:wO (.exc c M:Out β) Q E=E c M:=rfl
theorem Zqt:Br true A A'=A:=by simp[Br]
theorem Zsd:Br false A A'=A':=by simp[Br]
theorem brN {p:Prop} [Decidable p] (h1: ¬ p->A) (h2:p->A'):Br (!decide p) A A':=⟨fun h=>h1 (by simpa using h),fun h=>h2 (by simpa using h)⟩
theorem Zeu {o:Out β} {Q':β->Sto->Prop} {E':Str->Sto->Prop} (h:wO o Q E) (hq: ∀ d M,Q d M->Q' d M) (he: ∀ c M,E c M->E' c M):wO o Q' E':=by
 cases o with
 |ok d M=>exact hq d M h
 |exc c M=>exact he c M h
 |bad=>exact h
theorem ZkP {o:Out β} (h:wO o Q (fun _ _=>False)): ∃ d M',o= .ok d M'/\Q d M':=by
 cases o with
 |ok d M=>exact ⟨d,M,rfl,h⟩
 |exc c M=>exact h.elim
 |bad=>exact h.elim
theorem ZE {γ:Type} {o:Out γ} {f:γ->Sto->Out β}:wO (o.bind f) Q E=wO o (fun x M1=>wO (f x M1) Q E) E:=by cases o<;>rfl
end
section
variable {Q:D->Sto->Prop} {E:Str->Sto->Prop} {N B C:Ro->Sto->Prop} {R:D->Sto->Prop} {ρ:Ro} {M:Sto} {e f g:Ev} {fs:Av}
theorem Zqu {op:Bo}:wO (e2 op f g ρ M) Q E=wO (f ρ M) (fun x M1=>wO (g ρ M1) (fun y M2=>wO (op x y M2) Q E) E) E:=by
 unfold e2
 rw[ZE]
 congr 1
 funext x M1
 rw[ZE]
theorem Ztz {i:Nat}:wO (Zg i ρ M) Q E=wV ρ[i]? (fun d=>Q d M):=by
 unfold Zg
 cases ρ[i]? with
 |none=>rfl
 |some o=>cases o<;>rfl
theorem ZlS {F:List D->Sto->Out D}:wO (Zk F fs ρ M) Q E=wO (fs ρ M) (fun ds M1=>wO (F ds M1) Q E) E:=ZE
theorem ZlT {Q:List D->Sto->Prop}:wO (Zc f fs ρ M) Q E=wO (f ρ M) (fun x M1=>wO (fs ρ M1) (fun xs M2=>Q (x :: xs) M2) E) E:=by
 unfold Zc
 rw[ZE]
 congr 1
 funext x M1
 rw[ZE]
 congr 1
theorem Zn8:wO (Zah fs ρ M) Q E=wO (fs ρ M) (fun xs M1=>xs.length<=1000/\Q (.tup xs) M1) E:=by
 unfold Zah
 rw[ZE]
 congr 1
 funext x M1
 by_cases h:x.length<=1000
 ·rw[if_pos h];simp[h,wO]
 ·rw[if_neg h];simp[h,wO]
theorem Zn9:wO (ZbZ fs ρ M) Q E=wO (fs ρ M) (fun xs M1=>xs.length<=1000/\Q (.ref M1.length) (M1 ++ [.lst xs])) E:=by
 unfold ZbZ
 rw[ZE]
 congr 1
 funext x M1
 by_cases h:x.length<=1000
 ·rw[if_pos h];simp[h,wO]
 ·rw[if_neg h];simp[h,wO]
variable {t u:Tv}
theorem Zoa {Q:Bool->Sto->Prop}:wO (ZfP t ρ M) Q E=wO (t ρ M) (fun k M1=>Q (!k) M1) E:=by
 unfold ZfP
 rw[ZE]
 congr 1
variable {a b:Sv}
theorem Zob:wS (Zz a b ρ M) N R B C E=wS (a ρ M) (fun ρ1 M1=>wS (b ρ1 M1) N R B C E) R B C E:=by
 unfold Zz
 cases a ρ M<;>rfl
theorem Zay {β:Type} {o:Out β} {k:β->Sto->Fl}:wS (Za2 o k) N R B C E=wO o (fun x M1=>wS (k x M1) N R B C E) E:=by cases o<;>rfl
theorem Zoc:wS (Zap f ρ M) N R B C E=wO (f ρ M) R E:=Zay
theorem ZlU:wS (Zbn f ρ M) N R B C E=wO (f ρ M) (fun _ M1=>N ρ M1) E:=Zay
theorem Zod {i:Nat}:wS (ZJ (gNm i) f ρ M) N R B C E=wO (f ρ M) (fun d M1=>N (ρ.set i (some d)) M1) E:=Zay
theorem ZlV {gs:Tgs}:wS (ZJ (gTp gs) f ρ M) N R B C E=wO (f ρ M) (fun d M1=>wG (gTp gs d ρ) (fun r=>N r M1)) E:=by
 unfold ZJ
 rw[Zay]
 congr 1
 funext d M1
 cases gTp gs d ρ<;>rfl
theorem Zoe {i j:Nat}:wS (Ze5 i j fs ρ M) N R B C E=wO (fs ρ M) (fun ds M1=>w2 ds fun v w=>N ((ρ.set i (some v)).set j (some w)) M1) E:=by
 unfold Ze5
 rw[Zay]
 congr 1
 funext ds M1
 rcases ds with _ | ⟨v,_ | ⟨w,_ | ⟨z,r⟩⟩⟩<;>rfl
theorem Zof {fo fi:Ev}:wS (Znw fo fi f ρ M) N R B C E=wO (f ρ M) (fun d M1=>wO (fo ρ M1) (fun o M2=>wO (fi ρ M2) (fun i M3=>wR o fun n=>wI i fun k=>wL M3[n]? fun xs=>wG (ixN xs.length k) fun j=>N ρ (M3.set n (.lst (xs.set j d)))) E) E) E:=by
 unfold Znw
 rw[Zay]
 congr 1
 funext d M1
 rw[Zay]
 congr 1
 funext o M2
 rw[Zay]
 congr 1
 funext i M3
 cases o<;>cases i<;>try rfl
 rename_i n k
 cases e:M3[n]? with
 |none=>simp only[e,wR,wI,wL,wS]
 |some s=>
  cases s with
  |lst xs=>
   cases e2:ixN xs.length k<;>simp only[e,e2,wR,wI,wL,wG,wS]
theorem Zkb {c:Str}:wS (ZbL c fs ρ M) N R B C E=wO (fs ρ M) (fun ds M1=>ds.length<=1000/\E c M1) E:=by
 unfold ZbL
 rw[Zay]
 congr 1
 funext ds M1
 by_cases h:ds.length<=1000
 ·rw[if_pos h];simp[h,wS]
 ·rw[if_neg h];simp[h,wS]
theorem wF {n k:Nat} {ds:List D} (hl:ds.length=n):wO (fnF a n k ds M) Q E=wS (a (ds.map some ++ List.replicate k none) M) (fun _ M1=>Q .non M1) Q (fun _ _=>False) (fun _ _=>False) E:=by
 unfold fnF
 rw[if_pos hl]
 cases a (ds.map some ++ List.replicate k none) M<;>rfl
theorem ZiY {o:Fl} {N' B' C':Ro->Sto->Prop} {R':D->Sto->Prop} {E':Str->Sto->Prop} (h:wS o N R B C E) (hn: ∀ ρ M,N ρ M->N' ρ M) (hr: ∀ d M,R d M->R' d M) (hb: ∀ ρ M,B ρ M->B' ρ M) (hc: ∀ ρ M,C ρ M->C' ρ M) (he: ∀ c M,E c M->E' c M):wS o N' R' B' C' E':=by
 cases o with
 |nx ρ M=>exact hn _ _ h
 |ret ρ M=>exact hr _ _ h
 |brk ρ M=>exact hb _ _ h
 |cnt ρ M=>exact hc _ _ h
 |exc ρ M=>exact he _ _ h
 |bad=>exact h
variable {tg:Tg} {bd:Sv} {fi:Ro->Sto->Out Src}
theorem ZiZ (I:Nat->Ro->Sto->Prop): ∀ (xs:List D) (k:Nat) (ρ:Ro) (M:Sto),I k ρ M->(∀ i ρ M (h:i < xs.length),I (k + i) ρ M->wG (tg xs[i] ρ) fun r=>wS (bd r M) (I (k + i + 1)) R N (I (k + i + 1)) E)->(∀ ρ M,I (k + xs.length) ρ M->N ρ M)->wS (ZbU tg bd xs ρ M) N R B C E
 | [],k,ρ,M,h,_,hn=>hn ρ M h
 |x :: xs,k,ρ,M,h,st,hn=>by
  have s:=st 0 ρ M (by simp) h
  unfold ZbU
  simp only[List.getElem_cons_zero,Nat.add_zero] at s
  cases e:tg x ρ with
  |none=>rw[e] at s;exact s.elim
  |some ρ1=>
   rw[e] at s
   simp only[wG] at s
   have rc: ∀ ρ2 M2,I (k + 1) ρ2 M2->wS (ZbU tg bd xs ρ2 M2) N R B C E:=fun ρ2 M2 h2=>ZiZ I xs (k + 1) ρ2 M2 h2 (fun i ρ M hi hI=>by
    have z:=st (i + 1) ρ M (by simp;omega) (by rw[show k + (i + 1)=k + 1 + i by omega];exact hI)
    simp only[List.getElem_cons_succ] at z
    rw[show k + (i + 1) + 1=k + 1 + i + 1 by omega] at z
    exact z) (fun ρ M hI=>hn ρ M (by rw[show k + (x :: xs).length=k + 1 + xs.length by simp;omega];exact hI))
   cases eg:bd ρ1 M<;>rw[eg] at s<;>simp only[eg]
   ·exact rc _ _ s
   ·exact s
   ·exact s
   ·exact rc _ _ s
   ·exact s
   ·exact s
theorem ZlW:wS (ZbI tg fs bd ρ M) N R B C E=wO (fs ρ M) (fun ds M1=>w1 ds fun d=>wI d fun j=>(-(2 ^ 62)<=j/\j < 2 ^ 62)/\wS (ZbU tg bd (ZbD 0 j.toNat) ρ M1) N R B C E) E:=by
 unfold ZbI
 rw[Zay]
 congr 1
 funext ds M1
 rcases ds with _ | ⟨v,_ | ⟨w,r⟩⟩
 ·rfl
 ·cases v<;>try rfl
  rename_i j
  by_cases h: -(2 ^ 62)<=j/\j < 2 ^ 62
  ·simp only[w1,wI,eq_true h,true_and,if_true]
  ·simp only[w1,wI,eq_false h,false_and,if_false]
   rfl
 ·cases v<;>rfl
theorem Zd3 (I:Nat->Ro->Sto->Prop) {n:Nat} {lo:Int} (h0:I 0 ρ M) (st: ∀ i ρ M,i < n->I i ρ M->wG (tg (.int (lo + i)) ρ) fun r=>wS (bd r M) (I (i + 1)) R N (I (i + 1)) E) (hn: ∀ ρ M,I n ρ M->N ρ M):wS (ZbU tg bd (ZbD lo n) ρ M) N R B C E:=by
 have hl:(ZbD lo n).length=n:=by simp[ZbD]
 refine ZiZ I _ 0 ρ M h0 (fun i ρ M h hI=> ?_) (fun ρ M hI=>hn ρ M (by rw[hl,Nat.zero_add] at hI;exact hI))
 have:(ZbD lo n)[i]= .int (lo + i):=by simp[ZbD]
 rw[this]
 rw[Nat.zero_add] at *
 exact st i ρ M (by rw[hl] at h;exact h) hI
theorem Zog:wS (ZjV tg f bd ρ M) N R B C E=wO (f ρ M) (fun d M1=>wS (ZkE tg bd d ρ M1) N R B C E) E:=Zay
theorem ZlX (I:Nat->Ro->Sto->Prop) {n:Nat} {xs:List D}: ∀ (f i:Nat) (ρ:Ro) (M:Sto),i + f=xs.length->I i ρ M->(∀ i ρ M,I i ρ M->M[n]?=some (.lst xs))->(∀ i ρ M (h:i < xs.length),I i ρ M->wG (tg xs[i] ρ) fun r=>wS (bd r M) (I (i + 1)) R N (I (i + 1)) E)->(∀ ρ M,I xs.length ρ M->N ρ M)->wS (ZhC tg bd n f i ρ M) N R B C E:=by
  intro f
  induction f with
  |zero=>
   intro i ρ M e h hm st hn
   have hx:=hm _ _ _ h
   unfold ZhC
   rw[hx]
   have:xs[i]?=none:=List.getElem?_eq_none (by omega)
   simp only[this]
   exact hn ρ M (by rw[show xs.length=i by omega];exact h)
  |succ f ih=>
   intro i ρ M e h hm st hn
   have hx:=hm _ _ _ h
   unfold ZhC
   rw[hx]
   have hi:i < xs.length:=by omega
   have:xs[i]?=some xs[i]:=List.getElem?_eq_getElem hi
   simp only[this]
   have s:=st i ρ M hi h
   cases e:tg xs[i] ρ with
   |none=>rw[e] at s;exact s.elim
   |some ρ1=>
    rw[e] at s
    simp only[wG] at s
    have rc: ∀ ρ2 M2,I (i + 1) ρ2 M2->wS (ZhC tg bd n f (i + 1) ρ2 M2) N R B C E:=fun ρ2 M2 h2=>ih (i + 1) ρ2 M2 (by omega) h2 hm st hn
    cases eg:bd ρ1 M<;>rw[eg] at s<;>simp only[eg]
    ·exact rc _ _ s
    ·exact s
    ·exact s
    ·exact rc _ _ s
    ·exact s
    ·exact s
theorem ZlY (I:Nat->Ro->Sto->Prop) {n:Nat} {xs:List D} (hM:M[n]?=some (.lst xs)) (h0:I 0 ρ M) (hm: ∀ i ρ M,I i ρ M->M[n]?=some (.lst xs)) (st: ∀ i ρ M (h:i < xs.length),I i ρ M->wG (tg xs[i] ρ) fun r=>wS (bd r M) (I (i + 1)) R N (I (i + 1)) E) (hn: ∀ ρ M,I xs.length ρ M->N ρ M):wS (ZkE tg bd (.ref n) ρ M) N R B C E:=by
 show wS (match M[n]? with | some (.lst xs)=>ZhC tg bd n xs.length 0 ρ M | none=> .bad) N R B C E
 rw[hM]
 exact ZlX I xs.length 0 ρ M (by omega) h0 hm st hn
theorem ZlZ:wS (Zeo tg fi bd ρ M) N R B C E=wO (fi ρ M) (fun src M1=>wS (ZgD tg bd src (cnt src M1) 0 ρ M1) N R B C E) E:=Zay
theorem Zoh (I:Nat->Ro->Sto->Prop) {src:Src} {xs:List D}: ∀ (f i:Nat) (ρ:Ro) (M:Sto),i<=xs.length->xs.length<=i + f->I i ρ M->(∀ i ρ M,i<=xs.length->I i ρ M->nxt src i M=some xs[i]?)->(∀ i ρ M (h:i < xs.length),I i ρ M->wG (tg xs[i] ρ) fun r=>wS (bd r M) (I (i + 1)) R N (I (i + 1)) E)->(∀ ρ M,I xs.length ρ M->N ρ M)->wS (ZgD tg bd src f i ρ M) N R B C E:=by
  intro f
  induction f with
  |zero=>
   intro i ρ M le e h hm st hn
   have hx:=hm _ _ _ le h
   unfold ZgD
   rw[hx]
   have hi: ¬ i < xs.length:=by omega
   have:xs[i]?=none:=List.getElem?_eq_none (by omega)
   simp only[this]
   exact hn ρ M (by rw[show xs.length=i by omega];exact h)
  |succ f ih=>
   intro i ρ M le e h hm st hn
   have hx:=hm _ _ _ le h
   unfold ZgD
   rw[hx]
   by_cases hi:i < xs.length
   ·have:xs[i]?=some xs[i]:=List.getElem?_eq_getElem hi
    simp only[this]
    have s:=st i ρ M hi h
    cases e:tg xs[i] ρ with
    |none=>rw[e] at s;exact s.elim
    |some ρ1=>
     rw[e] at s
     simp only[wG] at s
     have rc: ∀ ρ2 M2,I (i + 1) ρ2 M2->wS (ZgD tg bd src f (i + 1) ρ2 M2) N R B C E:=fun ρ2 M2 h2=>ih (i + 1) ρ2 M2 (by omega) (by omega) h2 hm st hn
     cases eg:bd ρ1 M<;>rw[eg] at s<;>simp only[eg]
     ·exact rc _ _ s
     ·exact s
     ·exact s
     ·exact rc _ _ s
     ·exact s
     ·exact s
   ·have:xs[i]?=none:=List.getElem?_eq_none (by omega)
    simp only[this]
    exact hn ρ M (by rw[show xs.length=i by omega];exact h)
theorem Zkc {c:Tv} (I:Nat->Ro->Sto->Prop) (st: ∀ n ρ M,I n ρ M->wO (c ρ M) (fun k M1=>Br k (wS (bd ρ M1) (fun ρ2 M2=> ∃ m,m < n/\I m ρ2 M2) R N (fun ρ2 M2=> ∃ m,m < n/\I m ρ2 M2) E) (N ρ M1)) E): ∀ (n:Nat) (ρ:Ro) (M:Sto),I n ρ M->wS (sWh c bd ρ M) N R B C E:=by
 intro n
 induction n using Nat.strongRecOn with
 |ind n ih=>
  intro ρ M h
  have s:=st n ρ M h
  cases ec:c ρ M with
  |bad=>rw[ec] at s;exact s.elim
  |exc x M1=>rw[ec] at s;rw[ZcH (n:=1) (o:= .exc x M1) (by simp only[whN,ec])];exact s
  |ok k M1=>
   rw[ec] at s
   cases k with
   |false=>
    rw[ZF,Zsd] at s
    rw[Zil ec]
    exact s
   |true=>
    rw[ZF,Zqt] at s
    cases eg:bd ρ M1 with
    |nx ρ2 M2=>
     rw[eg] at s
     obtain ⟨m,hm,hI⟩:=s
     have r:=ih m hm ρ2 M2 hI
     rw[ZjU ec eg (by intro z;rw[z] at r;exact r)]
     exact r
    |cnt ρ2 M2=>
     rw[eg] at s
     obtain ⟨m,hm,hI⟩:=s
     have r:=ih m hm ρ2 M2 hI
     have nb:sWh c bd ρ2 M2≠ .bad:=by intro z;rw[z] at r;exact r
     obtain ⟨j,ej⟩:=Zik nb
     rw[ZcH (n:=j + 1) (o:=sWh c bd ρ2 M2) (by simp only[whN,ec,eg];exact ej)]
     exact r
    |brk ρ2 M2=>rw[eg] at s;rw[ZcH (n:=1) (o:= .nx ρ2 M2) (by simp only[whN,ec,eg])];exact s
    |ret d M2=>rw[eg] at s;rw[ZcH (n:=1) (o:= .ret d M2) (by simp only[whN,ec,eg])];exact s
    |exc d M2=>rw[eg] at s;rw[ZcH (n:=1) (o:= .exc d M2) (by simp only[whN,ec,eg])];exact s
    |bad=>rw[eg] at s;exact s.elim
theorem Zl0 {fi:Ro->Sto->Out Src} {k:Nat} {fr:List Nat} {c:Tv}:wO (Za3 fi k fr tg c f ρ M) Q E=wO (fi ρ M) (fun src M1=>wO (ZdG src tg c f M1.length (cnt src M1) 0 (roB k fr ρ) (M1 ++ [.lst []])) (fun _ M2=>Q (.ref M1.length) M2) (fun _ _=>False)) E:=by
 unfold Za3
 rw[ZE]
 congr 1
 funext src M1
 cases ZdG src tg c f M1.length (cnt src M1) 0 (roB k fr ρ) (M1 ++ [.lst []])<;>rfl
theorem Zoi (I:Nat->Ro->Sto->Prop) {src:Src} {xs:List D} {c:Tv} {m:Nat} {Q:Sto->Prop}: ∀ (fu i:Nat) (ρ:Ro) (M:Sto),i<=xs.length->xs.length<=i + fu->I i ρ M->(∀ i ρ M,i<=xs.length->I i ρ M->nxt src i M=some xs[i]?)->
  (∀ i ρ M (h:i < xs.length),I i ρ M->wG (tg xs[i] ρ) fun r=>wO (c r M) (fun k M1=>Br k (wO (f r M1) (fun y M2=>wL M2[m]? fun ys=>ys.length < 10000000/\I (i + 1) r (M2.set m (.lst (ys ++ [y])))) (fun _ _=>False)) (I (i + 1) r M1)) (fun _ _=>False))->
  (∀ ρ M,I xs.length ρ M->Q M)->wO (ZdG src tg c f m fu i ρ M) (fun _ M2=>Q M2) (fun _ _=>False):=by
  intro fu
  induction fu with
  |zero=>
   intro i ρ M le e h hm st hn
   have hx:=hm _ _ _ le h
   unfold ZdG
   rw[hx]
   have hi: ¬ i < xs.length:=by omega
   have:xs[i]?=none:=List.getElem?_eq_none (by omega)
   simp only[this]
   exact hn ρ M (by rw[show xs.length=i by omega];exact h)
  |succ fu ih=>
   intro i ρ M le e h hm st hn
   have hx:=hm _ _ _ le h
   unfold ZdG
   rw[hx]
   by_cases hi:i < xs.length
   ·have:xs[i]?=some xs[i]:=List.getElem?_eq_getElem hi
    simp only[this]
    have s:=st i ρ M hi h
    cases e:tg xs[i] ρ with
    |none=>rw[e] at s;exact s.elim
    |some ρ1=>
     rw[e] at s
     simp only[wG] at s
     have rc: ∀ ρ2 M2,I (i + 1) ρ2 M2->wO (ZdG src tg c f m fu (i + 1) ρ2 M2) (fun _ M2=>Q M2) (fun _ _=>False):=fun ρ2 M2 h2=>ih (i + 1) ρ2 M2 (by omega) (by omega) h2 hm st hn
     cases ec:c ρ1 M with
     |bad=>rw[ec] at s;exact s.elim
     |exc _ _=>rw[ec] at s;exact s.elim
     |ok k M1=>
      rw[ec] at s
      rw[ZF] at s
      cases k with
      |false=>
       rw[Zsd] at s
       simp only[ec]
       exact rc _ _ s
      |true=>
       rw[Zqt] at s
       simp only[ec]
       cases ef:f ρ1 M1 with
       |bad=>rw[ef] at s;exact s.elim
       |exc _ _=>rw[ef] at s;exact s.elim
       |ok y M2=>
        rw[ef,ZF] at s
        simp only[ef]
        cases ey:M2[m]? with
        |none=>rw[ey] at s;exact s.elim
        |some o=>
         cases o with
         |lst ys=>
          rw[ey] at s
          simp only[wL,ey] at s ⊢
          rw[if_pos s.1]
          exact rc _ _ s.2
   ·have:xs[i]?=none:=List.getElem?_eq_none (by omega)
    simp only[this]
    exact hn ρ M (by rw[show xs.length=i by omega];exact h)
end
end DL
end
section
namespace DL
open PySem PySem.Spec PyProof.Rows L2
section
variable {Q:D->Sto->Prop} {E:Str->Sto->Prop} {N B C:Ro->Sto->Prop} {R:D->Sto->Prop} {ρ:Ro} {M:Sto} {f:Ev} {fs:Av} {i j:Int} {n m k:Nat} {x y d:D} {xs ys ds:List D} {lo hi:Ro->Sto->Out (Option Int)}
theorem Zfk (h: -(18446744073709551616) < i/\i < 18446744073709551616):Zag i j:=ZiW h.1 h.2
theorem Zev (h: -(18446744073709551616) < j/\j < 18446744073709551616):Zag i j:=ZiV h.1 h.2
theorem Zfl (h:0 < j/\j < 18446744073709551616):Zbi j:=by
 refine ⟨by omega,?_⟩
 have:j.natAbs.log2 < 64:=(Nat.log2_lt (by omega)).mpr (by omega)
 omega
theorem Zqv:wO (dAdd (.int i) (.int j) M) Q E=Q (.int (i + j)) M:=rfl
theorem Zqw:wO (dSub (.int i) (.int j) M) Q E=Q (.int (i - j)) M:=rfl
theorem ZgL (h:Zag i j):wO (dMul (.int i) (.int j) M) Q E=Q (.int (i * j)) M:=by
 show wO (if Zag i j then _ else _) Q E=_
 rw[if_pos h];rfl
theorem Zqx (h: -(18446744073709551616) < i/\i < 18446744073709551616):wO (dMul (.int i) (.int j) M) Q E=Q (.int (i * j)) M:=ZgL (Zfk h)
theorem Zoj (h: -(18446744073709551616) < j/\j < 18446744073709551616):wO (dMul (.int i) (.int j) M) Q E=Q (.int (i * j)) M:=ZgL (Zev h)
theorem Zqy (h:0 < j/\j < 18446744073709551616):wO (dDiv (.int i) (.int j) M) Q E=Q (.int (i / j)) M:=by
 show wO (if Zbi j then _ else _) Q E=_
 rw[if_pos (Zfl h),Int.fdiv_eq_ediv_of_nonneg _ (by omega)];rfl
theorem Zqz (h:0 < j):wO (dMod (.int i) (.int j) M) Q E=Q (.int (i % j)) M:=by
 show wO (if j≠0 then _ else _) Q E=_
 rw[if_pos (by omega),Int.fmod_eq_emod_of_nonneg _ (by omega)];rfl
theorem ZqA (h:0<=j/\j<=1000000/\i.natAbs < 18446744073709551616):wO (dPow (.int i) (.int j) M) Q E=Q (.int (i ^ j.toNat)) M:=by
 show wO (if 0<=j/\j<=1000000/\i.natAbs < 2 ^ 64 then _ else _) Q E=_
 rw[if_pos ⟨h.1,h.2.1,by omega⟩];rfl
theorem ZtA:wO (dLt (.int i) (.int j) M) Q E=Q (.bl (decide (i < j))) M:=rfl
theorem ZtB:wO (dLe (.int i) (.int j) M) Q E=Q (.bl (decide (i<=j))) M:=rfl
theorem ZtC:wO (dGt (.int i) (.int j) M) Q E=Q (.bl (decide (j < i))) M:=rfl
theorem ZtD:wO (dGe (.int i) (.int j) M) Q E=Q (.bl (decide (j<=i))) M:=rfl
theorem ZqB:wO (dAdd (.ref n) (.ref m) M) Q E=wL M[n]? fun xs=>wL M[m]? fun ys=>xs.length + ys.length<=10000000/\Q (.ref M.length) (M ++ [.lst (xs ++ ys)]):=by
 show wO (match M[n]?,M[m]? with | some (.lst xs),some (.lst ys)=>_ | _,_=>_) Q E=_
 cases e1:M[n]? with
 |none=>rfl
 |some o=>
  cases o with
  |lst xs=>
   cases e2:M[m]? with
   |none=>rfl
   |some p=>
    cases p with
    |lst ys=>
     by_cases h:xs.length + ys.length<=10000000
     ·simp[wL,h,wO]
     ·simp[wL,h,wO]
theorem Zok (h:xs.length + ys.length<=100000/\xs≠[]):wO (dAdd (.tup xs) (.tup ys) M) Q E=Q (.tup (xs ++ ys)) M:=by
 show wO (if xs.length + ys.length<=100000/\xs≠[] then _ else _) Q E=_
 rw[if_pos h];rfl
theorem ZtE:wO (dEq x y M) Q E=wG (eqF 12 M x y) fun b=>Q (.bl b) M:=by
 show wO (match eqF 12 M x y with | some b=>_ | none=>_) Q E=_
 cases eqF 12 M x y<;>rfl
theorem ZtF:wO (dNe x y M) Q E=wG (eqF 12 M x y) fun b=>Q (.bl (!b)) M:=by
 show wO (match eqF 12 M x y with | some b=>_ | none=>_) Q E=_
 cases eqF 12 M x y<;>rfl
theorem ZtG:wO (dIs x y M) Q E=wG (isP x y) fun b=>Q (.bl b) M:=by
 show wO (match isP x y with | some b=>_ | none=>_) Q E=_
 cases isP x y<;>rfl
theorem ZqC:wO (dIsNot x y M) Q E=wG (isP x y) fun b=>Q (.bl (!b)) M:=by
 show wO (match isP x y with | some b=>_ | none=>_) Q E=_
 cases isP x y<;>rfl
theorem Zl1:wO (atD xs i M) Q E=wG (atI xs i) fun d=>Q d M:=by
 unfold atD
 cases atI xs i<;>rfl
theorem ZqD:wO (dIx (.tup xs) (.int i) M) Q E=wG (atI xs i) fun d=>Q d M:=Zl1
theorem ZqE:wO (dIx (.rol xs) (.int i) M) Q E=wG (atI xs i) fun d=>Q d M:=Zl1
theorem ZqF:wO (dIx (.ref n) (.int i) M) Q E=wL M[n]? fun xs=>wG (atI xs i) fun d=>Q d M:=by
 show wO (match M[n]? with | some (.lst xs)=>atD xs i M | _=> .bad) Q E=_
 cases e1:M[n]? with
 |none=>rfl
 |some o=>cases o with | lst xs=>exact Zl1
theorem Zol:wO (bLen [.ref n] M) Q E=wL M[n]? fun xs=>Q (.int xs.length) M:=by
 show wO (match (match M[n]? with | some (.lst xs)=>some xs | _=>none) with | some xs=>_ | none=>_) Q E=_
 cases e1:M[n]? with
 |none=>rfl
 |some o=>cases o with | lst xs=>rfl
theorem Zom:wO (bLen [.tup xs] M) Q E=Q (.int xs.length) M:=rfl
theorem Zon:wO (bLen [.rol xs] M) Q E=Q (.int xs.length) M:=rfl
theorem ZqG:wO (bAbs [.int i] M) Q E=Q (.int (i.natAbs:Int)) M:=by rw[<- ZlO];rfl
theorem ZqH:wO (bMax [.int i,.int j] M) Q E=Q (.int (max i j)) M:=by
 have:max i j=if j > i then j else i:=by split<;>omega
 rw[this];rfl
theorem ZqI:wO (bMin [.int i,.int j] M) Q E=Q (.int (min i j)) M:=by
 have:min i j=if j < i then j else i:=by split<;>omega
 rw[this];rfl
theorem Zoo {k:Bool}:wO (Zr3 [.bl k] M) Q E=Q (.int (if k then 1 else 0)) M:=rfl
theorem Zop:wO (Zr3 [.int i] M) Q E=Q (.int i) M:=rfl
theorem Zl2:wO (bList [.ref n] M) Q E=wL M[n]? fun xs=>Q (.ref M.length) (M ++ [.lst xs]):=by
 show wO (match (match M[n]? with | some (.lst xs)=>some xs | _=>none) with | some xs=>_ | none=>_) Q E=_
 cases e1:M[n]? with
 |none=>rfl
 |some o=>cases o with | lst xs=>rfl
theorem Zl3:wO (bList [.tup xs] M) Q E=Q (.ref M.length) (M ++ [.lst xs]):=rfl
theorem ZqJ:wO (Zr5 [.ref n] M) Q E=wL M[n]? fun xs=>wG (ZcI xs) fun bs=>Q (.bl (bs.all id)) M:=by
 show wO (match M[n]? with | some (.lst xs)=>(match ZcI xs with | some bs=>Out.ok (.bl (bs.all id)) M | none=> .bad) | none=> .bad) Q E=_
 cases e1:M[n]? with
 |none=>rfl
 |some o=>
  cases o with
  |lst xs=>
   show wO (match ZcI xs with | some bs=>Out.ok (.bl (bs.all id)) M | none=> .bad) Q E=wG (ZcI xs) _
   cases ZcI xs<;>rfl
theorem Zoq {g:List Int->Option Int}:wO (Zcm g [.ref n] M) Q E=wL M[n]? fun xs=>wG (ZbV xs) fun ns=>wG (g ns) fun i=>Q (.int i) M:=by
 show wO (match (match M[n]? with | some (.lst xs)=>some xs | _=>none) with | some xs=>(match ZbV xs with | some ns=>(match g ns with | some i=>Out.ok (.int i) M | none=> .bad) | none=> .bad) | none=> .bad) Q E=_
 cases e1:M[n]? with
 |none=>rfl
 |some o=>
  cases o with
  |lst xs=>
   show wO (match ZbV xs with | some ns=>(match g ns with | some i=>Out.ok (.int i) M | none=> .bad) | none=> .bad) Q E=wG (ZbV xs) _
   cases ZbV xs with
   |none=>rfl
   |some ns=>
    show wO (match g ns with | some i=>Out.ok (.int i) M | none=> .bad) Q E=wG (g ns) _
    cases g ns<;>rfl
theorem ZtH {g:Me} {fo:Ev}:wO (Zff g fo fs ρ M) Q E=wO (fo ρ M) (fun x M1=>ZlH x M1=true/\wO (fs ρ M1) (fun ds M2=>wO (g x ds M2) Q E) E) E:=by
 unfold Zff
 rw[ZE]
 congr 1
 funext x M1
 by_cases h:ZlH x M1=true
 ·simp only[h,if_true,true_and];rw[ZE]
 ·simp[h,wO]
theorem Zor:ZlH (.ref n) M=M[n]?.isSome:=rfl
theorem ZqK:wO (mApp (.ref n) [d] M) Q E=wL M[n]? fun xs=>xs.length < 10000000/\Q .non (M.set n (.lst (xs ++ [d]))):=by
 show wO (match M[n]? with | some (.lst xs)=>if xs.length < 10000000 then _ else _ | none=>_) Q E=_
 cases e1:M[n]? with
 |none=>rfl
 |some o=>
  cases o with
  |lst xs=>
   by_cases h:xs.length < 10000000
   ·simp[wL,h,wO]
   ·simp[wL,h,wO]
theorem ZqL:wO (Zr6 (.ref n) [] M) Q E=wL M[n]? fun xs=>Q .non (M.set n (.lst [])):=by
 show wO (match M[n]? with | some (.lst xs)=>_ | none=>_) Q E=_
 cases e1:M[n]? with
 |none=>rfl
 |some o=>cases o with | lst xs=>rfl
theorem ZqM:wO (mExt (.ref n) [.ref m] M) Q E=wL M[n]? fun xs=>wL M[m]? fun ys=>xs.length + ys.length<=10000000/\Q .non (M.set n (.lst (xs ++ ys))):=by
 show wO (match M[n]?,M[m]? with | some (.lst xs),some (.lst ys)=>if xs.length + ys.length<=10000000 then _ else _ | _,_=>_) Q E=_
 cases e1:M[n]? with
 |none=>rfl
 |some o=>
  cases o with
  |lst xs=>
   cases e2:M[m]? with
   |none=>rfl
   |some p=>
    cases p with
    |lst ys=>
     by_cases h:xs.length + ys.length<=10000000
     ·simp[wL,h,wO]
     ·simp[wL,h,wO]
noncomputable def slR (x:D) (l u:Option Int) (M3:Sto):Out D:=match x with
 | .ref n=>(match M3[n]? with | some (.lst xs)=> .ok (.ref M3.length) (M3 ++ [.lst (ZfV xs l u)]) | none=> .bad)
 | .rol xs=> .ok (.ref M3.length) (M3 ++ [.lst (ZfV xs l u)])
 | .tup xs=>if HT.sIx xs.length 0 l=0/\HT.sIx xs.length xs.length u=xs.length then .bad else .ok (.tup (ZfV xs l u)) M3
 |_=> .bad
theorem ZqN:wO (eSl f lo hi ρ M) Q E=wO (f ρ M) (fun x M1=>wO (lo ρ M1) (fun l M2=>wO (hi ρ M2) (fun u M3=>wO (slR x l u M3) Q E) E) E) E:=by
 unfold eSl
 rw[ZE]
 congr 1
 funext x M1
 rw[ZE]
 congr 1
 funext l M2
 rw[ZE]
 congr 1
theorem ZqO {l u:Option Int}:wO (slR (.ref n) l u M) Q E=wL M[n]? fun xs=>Q (.ref M.length) (M ++ [.lst (ZfV xs l u)]):=by
 unfold slR
 cases e1:M[n]? with
 |none=>simp only[e1];rfl
 |some o=>cases o with | lst xs=>simp only[e1];rfl
theorem ZqP {Q:Option Int->Sto->Prop}:wO (oSo f ρ M) Q E=wO (f ρ M) (fun x M1=>wI x fun i=>Q (some i) M1) E:=by
 unfold oSo
 rw[ZE]
 congr 1
 funext x M1
 cases x<;>rfl
theorem Zos (h:0<=i):ZfV xs none (some i)=xs.take i.toNat:=by
 unfold ZfV
 simp only[HT.sIx]
 rw[if_neg (by omega),List.drop_zero,Nat.sub_zero]
 by_cases c:i.toNat<=xs.length
 ·rw[Nat.min_eq_left c]
 ·rw[Nat.min_eq_right (by omega),List.take_of_length_le (Nat.le_refl _),List.take_of_length_le (by omega)]
theorem Zkd (h:0<=i):ZfV xs (some i) none=xs.drop i.toNat:=by
 unfold ZfV
 simp only[HT.sIx]
 rw[if_neg (by omega)]
 by_cases c:i.toNat<=xs.length
 ·rw[Nat.min_eq_left c,List.take_of_length_le (by simp)]
 ·rw[Nat.min_eq_right (by omega),List.drop_eq_nil_of_le (Nat.le_refl _),List.drop_eq_nil_of_le (by omega),List.take_nil]
theorem Zf0 {L:Sto}:(M ++ L)[M.length]?=L[0]?:=by rw[List.getElem?_append_right (Nat.le_refl _),Nat.sub_self]
theorem ZkQ {L:Sto} {i:Nat}:(M ++ L)[M.length + i]?=L[i]?:=by rw[List.getElem?_append_right (by omega)];congr 1;omega
theorem Zdm {L:Sto} (h:n < M.length):(M ++ L)[n]?=M[n]?:=List.getElem?_append_left h
theorem ZkR {L:Sto} {o:SO}:(M ++ L).set M.length o=M ++ L.set 0 o:=by rw[List.set_append_right _ _ (Nat.le_refl _),Nat.sub_self]
theorem ZqQ {L:Sto} {o:SO} {i:Nat}:(M ++ L).set (M.length + i) o=M ++ L.set i o:=by rw[List.set_append_right _ _ (by omega)];congr 2;omega
theorem Zot {o:SO} (h:k≠n):(M.set n o)[k]?=M[k]?:=List.getElem?_set_ne (Ne.symm h)
theorem Zou {o:SO} (h:n < M.length):(M.set n o)[n]?=some o:=List.getElem?_set_self h
theorem Zbc {o:SO} (h:M[n]?=some o):n < M.length:=(List.getElem?_eq_some_iff.mp h).1
noncomputable abbrev pr (x y:Int):D:= .tup [.int x,.int y]
noncomputable def prs (rs:List (Int × Int)):List D:=rs.map fun p=>pr p.1 p.2
noncomputable def nts (ns:List Int):List D:=ns.map D.int
theorem Zbk {rs:List (Int × Int)}:(prs rs).length=rs.length:=List.length_map _
theorem Zl4 {rs:List Int}:(nts rs).length=rs.length:=List.length_map _
theorem Zf1 {a b:List (Int × Int)}:prs a ++ prs b=prs (a ++ b):=(List.map_append).symm
theorem Zi0 {a b:List Int}:nts a ++ nts b=nts (a ++ b):=(List.map_append).symm
theorem Zc3 {a:List (Int × Int)}:(prs a).take n=prs (a.take n):=List.map_take.symm
theorem Zc4 {a:List (Int × Int)}:(prs a).drop n=prs (a.drop n):=List.map_drop.symm
theorem Zke {a:List Int}:(nts a).take n=nts (a.take n):=List.map_take.symm
theorem Zkf {a:List Int}:(nts a).drop n=nts (a.drop n):=List.map_drop.symm
theorem Zkg {a b:Int} {r:List (Int × Int)}:pr a b :: prs r=prs ((a,b) :: r):=rfl
theorem Zl5 {a:List (Int × Int)} {b c:Int}:(prs a).set n (pr b c)=prs (a.set n (b,c)):=by unfold prs;rw[List.map_set]
theorem Zl6 {a:List Int} {b:Int}:(nts a).set n (.int b)=nts (a.set n b):=by unfold nts;rw[List.map_set]
noncomputable def cy (rs:List (Int × Int)) (i:Int):Int × Int:=rs.getD (i % rs.length).toNat (0,0)
theorem Zov {i:Int} {n:Nat} (h: -(n:Int)<=i/\i < n):ixN n i=some (i % n).toNat:=by
 unfold ixN
 by_cases c:0<=i
 ·rw[if_pos c,if_pos h.2,Int.emod_eq_of_lt c h.2]
 ·rw[if_neg c,if_pos h.1]
  have:i % n=i + n:=by
   rw[<- Int.add_emod_right,Int.emod_eq_of_lt (by omega) (by omega)]
  rw[this]
theorem Zd4 {rs:List (Int × Int)} (h: -(rs.length:Int)<=i/\i < rs.length):atI (prs rs) i=some (pr (cy rs i).1 (cy rs i).2):=by
 unfold atI
 rw[Zbk,Zov h]
 have hp:(i % rs.length).toNat < rs.length:=by
  have:=Int.emod_lt_of_pos i (show (0:Int) < rs.length by omega)
  have:=Int.emod_nonneg i (show (rs.length:Int)≠0 by omega)
  omega
 simp[prs,cy,List.getElem?_eq_getElem hp]
theorem Zdn {rs:List (Int × Int)}:cy rs (i % rs.length)=cy rs i:=by unfold cy;rw[Int.emod_emod_of_dvd _ (Int.dvd_refl _)]
theorem ZgM {rs:List (Int × Int)}:cy rs (i + rs.length)=cy rs i:=by unfold cy;rw[Int.add_emod_right]
theorem Zd5 {rs:List (Int × Int)}:cy rs (i - rs.length)=cy rs i:=by unfold cy;rw[Int.sub_emod_right]
theorem ZgN {rs:List (Int × Int)} {k:Nat} (h:k < rs.length):cy rs k=rs[k]:=by
 unfold cy
 rw[Int.emod_eq_of_lt (by omega) (by omega)]
 simp[List.getElem?_eq_getElem h]
theorem ZqR {a b:Int}:eqF (n + 1) M (.int a) (.int b)=some (decide (a=b)):=rfl
theorem Zse {a b:Bool}:eqF (n + 1) M (.bl a) (.bl b)=some (a == b):=rfl
theorem Zsf {a b c d:Int}:eqF (n + 2) M (pr a b) (pr c d)=some (decide ((a,b)=(c,d))):=by
 show some ((a == c) && ((b == d) && true))=_
 congr 1
 rw[Bool.eq_iff_iff]
 simp
theorem Zow {rs ss:List (Int × Int)}:eqL (eqF (n + 2) M) (prs rs) (prs ss)=some (decide (rs=ss)):=by
 induction rs generalizing ss with
 |nil=>cases ss<;>rfl
 |cons r rs ih=>
  cases ss with
  |nil=>rfl
  |cons s ss=>
   show (match eqF (n + 2) M (pr r.1 r.2) (pr s.1 s.2) with | some a=>(match eqL _ (prs rs) (prs ss) with | some b=>some (a && b) | none=>none) | none=>none)=_
   rw[Zsf,ih]
   simp only[]
   congr 1
   rw[Bool.eq_iff_iff]
   obtain ⟨r1,r2⟩:=r
   obtain ⟨s1,s2⟩:=s
   simp
theorem Zox {xs ys:List D} (h1:M[n]?=some (.lst xs)) (h2:M[m]?=some (.lst ys)):eqF (k + 1) M (.ref n) (.ref m)=if xs.length=ys.length then eqL (eqF k M) xs ys else some false:=by
 show (match kd M (.ref n),kd M (.ref m) with | some a,some b=>eqK (eqF k M) a b | _,_=>none)=_
 have e1:kd M (.ref n)=some (.lst xs):=by show (match M[n]? with | some (.lst xs)=>some (Kd.lst xs) | _=>none)=_;rw[h1]
 have e2:kd M (.ref m)=some (.lst ys):=by show (match M[m]? with | some (.lst xs)=>some (Kd.lst xs) | _=>none)=_;rw[h2]
 rw[e1,e2]
 rfl
theorem Zoy:ZbG M (.int i)=some "int":=rfl
theorem ZqS {b:Bool}:ZbG M (.bl b)=some "bool":=rfl
theorem Zoz:ZbG M (.tup xs)=some "tuple":=rfl
theorem ZoA:ZbG M .non=some "NoneType":=rfl
end
end DL
end
section
namespace DL
open PySem PySem.Spec PyProof.Rows L2
section
variable {Q:D->Sto->Prop} {E:Str->Sto->Prop} {N B C:Ro->Sto->Prop} {R:D->Sto->Prop} {ρ:Ro} {M:Sto} {f:Ev} {fs:Av} {i j:Int} {n m k:Nat} {x y z d:D} {xs ys ds:List D} {QS:Src->Sto->Prop} {tg:Tg} {bd:Sv} {b:Bool}
theorem Zl7:wS (Ze6 tg fs bd ρ M) N R B C E=wO (fs ρ M) (fun ds M1=>w2 ds fun x y=>wI x fun i=>wI y fun j=>(-(2 ^ 62)<=i/\i < 2 ^ 62/\ -(2 ^ 62)<=j/\j < 2 ^ 62)/\wS (ZbU tg bd (ZbD i (j - i).toNat) ρ M1) N R B C E) E:=by
 unfold Ze6
 rw[Zay]
 congr 1
 funext ds M1
 rcases ds with _ | ⟨v,_ | ⟨w,_ | ⟨w',r⟩⟩⟩
 ·rfl
 ·cases v<;>rfl
 ·cases v<;>try rfl
  cases w<;>try rfl
  rename_i i j
  by_cases h: -(2 ^ 62)<=i/\i < 2 ^ 62/\ -(2 ^ 62)<=j/\j < 2 ^ 62
  ·simp only[w2,wI,eq_true h,true_and,if_true]
  ·simp only[w2,wI,eq_false h,false_and,if_false]
   rfl
 ·cases v<;>cases w<;>rfl
theorem ZtI:wO (iR1 fs ρ M) QS E=wO (fs ρ M) (fun ds M1=>w1 ds fun d=>wI d fun j=>(-(2 ^ 62)<=j/\j < 2 ^ 62)/\QS (.pur (ZbD 0 j.toNat)) M1) E:=by
 unfold iR1
 rw[ZE]
 congr 1
 funext ds M1
 rcases ds with _ | ⟨v,_ | ⟨w,r⟩⟩
 ·rfl
 ·cases v<;>try rfl
  rename_i j
  by_cases h: -(2 ^ 62)<=j/\j < 2 ^ 62
  ·simp only[w1,wI,eq_true h,true_and,if_true,ZF]
  ·simp only[w1,wI,eq_false h,false_and,if_false]
   rfl
 ·cases v<;>rfl
theorem ZtJ:wO (iR2 fs ρ M) QS E=wO (fs ρ M) (fun ds M1=>w2 ds fun x y=>wI x fun i=>wI y fun j=>(-(2 ^ 62)<=i/\i < 2 ^ 62/\ -(2 ^ 62)<=j/\j < 2 ^ 62)/\QS (.pur (ZbD i (j - i).toNat)) M1) E:=by
 unfold iR2
 rw[ZE]
 congr 1
 funext ds M1
 rcases ds with _ | ⟨v,_ | ⟨w,_ | ⟨w',r⟩⟩⟩
 ·rfl
 ·cases v<;>rfl
 ·cases v<;>try rfl
  cases w<;>try rfl
  rename_i i j
  by_cases h: -(2 ^ 62)<=i/\i < 2 ^ 62/\ -(2 ^ 62)<=j/\j < 2 ^ 62
  ·simp only[w2,wI,eq_true h,true_and,if_true,ZF]
  ·simp only[w2,wI,eq_false h,false_and,if_false]
   rfl
 ·cases v<;>cases w<;>rfl
theorem ZtK:wO (iEn fs ρ M) QS E=wO (fs ρ M) (fun ds M1=>w1 ds fun d=>wR d fun n=>QS (.enu n) M1) E:=by
 unfold iEn
 rw[ZE]
 congr 1
 funext ds M1
 rcases ds with _ | ⟨v,_ | ⟨w,r⟩⟩<;>try rfl
 ·cases v<;>rfl
 ·cases v<;>rfl
theorem ZtL:wO (iZp fs ρ M) QS E=wO (fs ρ M) (fun ds M1=>w2 ds fun x y=>wR x fun n=>wR y fun m=>QS (.zip n m) M1) E:=by
 unfold iZp
 rw[ZE]
 congr 1
 funext ds M1
 rcases ds with _ | ⟨v,_ | ⟨w,_ | ⟨w',r⟩⟩⟩<;>try rfl
 ·cases v<;>rfl
 ·cases v<;>cases w<;>rfl
 ·cases v<;>cases w<;>rfl
theorem ZtM:wO (iRv fs ρ M) QS E=wO (fs ρ M) (fun ds M1=>w1 ds fun d=>wR d fun n=>wL M1[n]? fun xs=>QS (.rev n xs.length) M1) E:=by
 unfold iRv
 rw[ZE]
 congr 1
 funext ds M1
 rcases ds with _ | ⟨v,_ | ⟨w,r⟩⟩<;>try rfl
 ·cases v<;>try rfl
  rename_i n
  cases e:M1[n]? with
  |none=>simp only[e];simp only[w1,wR,e];rfl
  |some o=>cases o with | lst xs=>simp only[e,w1,wR];rfl
 ·cases v<;>rfl
noncomputable def ZoB (Q:D->Sto->Prop) (ρ:Ro) (M:Sto):Prop:=Q .non M
theorem wF1:wO (fnF bd 1 k [x] M) Q E=wS (bd (some x :: List.replicate k none) M) (ZoB Q) Q (fun _ _=>False) (fun _ _=>False) E:=wF rfl
theorem wF2:wO (fnF bd 2 k [x,y] M) Q E=wS (bd (some x :: some y :: List.replicate k none) M) (ZoB Q) Q (fun _ _=>False) (fun _ _=>False) E:=wF rfl
theorem wF3:wO (fnF bd 3 k [x,y,z] M) Q E=wS (bd (some x :: some y :: some z :: List.replicate k none) M) (ZoB Q) Q (fun _ _=>False) (fun _ _=>False) E:=wF rfl
theorem wF4:wO (fnF bd 4 k [x,y,z,d] M) Q E=wS (bd (some x :: some y :: some z :: some d :: List.replicate k none) M) (ZoB Q) Q (fun _ _=>False) (fun _ _=>False) E:=wF rfl
theorem ZgO {a:List (Int × Int)} {b c:Int}:prs a ++ [pr b c]=prs (a ++ [(b,c)]):=by simp[prs]
theorem Zkh {a:List Int} {b:Int}:nts a ++ [D.int b]=nts (a ++ [b]):=by simp[nts]
theorem Zki {b:Int} {r:List Int}:D.int b :: nts r=nts (b :: r):=rfl
theorem ZqT:isP .non .non=some true:=rfl
theorem ZqU:isP (.int i) .non=some false:=rfl
theorem ZqV:isP (.tup xs) .non=some false:=rfl
theorem ZqW:isP (.ref n) .non=some false:=rfl
theorem Zl8 (h:M[n]?=some (.lst xs)):cnt (.sto n) M=xs.length:=by show (match M[n]? with | some (.lst xs)=>xs.length | none=>0)=_;rw[h]
theorem Zl9 (h:M[n]?=some (.lst xs)):cnt (.enu n) M=xs.length:=by show (match M[n]? with | some (.lst xs)=>xs.length | none=>0)=_;rw[h]
theorem at2 {r:List D}:atI (x :: y :: z :: r) 2=some z:=by
 show (ixN (r.length + 3) 2).bind _=_
 unfold ixN
 rw[if_pos (by decide),if_pos (by omega)]
 rfl
theorem at3 {r:List D}:atI (x :: y :: z :: d :: r) 3=some d:=by
 show (ixN (r.length + 4) 3).bind _=_
 unfold ixN
 rw[if_pos (by decide),if_pos (by omega)]
 rfl
theorem ZoC:Zdb "int" "int"=true:=rfl
theorem ZoD:Zdb "int" "bool"=false:=rfl
theorem ZoE:Zdb "bool" "int"=true:=rfl
theorem ZoF:Zdb "bool" "bool"=true:=rfl
theorem ZoG:Zdb "tuple" "tuple"=true:=rfl
theorem ZoH:Zdb "list" "list"=true:=rfl
theorem ZoI:Zdb "tuple" "int"=false:=rfl
theorem ZoJ:Zdb "tuple" "list"=false:=rfl
theorem ZoK:Zdb "list" "tuple"=false:=rfl
theorem ZoL:Zdb "list" "int"=false:=rfl
theorem ZoM:Zdb "NoneType" "tuple"=false:=rfl
theorem ZoN:Zdb "NoneType" "list"=false:=rfl
theorem ZoO (h:M[n]?=some (.lst xs)):nxt (.enu n) k M=some ((xs[k]?).map fun d=>D.tup [.int k,d]):=by
 show (match M[n]? with | some (.lst xs)=>(match xs[k]? with | some x=>some (some (D.tup [.int k,x])) | none=>some none) | none=>none)=_
 rw[h]
 simp only[]
 cases xs[k]?<;>rfl
theorem ZoP (h:M[n]?=some (.lst xs)):nxt (.sto n) k M=some xs[k]?:=by
 show (match M[n]? with | some (.lst xs)=>some xs[k]? | none=>none)=_
 rw[h]
section
variable {g:Jv} {bb:Nat}
theorem ZoQ (h:bb<=100000): ∀ acc:Str,acc.length<=bb->wO (jNil acc ρ M) (fun _ M'=>M'=M) E:=by
 intro acc ha
 unfold jNil
 rw[if_pos (by omega)]
 exact rfl
theorem Zsg {a:Str} (hl:a.length<=1000) (hb:bb + 1000<=100000) (h: ∀ acc:Str,acc.length<=bb + 1000->wO (g acc ρ M) (fun _ M'=>M'=M) E): ∀ acc:Str,acc.length<=bb->wO (Zb4 (eC (.str a)) g acc ρ M) (fun _ M'=>M'=M) E:=by
 intro acc ha
 have e:(acc ++ a).length<=bb + 1000:=by rw[strLen_append];omega
 show wO (if (acc ++ a).length<=100000 then g (acc ++ a) ρ M else .bad) _ _
 rw[if_pos (by omega)]
 exact h _ e
theorem ZtN {f:Ev} {i:Int} (hf:f ρ M= .ok (.int i) M) (hi: -(18446744073709551616) < i/\i < 18446744073709551616) (hb:bb + 100<=100000) (h: ∀ acc:Str,acc.length<=bb + 100->wO (g acc ρ M) (fun _ M'=>M'=M) E): ∀ acc:Str,acc.length<=bb->wO (Zb4 (eFm f) g acc ρ M) (fun _ M'=>M'=M) E:=by
 intro acc ha
 have l:i.natAbs.log2 < 65:=by
  by_cases z:i.natAbs=0
  ·rw[z];decide
  ·exact (Nat.log2_lt z).mpr (by omega)
 have tl:(Str.ofString (toString i)).length<=66:=by rw[PySem.ofString_length];exact int_text_length_le (by decide) l
 have e:(acc ++ Str.ofString (toString i)).length<=bb + 100:=by rw[strLen_append];omega
 unfold Zb4 eFm
 rw[hf]
 simp only[Out.bind]
 rw[if_pos (by omega)]
 simp only[]
 rw[if_pos (by omega)]
 exact h _ e
theorem ZtO (h: ∀ acc:Str,acc.length<=0->wO (g acc ρ M) (fun _ M'=>M'=M) E) (q: ∀ x,Q (.str x) M):wO (eFs g ρ M) Q E:=by
 unfold eFs
 rw[ZE]
 refine Zeu (h _ (by decide)) (fun x M' e=> ?_) (fun _ _ z=>z)
 subst e
 exact q x
end
theorem ZkS (I:Nat->Ro->Sto->Prop) (hM:M[n]?=some (.lst xs)) (h0:I 0 ρ M) (hm: ∀ i ρ M,I i ρ M->M[n]?=some (.lst xs)) (st: ∀ (i:Nat) ρ M (h:i < xs.length),I i ρ M->wG (tg (.tup [.int i,xs[i]]) ρ) fun r=>wS (bd r M) (I (i + 1)) R N (I (i + 1)) E) (hn: ∀ ρ M,I xs.length ρ M->N ρ M):wS (ZgD tg bd (.enu n) (cnt (.enu n) M) 0 ρ M) N R B C E:=by
 rw[Zl9 hM]
 have hl:(xs.mapIdx fun (k:Nat) d=>D.tup [.int k,d]).length=xs.length:=by simp
 refine Zoh I (xs:=xs.mapIdx fun (k:Nat) d=>D.tup [.int k,d]) _ 0 ρ M (by simp) (by simp) h0 (fun i ρ M _ hI=> ?_) (fun i ρ M h hI=> ?_) (fun ρ M hI=>hn ρ M (by rw[hl] at hI;exact hI))
 ·rw[ZoO (hm _ _ _ hI),List.getElem?_mapIdx]
 ·rw[List.getElem_mapIdx]
  exact st i ρ M (by rw[hl] at h;exact h) hI
theorem Zma {src:Src} (Inv:Ro->Prop) (F:Nat->D) {Q:Sto->Prop} (hl:xs.length < 10000000) (hcnt:xs.length<=cnt src M) (h0:Inv ρ) (hs: ∀ (L:Sto) (i:Nat),i<=xs.length->nxt src i (M ++ L)=some xs[i]?)
  (st: ∀ (i:Nat) (h:i < xs.length) (ρ:Ro) (L:Sto),Inv ρ->wG (tg xs[i] ρ) fun r=>Inv r/\wO (f r (M ++ L)) (fun y M2=>y=F i/\M2=M ++ L) (fun _ _=>False)) (hq:Q (M ++ [.lst ((List.range xs.length).map F)])):
  wO (ZdG src tg (fun _ M=> .ok true M) f M.length (cnt src M) 0 ρ (M ++ [.lst []])) (fun _ M2=>Q M2) (fun _ _=>False):=by
 refine Zoi (fun i ρ M'=>Inv ρ/\M'=M ++ [.lst ((List.range i).map F)]) (xs:=xs) _ 0 ρ _ (by simp) (by omega) ⟨h0,rfl⟩ (fun i ρ M' hi hI=>by rw[hI.2];exact hs _ i hi) (fun i ρ M' h hI=> ?_) (fun ρ M' hI=>by rw[hI.2];exact hq)
 obtain ⟨hI,rfl⟩:=hI
 have s:=st i h ρ [.lst ((List.range i).map F)] hI
 cases e:tg xs[i] ρ with
 |none=>rw[e] at s;exact s.elim
 |some r=>
  rw[e] at s
  obtain ⟨hr,s⟩:=s
  show Br true _ _
  rw[Zqt]
  refine Zeu s (fun y M2 ⟨h1,h2⟩=> ?_) (fun _ _ z=>z)
  subst h1 h2
  rw[Zf0]
  refine ⟨by simp;omega,hr,?_⟩
  rw[ZkR,List.range_succ,List.map_append]
  rfl
theorem Zf2 {lo:Int}:(ZbD lo n).length=n:=by simp[ZbD]
theorem Zmb {lo:Int} (h:k < (ZbD lo n).length):(ZbD lo n)[k]= .int (lo + k):=by simp[ZbD]
theorem Zf3 {F:Nat->Int}:(List.range n).map (fun i=>D.int (F i))=nts ((List.range n).map F):=by simp[nts]
end
end DL
end
section
namespace DL
open PySem PySem.Spec PyProof.Rows L2
section
variable {Q:D->Sto->Prop} {E:Str->Sto->Prop} {N B C:Ro->Sto->Prop} {R:D->Sto->Prop} {ρ:Ro} {M:Sto} {f g:Ev} {fs:Av} {i j:Int} {n m k:Nat} {x y z d:D} {xs ys ds:List D} {QL:List D->Sto->Prop} {QB:Bool->Sto->Prop} {QS:Src->Sto->Prop} {tg:Tg} {a bd:Sv} {b:Bool} {t u:Tv}
noncomputable def kU {β γ:Type} (u:β->Sto->Out γ) (Q:γ->Sto->Prop) (E:Str->Sto->Prop) (x:β) (M:Sto):Prop:=wO (u x M) Q E
noncomputable def kQ {β γ:Type} (Q:γ->Sto->Prop) (c:β->γ) (M:Sto) (x:β):Prop:=Q (c x) M
noncomputable def kB2 (op:Bo) (x:D) (Q:D->Sto->Prop) (E:Str->Sto->Prop) (y:D) (M:Sto):Prop:=wO (op x y M) Q E
noncomputable def kB1 (op:Bo) (g:Ev) (ρ:Ro) (Q:D->Sto->Prop) (E:Str->Sto->Prop) (x:D) (M:Sto):Prop:=wO (g ρ M) (kB2 op x Q E) E
theorem ZtP {op:Bo}:wO (e2 op f g ρ M) Q E=wO (f ρ M) (kB1 op g ρ Q E) E:=Zqu
theorem y_c:wO (eC d ρ M) Q E=Q d M:=rfl
theorem y_v:wO (Zg k ρ M) Q E=wV ρ[k]? (kQ Q id M):=Ztz
theorem ZoR {F:List D->Sto->Out D}:wO (Zk F fs ρ M) Q E=wO (fs ρ M) (kU F Q E) E:=ZlS
noncomputable def kA2 (x:D) (Q:List D->Sto->Prop) (xs:List D) (M:Sto):Prop:=Q (x :: xs) M
noncomputable def kA1 (fs:Av) (ρ:Ro) (Q:List D->Sto->Prop) (E:Str->Sto->Prop) (x:D) (M:Sto):Prop:=wO (fs ρ M) (kA2 x Q) E
theorem ZqX:wO (aNil ρ M) QL E=QL [] M:=rfl
theorem ZoS:wO (Zc f fs ρ M) QL E=wO (f ρ M) (kA1 fs ρ QL E) E:=ZlT
noncomputable def kTu (Q:D->Sto->Prop) (xs:List D) (M:Sto):Prop:=xs.length<=1000/\Q (.tup xs) M
noncomputable def kLs (Q:D->Sto->Prop) (xs:List D) (M:Sto):Prop:=xs.length<=1000/\Q (.ref M.length) (M ++ [.lst xs])
theorem ZqY:wO (Zah fs ρ M) Q E=wO (fs ρ M) (kTu Q) E:=Zn8
theorem ZqZ:wO (ZbZ fs ρ M) Q E=wO (fs ρ M) (kLs Q) E:=Zn9
noncomputable def Zsh (x:D) (M:Sto):Out D:=match x with | .int i=> .ok (.int (-i)) M | _=> .bad
theorem Zq0:wO (Zb3 f ρ M) Q E=wO (f ρ M) (kU Zsh Q E) E:=by unfold Zb3;exact ZE
theorem ZoT:wO (Zsh (.int i) M) Q E=Q (.int (-i)) M:=rfl
noncomputable def Zq1 (T:String) (x:D) (M:Sto):Out D:=match ZbG M x with | some t=> .ok (.bl (Zdb t T)) M | none=> .bad
theorem Zq2 {T:String}:wO (Znu T f ρ M) Q E=wO (f ρ M) (kU (Zq1 T) Q E) E:=by unfold Znu;exact ZE
noncomputable def kTy (T:String) (Q:D->Sto->Prop) (M:Sto) (t:String):Prop:=Q (.bl (Zdb t T)) M
theorem ZoU {T:String}:wO (Zq1 T x M) Q E=wG (ZbG M x) (kTy T Q M):=by unfold Zq1;cases ZbG M x<;>rfl
noncomputable def tC (b:Bool):Tv:=fun _ M=> .ok b M
noncomputable def BrO {β:Type} (k:Bool) (f g:Ro->Sto->Out β) (ρ:Ro) (M:Sto) (Q:β->Sto->Prop) (E:Str->Sto->Prop):Prop:=wO ((if k=true then f else g) ρ M) Q E
theorem ZtQ {β:Type} {fO gO:Ro->Sto->Out β} {QO:β->Sto->Prop}:BrO true fO gO ρ M QO E=wO (fO ρ M) QO E:=rfl
theorem ZtR {β:Type} {fO gO:Ro->Sto->Out β} {QO:β->Sto->Prop}:BrO false fO gO ρ M QO E=wO (gO ρ M) QO E:=rfl
theorem brO {β:Type} {fO gO:Ro->Sto->Out β} {QO:β->Sto->Prop} {p:Prop} [Decidable p] (h1:p->wO (fO ρ M) QO E) (h2: ¬ p->wO (gO ρ M) QO E):BrO (decide p) fO gO ρ M QO E:=by
 by_cases h:p
 ·rw[decide_eq_true h];exact h1 h
 ·rw[decide_eq_false h];exact h2 h
theorem ZpQ {β:Type} {fO gO:Ro->Sto->Out β} {QO:β->Sto->Prop} (P:β->Sto->Prop) (h:BrO b fO gO ρ M P E) (hn: ∀ x M,P x M->QO x M):BrO b fO gO ρ M QO E:=by
 cases b
 ·exact Zeu h hn (fun _ _ z=>z)
 ·exact Zeu h hn (fun _ _ z=>z)
noncomputable def kIf (f g:Ev) (ρ:Ro) (Q:D->Sto->Prop) (E:Str->Sto->Prop) (k:Bool) (M:Sto):Prop:=BrO k f g ρ M Q E
theorem ZtS:wO (eIf t f g ρ M) Q E=wO (t ρ M) (kIf f g ρ Q E) E:=by unfold eIf;rw[ZE];congr 1;funext k M1;cases k<;>rfl
noncomputable def Zsi (g:Ev) (ρ:Ro) (x:D) (M:Sto):Out D:=match x with | .bl k=>if k=true then g ρ M else .ok (.bl false) M | _=> .bad
noncomputable def oOr (g:Ev) (ρ:Ro) (x:D) (M:Sto):Out D:=match x with | .bl k=>if k=true then .ok (.bl true) M else g ρ M | _=> .bad
noncomputable def Zsj (x:D) (M:Sto):Out D:=match x with | .bl k=> .ok (.bl (!k)) M | _=> .bad
noncomputable def oTv (x:D) (M:Sto):Out Bool:=match x with | .bl k=> .ok k M | _=> .bad
theorem Zq3:wO (ZjM f g ρ M) Q E=wO (f ρ M) (kU (Zsi g ρ) Q E) E:=by unfold ZjM;exact ZE
theorem ZtT:wO (Zr2 f g ρ M) Q E=wO (f ρ M) (kU (oOr g ρ) Q E) E:=by unfold Zr2;exact ZE
theorem Zq4:wO (ZjN f ρ M) Q E=wO (f ρ M) (kU Zsj Q E) E:=by unfold ZjN;exact ZE
theorem ZoV:wO (Zsi g ρ (.bl b) M) Q E=BrO b g (eC (.bl false)) ρ M Q E:=by cases b<;>rfl
theorem Zq5:wO (oOr g ρ (.bl b) M) Q E=BrO b (eC (.bl true)) g ρ M Q E:=by cases b<;>rfl
theorem ZoW:wO (Zsj (.bl b) M) Q E=Q (.bl (!b)) M:=rfl
theorem ZtU:wO (tv f ρ M) QB E=wO (f ρ M) (kU oTv QB E) E:=by unfold tv;exact ZE
theorem Zq6:wO (oTv (.bl b) M) QB E=QB b M:=rfl
noncomputable def kTA (u:Tv) (ρ:Ro) (Q:Bool->Sto->Prop) (E:Str->Sto->Prop) (k:Bool) (M:Sto):Prop:=BrO k u (tC false) ρ M Q E
noncomputable def kTO (u:Tv) (ρ:Ro) (Q:Bool->Sto->Prop) (E:Str->Sto->Prop) (k:Bool) (M:Sto):Prop:=BrO k (tC true) u ρ M Q E
noncomputable def kTN (Q:Bool->Sto->Prop) (k:Bool) (M:Sto):Prop:=Q (!k) M
theorem ZtV:wO (tC b ρ M) QB E=QB b M:=rfl
theorem ZoX:wO (Zcy t u ρ M) QB E=wO (t ρ M) (kTA u ρ QB E) E:=by unfold Zcy;rw[ZE];congr 1;funext k M1;cases k<;>rfl
theorem Zq7:wO (ZhB t u ρ M) QB E=wO (t ρ M) (kTO u ρ QB E) E:=by unfold ZhB;rw[ZE];congr 1;funext k M1;cases k<;>rfl
theorem ZoY:wO (ZfP t ρ M) QB E=wO (t ρ M) (kTN QB) E:=Zoa
noncomputable def kSq (b:Sv) (N:Ro->Sto->Prop) (R:D->Sto->Prop) (B C:Ro->Sto->Prop) (E:Str->Sto->Prop) (ρ:Ro) (M:Sto):Prop:=wS (b ρ M) N R B C E
theorem Zq8:wS (Zz a bd ρ M) N R B C E=wS (a ρ M) (kSq bd N R B C E) R B C E:=Zob
theorem ZoZ:wS (sNil ρ M) N R B C E=N ρ M:=rfl
theorem Zq9:wS (sBrk ρ M) N R B C E=B ρ M:=rfl
theorem Zra:wS (Ztl ρ M) N R B C E=C ρ M:=rfl
theorem Zrb:wS (Zap f ρ M) N R B C E=wO (f ρ M) R E:=Zoc
theorem Zo0:wS (Zqg ρ M) N R B C E=R .non M:=rfl
noncomputable def kDr (ρ:Ro) (N:Ro->Sto->Prop) (d:D) (M:Sto):Prop:=N ρ M
theorem Zo1:wS (Zbn f ρ M) N R B C E=wO (f ρ M) (kDr ρ N) E:=ZlU
noncomputable def BrS (k:Bool) (a b:Sv) (ρ:Ro) (M:Sto) (N:Ro->Sto->Prop) (R:D->Sto->Prop) (B C:Ro->Sto->Prop) (E:Str->Sto->Prop):Prop:=wS ((if k=true then a else b) ρ M) N R B C E
theorem ZtW:BrS true a bd ρ M N R B C E=wS (a ρ M) N R B C E:=rfl
theorem ZtX:BrS false a bd ρ M N R B C E=wS (bd ρ M) N R B C E:=rfl
theorem brS {p:Prop} [Decidable p] (h1:p->wS (a ρ M) N R B C E) (h2: ¬ p->wS (bd ρ M) N R B C E):BrS (decide p) a bd ρ M N R B C E:=by
 by_cases h:p
 ·rw[decide_eq_true h];exact h1 h
 ·rw[decide_eq_false h];exact h2 h
theorem ZtY {p:Prop} [Decidable p] (h1: ¬ p->wS (a ρ M) N R B C E) (h2:p->wS (bd ρ M) N R B C E):BrS (!decide p) a bd ρ M N R B C E:=by
 by_cases h:p
 ·rw[decide_eq_true h];exact h2 h
 ·rw[decide_eq_false h];exact h1 h
theorem ZpR (h1:b=true->wS (a ρ M) N R B C E) (h2:b=false->wS (bd ρ M) N R B C E):BrS b a bd ρ M N R B C E:=by
 cases b
 ·exact h2 rfl
 ·exact h1 rfl
theorem Zrc (P:Ro->Sto->Prop) (h:BrS b a bd ρ M P R B C E) (hn: ∀ ρ M,P ρ M->N ρ M):BrS b a bd ρ M N R B C E:=by
 cases b
 ·exact ZiY h hn (fun _ _ z=>z) (fun _ _ z=>z) (fun _ _ z=>z) (fun _ _ z=>z)
 ·exact ZiY h hn (fun _ _ z=>z) (fun _ _ z=>z) (fun _ _ z=>z) (fun _ _ z=>z)
noncomputable def kSi (a b:Sv) (ρ:Ro) (N:Ro->Sto->Prop) (R:D->Sto->Prop) (B C:Ro->Sto->Prop) (E:Str->Sto->Prop) (k:Bool) (M:Sto):Prop:=BrS k a b ρ M N R B C E
theorem Zrd:wS (sIf t a bd ρ M) N R B C E=wO (t ρ M) (kSi a bd ρ N R B C E) E:=by unfold sIf;rw[Zay];congr 1;funext k M1;cases k<;>rfl
noncomputable def kAs (i:Nat) (ρ:Ro) (N:Ro->Sto->Prop) (d:D) (M:Sto):Prop:=N (ρ.set i (some d)) M
theorem Zre:wS (ZJ (gNm k) f ρ M) N R B C E=wO (f ρ M) (kAs k ρ N) E:=Zod
noncomputable def kAt (gs:Tgs) (ρ:Ro) (N:Ro->Sto->Prop) (d:D) (M:Sto):Prop:=wG (gTp gs d ρ) (kQ N id M)
theorem Zo2 {gs:Tgs}:wS (ZJ (gTp gs) f ρ M) N R B C E=wO (f ρ M) (kAt gs ρ N) E:=ZlV
noncomputable def Zsk (i j:Nat) (ρ:Ro) (N:Ro->Sto->Prop) (M:Sto) (v w:D):Prop:=N ((ρ.set i (some v)).set j (some w)) M
noncomputable def kPa (i j:Nat) (ρ:Ro) (N:Ro->Sto->Prop) (ds:List D) (M:Sto):Prop:=w2 ds (Zsk i j ρ N M)
theorem Zrf:wS (Ze5 k m fs ρ M) N R B C E=wO (fs ρ M) (kPa k m ρ N) E:=Zoe
noncomputable def Zsl (n:Nat) (d:D) (xs:List D) (ρ:Ro) (N:Ro->Sto->Prop) (M:Sto) (j:Nat):Prop:=N ρ (M.set n (.lst (xs.set j d)))
noncomputable def Zsm (n:Nat) (k:Int) (d:D) (ρ:Ro) (N:Ro->Sto->Prop) (M:Sto) (xs:List D):Prop:=wG (ixN xs.length k) (Zsl n d xs ρ N M)
noncomputable def Zsn (n:Nat) (d:D) (ρ:Ro) (N:Ro->Sto->Prop) (M:Sto) (k:Int):Prop:=wL M[n]? (Zsm n k d ρ N M)
noncomputable def Zso (i:D) (d:D) (ρ:Ro) (N:Ro->Sto->Prop) (M:Sto) (n:Nat):Prop:=wI i (Zsn n d ρ N M)
noncomputable def Zsp (o:D) (d:D) (ρ:Ro) (N:Ro->Sto->Prop) (i:D) (M:Sto):Prop:=wR o (Zso i d ρ N M)
noncomputable def Zsq (fi:Ev) (d:D) (ρ:Ro) (N:Ro->Sto->Prop) (E:Str->Sto->Prop) (o:D) (M:Sto):Prop:=wO (fi ρ M) (Zsp o d ρ N) E
noncomputable def kPu (fo fi:Ev) (ρ:Ro) (N:Ro->Sto->Prop) (E:Str->Sto->Prop) (d:D) (M:Sto):Prop:=wO (fo ρ M) (Zsq fi d ρ N E) E
theorem Zrg {fo fi:Ev}:wS (Znw fo fi f ρ M) N R B C E=wO (f ρ M) (kPu fo fi ρ N E) E:=Zof
noncomputable def kRa (c:Str) (E:Str->Sto->Prop) (ds:List D) (M:Sto):Prop:=ds.length<=1000/\E c M
theorem Zmc {c:Str}:wS (ZbL c fs ρ M) N R B C E=wO (fs ρ M) (kRa c E) E:=Zkb
noncomputable def Zsr (tg:Tg) (bd:Sv) (ρ:Ro) (N:Ro->Sto->Prop) (R:D->Sto->Prop) (B C:Ro->Sto->Prop) (E:Str->Sto->Prop) (M:Sto) (j:Int):Prop:=(-(2 ^ 62)<=j/\j < 2 ^ 62)/\wS (ZbU tg bd (ZbD 0 j.toNat) ρ M) N R B C E
noncomputable def Zss (tg:Tg) (bd:Sv) (ρ:Ro) (N:Ro->Sto->Prop) (R:D->Sto->Prop) (B C:Ro->Sto->Prop) (E:Str->Sto->Prop) (M:Sto) (d:D):Prop:=wI d (Zsr tg bd ρ N R B C E M)
noncomputable def kR1 (tg:Tg) (bd:Sv) (ρ:Ro) (N:Ro->Sto->Prop) (R:D->Sto->Prop) (B C:Ro->Sto->Prop) (E:Str->Sto->Prop) (ds:List D) (M:Sto):Prop:=w1 ds (Zss tg bd ρ N R B C E M)
theorem Zo3:wS (ZbI tg fs bd ρ M) N R B C E=wO (fs ρ M) (kR1 tg bd ρ N R B C E) E:=ZlW
noncomputable def Zst (tg:Tg) (bd:Sv) (ρ:Ro) (N:Ro->Sto->Prop) (R:D->Sto->Prop) (B C:Ro->Sto->Prop) (E:Str->Sto->Prop) (M:Sto) (i:Int) (j:Int):Prop:=(-(2 ^ 62)<=i/\i < 2 ^ 62/\ -(2 ^ 62)<=j/\j < 2 ^ 62)/\wS (ZbU tg bd (ZbD i (j - i).toNat) ρ M) N R B C E
noncomputable def Zsu (tg:Tg) (bd:Sv) (ρ:Ro) (N:Ro->Sto->Prop) (R:D->Sto->Prop) (B C:Ro->Sto->Prop) (E:Str->Sto->Prop) (M:Sto) (y:D) (i:Int):Prop:=wI y (Zst tg bd ρ N R B C E M i)
noncomputable def Zsv (tg:Tg) (bd:Sv) (ρ:Ro) (N:Ro->Sto->Prop) (R:D->Sto->Prop) (B C:Ro->Sto->Prop) (E:Str->Sto->Prop) (M:Sto) (x y:D):Prop:=wI x (Zsu tg bd ρ N R B C E M y)
noncomputable def kR2 (tg:Tg) (bd:Sv) (ρ:Ro) (N:Ro->Sto->Prop) (R:D->Sto->Prop) (B C:Ro->Sto->Prop) (E:Str->Sto->Prop) (ds:List D) (M:Sto):Prop:=w2 ds (Zsv tg bd ρ N R B C E M)
theorem Zo4:wS (Ze6 tg fs bd ρ M) N R B C E=wO (fs ρ M) (kR2 tg bd ρ N R B C E) E:=Zl7
noncomputable def kFo (tg:Tg) (bd:Sv) (ρ:Ro) (N:Ro->Sto->Prop) (R:D->Sto->Prop) (B C:Ro->Sto->Prop) (E:Str->Sto->Prop) (d:D) (M:Sto):Prop:=wS (ZkE tg bd d ρ M) N R B C E
theorem Zrh:wS (ZjV tg f bd ρ M) N R B C E=wO (f ρ M) (kFo tg bd ρ N R B C E) E:=Zog
theorem Zo5:wS (ZkE tg bd (.tup xs) ρ M) N R B C E=wS (ZbU tg bd xs ρ M) N R B C E:=rfl
theorem Zo6:wS (ZkE tg bd (.rol xs) ρ M) N R B C E=wS (ZbU tg bd xs ρ M) N R B C E:=rfl
noncomputable def kFs (tg:Tg) (bd:Sv) (ρ:Ro) (N:Ro->Sto->Prop) (R:D->Sto->Prop) (B C:Ro->Sto->Prop) (E:Str->Sto->Prop) (src:Src) (M:Sto):Prop:=wS (ZgD tg bd src (cnt src M) 0 ρ M) N R B C E
theorem Zo7 {fi:Ro->Sto->Out Src}:wS (Zeo tg fi bd ρ M) N R B C E=wO (fi ρ M) (kFs tg bd ρ N R B C E) E:=ZlZ
noncomputable def hT (cs:List Str) (gh:Sv) (W:List Bool) (i:Nat) (ρ:Ro) (c:Str) (M:Sto):Fl:=if cs.contains c=true then (match gh ((kpR W ρ).set i (some (.err c []))) M with | .ret d M2=> .ret d M2 | .nx _ M2=> .nx (List.replicate ρ.length none) M2 | _=> .bad) else .bad
noncomputable def kTr (cs:List Str) (gh:Sv) (W:List Bool) (i:Nat) (ρ:Ro) (N:Ro->Sto->Prop) (R:D->Sto->Prop) (B C:Ro->Sto->Prop) (E:Str->Sto->Prop) (c:Str) (M:Sto):Prop:=cs.contains c=true/\wS (gh ((kpR W ρ).set i (some (.err c []))) M) (fun _ M2=>N (List.replicate ρ.length none) M2) R (fun _ _=>False) (fun _ _=>False) (fun _ _=>False)
theorem Zri {cs:List Str} {W:List Bool} {gh:Sv}:wS (ZlF a cs W k gh ρ M) N R B C E=wS (a ρ M) N R B C (kTr cs gh W k ρ N R B C E):=by
 unfold ZlF
 cases e:a ρ M<;>try rfl
 rename_i c M1
 show wS (if cs.contains c=true then _ else _) N R B C E=kTr cs gh W k ρ N R B C E c M1
 unfold kTr
 by_cases h:cs.contains c=true
 ·rw[if_pos h]
  simp only[h,true_and]
  cases gh ((kpR W ρ).set k (some (.err c []))) M1<;>rfl
 ·rw[if_neg h]
  simp only[h,Bool.false_eq_true,false_and]
  rfl
noncomputable def ZtZ (Q:D->Sto->Prop) (M1:Sto) (u:Unit) (M:Sto):Prop:=Q (.ref M1.length) M
noncomputable def kCo (tg:Tg) (c:Tv) (f:Ev) (k:Nat) (fr:List Nat) (ρ:Ro) (Q:D->Sto->Prop) (src:Src) (M:Sto):Prop:=wO (ZdG src tg c f M.length (cnt src M) 0 (roB k fr ρ) (M ++ [.lst []])) (ZtZ Q M) (fun _ _=>False)
theorem Zo8 {fi:Ro->Sto->Out Src} {fr:List Nat}:wO (Za3 fi k fr tg t f ρ M) Q E=wO (fi ρ M) (kCo tg t f k fr ρ Q) E:=Zl0
noncomputable def Zsw (QS:Src->Sto->Prop) (M:Sto) (j:Int):Prop:=(-(2 ^ 62)<=j/\j < 2 ^ 62)/\QS (.pur (ZbD 0 j.toNat)) M
noncomputable def Zsx (QS:Src->Sto->Prop) (M:Sto) (d:D):Prop:=wI d (Zsw QS M)
noncomputable def kS1 (QS:Src->Sto->Prop) (ds:List D) (M:Sto):Prop:=w1 ds (Zsx QS M)
theorem Zt0:wO (iR1 fs ρ M) QS E=wO (fs ρ M) (kS1 QS) E:=ZtI
noncomputable def Zsy (QS:Src->Sto->Prop) (M:Sto) (i:Int) (j:Int):Prop:=(-(2 ^ 62)<=i/\i < 2 ^ 62/\ -(2 ^ 62)<=j/\j < 2 ^ 62)/\QS (.pur (ZbD i (j - i).toNat)) M
noncomputable def Zsz (QS:Src->Sto->Prop) (M:Sto) (y:D) (i:Int):Prop:=wI y (Zsy QS M i)
noncomputable def ZsA (QS:Src->Sto->Prop) (M:Sto) (x y:D):Prop:=wI x (Zsz QS M y)
noncomputable def kS2 (QS:Src->Sto->Prop) (ds:List D) (M:Sto):Prop:=w2 ds (ZsA QS M)
theorem Zt1:wO (iR2 fs ρ M) QS E=wO (fs ρ M) (kS2 QS) E:=ZtJ
noncomputable def oSq (d:D) (M:Sto):Out Src:=match d with | .tup ds=> .ok (.pur ds) M | .rol ds=> .ok (.pur ds) M | .con ds=> .ok (.pur ds) M | .ref n=> .ok (.sto n) M | _=> .bad
theorem Zt2:wO (iSq f ρ M) QS E=wO (f ρ M) (kU oSq QS E) E:=by unfold iSq;exact ZE
theorem Zrj:wO (oSq (.tup xs) M) QS E=QS (.pur xs) M:=rfl
theorem Zrk:wO (oSq (.rol xs) M) QS E=QS (.pur xs) M:=rfl
theorem Zrl:wO (oSq (.ref n) M) QS E=QS (.sto n) M:=rfl
noncomputable def ZsB (QS:Src->Sto->Prop) (M:Sto) (d:D):Prop:=wR d (kQ QS .enu M)
noncomputable def kEn (QS:Src->Sto->Prop) (ds:List D) (M:Sto):Prop:=w1 ds (ZsB QS M)
theorem Zt3:wO (iEn fs ρ M) QS E=wO (fs ρ M) (kEn QS) E:=ZtK
noncomputable def ZsC (QS:Src->Sto->Prop) (M:Sto) (y:D) (n:Nat):Prop:=wR y (kQ QS (.zip n) M)
noncomputable def ZsD (QS:Src->Sto->Prop) (M:Sto) (x y:D):Prop:=wR x (ZsC QS M y)
noncomputable def kZp (QS:Src->Sto->Prop) (ds:List D) (M:Sto):Prop:=w2 ds (ZsD QS M)
theorem Zt4:wO (iZp fs ρ M) QS E=wO (fs ρ M) (kZp QS) E:=ZtL
noncomputable def ZsE (QS:Src->Sto->Prop) (n:Nat) (M:Sto) (xs:List D):Prop:=QS (.rev n xs.length) M
noncomputable def ZsF (QS:Src->Sto->Prop) (M:Sto) (n:Nat):Prop:=wL M[n]? (ZsE QS n M)
noncomputable def ZsG (QS:Src->Sto->Prop) (M:Sto) (d:D):Prop:=wR d (ZsF QS M)
noncomputable def kRv (QS:Src->Sto->Prop) (ds:List D) (M:Sto):Prop:=w1 ds (ZsG QS M)
theorem Zt5:wO (iRv fs ρ M) QS E=wO (fs ρ M) (kRv QS) E:=ZtM
noncomputable def Zo9 (xs:List D) (M:Sto) (Q:D->Sto->Prop) (ys:List D):Prop:=xs.length + ys.length<=10000000/\Q (.ref M.length) (M ++ [.lst (xs ++ ys)])
noncomputable def ZsH (m:Nat) (M:Sto) (Q:D->Sto->Prop) (xs:List D):Prop:=wL M[m]? (Zo9 xs M Q)
theorem Zrm:wO (dAdd (.ref n) (.ref m) M) Q E=wL M[n]? (ZsH m M Q):=ZqB
noncomputable def ZpS (i:Int) (M:Sto) (Q:D->Sto->Prop) (xs:List D):Prop:=((-9223372036854775808<=i/\i < 9223372036854775808)/\xs.length * i.toNat<=100000)/\Q (.ref M.length) (M ++ [.lst (List.replicate i.toNat xs).flatten])
theorem Zrn:wO (Ztq (.ref n) (.int i) M) Q E=wL M[n]? (ZpS i M Q):=by
 show wO (match M[n]? with | some (.lst xs)=>if (-9223372036854775808<=i/\i < 9223372036854775808)/\xs.length * i.toNat<=100000 then Out.ok (.ref M.length) (M ++ [.lst (List.replicate i.toNat xs).flatten]) else .bad | none=> .bad) Q E=_
 cases e1:M[n]? with
 |none=>rfl
 |some o=>
  cases o with
  |lst xs=>
   show wO (if (-9223372036854775808<=i/\i < 9223372036854775808)/\xs.length * i.toNat<=100000 then Out.ok (.ref M.length) (M ++ [.lst (List.replicate i.toNat xs).flatten]) else .bad) Q E=ZpS i M Q xs
   unfold ZpS
   by_cases h:(-9223372036854775808<=i/\i < 9223372036854775808)/\xs.length * i.toNat<=100000
   ·rw[if_pos h];simp only[eq_true h,true_and];rfl
   ·rw[if_neg h];simp only[eq_false h,false_and];rfl
noncomputable def kEq (Q:D->Sto->Prop) (M:Sto) (b:Bool):Prop:=Q (.bl b) M
noncomputable def kNe (Q:D->Sto->Prop) (M:Sto) (b:Bool):Prop:=Q (.bl (!b)) M
theorem Zt6:wO (dEq x y M) Q E=wG (eqF 12 M x y) (kEq Q M):=ZtE
theorem Zt7:wO (dNe x y M) Q E=wG (eqF 12 M x y) (kNe Q M):=ZtF
theorem Zt8:wO (dIs x y M) Q E=wG (isP x y) (kEq Q M):=ZtG
theorem Zro:wO (dIsNot x y M) Q E=wG (isP x y) (kNe Q M):=ZqC
theorem Zrp:wO (Zr7 x y M) Q E=wG (inE x y M) (kEq Q M):=by unfold Zr7;cases inE x y M<;>rfl
theorem Zkj:wO (ZiF x y M) Q E=wG (inE x y M) (kNe Q M):=by unfold ZiF;cases inE x y M<;>rfl
theorem Zrq:wO (dIx (.tup xs) (.int i) M) Q E=wG (atI xs i) (kQ Q id M):=ZqD
theorem Zrr:wO (dIx (.rol xs) (.int i) M) Q E=wG (atI xs i) (kQ Q id M):=ZqE
noncomputable def kIx (i:Int) (Q:D->Sto->Prop) (M:Sto) (xs:List D):Prop:=wG (atI xs i) (kQ Q id M)
theorem Zrs:wO (dIx (.ref n) (.int i) M) Q E=wL M[n]? (kIx i Q M):=ZqF
noncomputable def ZsI (Q:D->Sto->Prop) (M:Sto) (xs:List D):Prop:=Q (.int xs.length) M
theorem Zpa:wO (bLen [.ref n] M) Q E=wL M[n]? (ZsI Q M):=Zol
noncomputable def kLi (Q:D->Sto->Prop) (M:Sto) (xs:List D):Prop:=Q (.ref M.length) (M ++ [.lst xs])
theorem Zmd:wO (bList [.ref n] M) Q E=wL M[n]? (kLi Q M):=Zl2
noncomputable def ZsJ (Q:D->Sto->Prop) (M:Sto) (bs:List Bool):Prop:=Q (.bl (bs.all id)) M
noncomputable def kAl (Q:D->Sto->Prop) (M:Sto) (xs:List D):Prop:=wG (ZcI xs) (ZsJ Q M)
theorem Zrt:wO (Zr5 [.ref n] M) Q E=wL M[n]? (kAl Q M):=ZqJ
noncomputable def ZsK (g:List Int->Option Int) (Q:D->Sto->Prop) (M:Sto) (ns:List Int):Prop:=wG (g ns) (kQ Q .int M)
noncomputable def ZsL (g:List Int->Option Int) (Q:D->Sto->Prop) (M:Sto) (xs:List D):Prop:=wG (ZbV xs) (ZsK g Q M)
theorem Zpb {gi:List Int->Option Int}:wO (Zcm gi [.ref n] M) Q E=wL M[n]? (ZsL gi Q M):=Zoq
noncomputable def kMt (g:Me) (fs:Av) (ρ:Ro) (Q:D->Sto->Prop) (E:Str->Sto->Prop) (x:D) (M:Sto):Prop:=ZlH x M=true/\wO (fs ρ M) (kU (g x) Q E) E
theorem Zt9 {me:Me} {fo:Ev}:wO (Zff me fo fs ρ M) Q E=wO (fo ρ M) (kMt me fs ρ Q E) E:=ZtH
noncomputable def ZsM (n:Nat) (d:D) (Q:D->Sto->Prop) (M:Sto) (xs:List D):Prop:=xs.length < 10000000/\Q .non (M.set n (.lst (xs ++ [d])))
theorem Zru:wO (mApp (.ref n) [d] M) Q E=wL M[n]? (ZsM n d Q M):=ZqK
noncomputable def ZsN (n:Nat) (Q:D->Sto->Prop) (M:Sto) (xs:List D):Prop:=Q .non (M.set n (.lst []))
theorem Zrv:wO (Zr6 (.ref n) [] M) Q E=wL M[n]? (ZsN n Q M):=ZqL
noncomputable def Zpc (n:Nat) (xs:List D) (Q:D->Sto->Prop) (M:Sto) (ys:List D):Prop:=xs.length + ys.length<=10000000/\Q .non (M.set n (.lst (xs ++ ys)))
noncomputable def ZsO (n m:Nat) (Q:D->Sto->Prop) (M:Sto) (xs:List D):Prop:=wL M[m]? (Zpc n xs Q M)
theorem Zrw:wO (mExt (.ref n) [.ref m] M) Q E=wL M[n]? (ZsO n m Q M):=ZqM
noncomputable def Zme (Q:D->Sto->Prop) (M:Sto) (bs:List Bool):Prop:=wG (bs.findIdx? id) (kQ Q (fun (j:Nat)=> .int j) M)
noncomputable def ZsP (d:D) (Q:D->Sto->Prop) (M:Sto) (xs:List D):Prop:=wG (eqs M d xs) (Zme Q M)
theorem Zrx:wO (mIdx (.ref n) [d] M) Q E=wL M[n]? (ZsP d Q M):=by
 show wO (match M[n]? with | some (.lst xs)=>(match eqs M d xs with | some bs=>(match bs.findIdx? id with | some j=>Out.ok (.int (j:Nat)) M | none=> .bad) | none=> .bad) | none=> .bad) Q E=_
 cases e1:M[n]? with
 |none=>rfl
 |some o=>
  cases o with
  |lst xs=>
   show wO (match eqs M d xs with | some bs=>(match bs.findIdx? id with | some j=>Out.ok (.int (j:Nat)) M | none=> .bad) | none=> .bad) Q E=wG (eqs M d xs) (Zme Q M)
   cases eqs M d xs with
   |none=>rfl
   |some bs=>
    show wO (match bs.findIdx? id with | some j=>Out.ok (.int (j:Nat)) M | none=> .bad) Q E=wG (bs.findIdx? id) _
    cases bs.findIdx? id<;>rfl
noncomputable def kCn (Q:D->Sto->Prop) (M:Sto) (bs:List Bool):Prop:=Q (.int (bs.countP id:Nat)) M
noncomputable def ZsQ (d:D) (Q:D->Sto->Prop) (M:Sto) (xs:List D):Prop:=wG (eqs M d xs) (kCn Q M)
theorem Zpd:wO (mCnt (.ref n) [d] M) Q E=wL M[n]? (ZsQ d Q M):=by
 show wO (match M[n]? with | some (.lst xs)=>(match eqs M d xs with | some bs=>Out.ok (.int (bs.countP id:Nat)) M | none=> .bad) | none=> .bad) Q E=_
 cases e1:M[n]? with
 |none=>rfl
 |some o=>
  cases o with
  |lst xs=>
   show wO (match eqs M d xs with | some bs=>Out.ok (.int (bs.countP id:Nat)) M | none=> .bad) Q E=wG (eqs M d xs) (kCn Q M)
   cases eqs M d xs<;>rfl
noncomputable def ZsR (l u:Option Int) (Q:D->Sto->Prop) (M:Sto) (xs:List D):Prop:=Q (.ref M.length) (M ++ [.lst (ZfV xs l u)])
noncomputable def ZsS (x:D) (l:Option Int) (Q:D->Sto->Prop) (E:Str->Sto->Prop) (u:Option Int) (M:Sto):Prop:=wO (slR x l u M) Q E
noncomputable def ZsT (x:D) (hi:Ro->Sto->Out (Option Int)) (ρ:Ro) (Q:D->Sto->Prop) (E:Str->Sto->Prop) (l:Option Int) (M:Sto):Prop:=wO (hi ρ M) (ZsS x l Q E) E
noncomputable def ZsU (lo hi:Ro->Sto->Out (Option Int)) (ρ:Ro) (Q:D->Sto->Prop) (E:Str->Sto->Prop) (x:D) (M:Sto):Prop:=wO (lo ρ M) (ZsT x hi ρ Q E) E
theorem Zua {lo hi:Ro->Sto->Out (Option Int)}:wO (eSl f lo hi ρ M) Q E=wO (f ρ M) (ZsU lo hi ρ Q E) E:=ZqN
theorem Zry {l u':Option Int}:wO (slR (.ref n) l u' M) Q E=wL M[n]? (ZsR l u' Q M):=ZqO
theorem Zrz {QI:Option Int->Sto->Prop}:wO (oNo ρ M) QI E=QI none M:=rfl
noncomputable def ZsV (Q:Option Int->Sto->Prop) (x:D) (M:Sto):Prop:=wI x (kQ Q some M)
theorem ZrA {QI:Option Int->Sto->Prop}:wO (oSo f ρ M) QI E=wO (f ρ M) (ZsV QI) E:=ZqP
noncomputable def oRv (x:D) (M1:Sto):Out D:=match x with | .tup xs=> .ok (.tup xs.reverse) M1 | .ref n=>(match M1[n]? with | some (.lst xs)=> .ok (.ref M1.length) (M1 ++ [.lst xs.reverse]) | none=> .bad) | .rol xs=> .ok (.ref M1.length) (M1 ++ [.lst xs.reverse]) | _=> .bad
theorem Zub:wO (eRv f ρ M) Q E=wO (f ρ M) (kU oRv Q E) E:=by unfold eRv;exact ZE
noncomputable def ZsW (Q:D->Sto->Prop) (M:Sto) (xs:List D):Prop:=Q (.ref M.length) (M ++ [.lst xs.reverse])
theorem ZrB:wO (oRv (.ref n) M) Q E=wL M[n]? (ZsW Q M):=by show wO (match M[n]? with | some (.lst xs)=>Out.ok (.ref M.length) (M ++ [.lst xs.reverse]) | none=> .bad) Q E=_;cases M[n]? with | none=>rfl | some o=>cases o with | lst xs=>rfl
theorem ZrC:wO (oRv (.tup xs) M) Q E=Q (.tup xs.reverse) M:=rfl
noncomputable def ZsX (tab:List (Str × Bool)) (x:D) (M:Sto):Out D:=match x with | .err c _=>(match tab.lookup c with | some b=> .ok (.bl b) M | none=> .bad) | _=> .bad
theorem ZrD {tab:List (Str × Bool)}:wO (ZdL tab f ρ M) Q E=wO (f ρ M) (kU (ZsX tab) Q E) E:=by unfold ZdL;exact ZE
theorem Zpe {tab:List (Str × Bool)} {c:Str}:wO (ZsX tab (.err c xs) M) Q E=wG (tab.lookup c) (kEq Q M):=by show wO (match tab.lookup c with | some b=>Out.ok (.bl b) M | none=> .bad) Q E=_;cases tab.lookup c<;>rfl
noncomputable def kWh (bd:Sv) (ρ:Ro) (I:Ro->Sto->Prop) (N:Ro->Sto->Prop) (R:D->Sto->Prop) (B C:Ro->Sto->Prop) (E:Str->Sto->Prop) (k:Bool) (M:Sto):Prop:=Br k (wS (bd ρ M) I R N I E) (N ρ M)
theorem ZrE {c:Tv} (I:Nat->Ro->Sto->Prop) (st: ∀ n ρ M,I n ρ M->wO (c ρ M) (kWh bd ρ (fun ρ2 M2=> ∃ m,m < n/\I m ρ2 M2) N R B C E) E) (n:Nat) (ρ:Ro) (M:Sto) (h:I n ρ M):wS (sWh c bd ρ M) N R B C E:=Zkc I st n ρ M h
theorem ZrF {I:Ro->Sto->Prop} {p:Prop} [Decidable p] (h1: ¬ p->wS (bd ρ M) I R N I E) (h2:p->N ρ M):kWh bd ρ I N R B C E (!decide p) M:=brN h1 h2
theorem ZsY {src:Src} {fr:List Nat} (Inv:Ro->Prop) (F:Nat->D) (hl:xs.length < 10000000) (hcnt:xs.length<=cnt src M) (h0:Inv (roB k fr ρ)) (hs: ∀ (L:Sto) (i:Nat),i<=xs.length->nxt src i (M ++ L)=some xs[i]?)
  (st: ∀ (i:Nat) (h:i < xs.length) (ρ:Ro) (L:Sto),Inv ρ->wG (tg xs[i] ρ) fun r=>Inv r/\wO (f r (M ++ L)) (fun y M2=>y=F i/\M2=M ++ L) (fun _ _=>False)) (hq:Q (.ref M.length) (M ++ [.lst ((List.range xs.length).map F)])):
  kCo tg (fun _ M=> .ok true M) f k fr ρ Q src M:=Zma (Q:=fun M2=>Q (.ref M.length) M2) Inv F hl hcnt h0 hs st hq
theorem ZsZ {fr:List Nat} (Inv:Ro->Prop) (F:Nat->D) (hl:n < 10000000) (h0:Inv (roB k fr ρ))
  (st: ∀ (i:Nat) (h:i < n) (ρ:Ro) (L:Sto),Inv ρ->wG (tg (.int i) ρ) fun r=>Inv r/\wO (f r (M ++ L)) (fun y M2=>y=F i/\M2=M ++ L) (fun _ _=>False)) (hq:Q (.ref M.length) (M ++ [.lst ((List.range n).map F)])):
  kCo tg (fun _ M=> .ok true M) f k fr ρ Q (.pur (ZbD 0 n)) M:=by
 refine ZsY (xs:=ZbD 0 n) Inv F (by rw[Zf2];exact hl) (by simp[cnt]) h0 (fun L i hi=>rfl) (fun i hi ρ L hI=> ?_) (by rw[Zf2];exact hq)
 rw[Zmb]
 have:=st i (by rw[Zf2] at hi;exact hi) ρ L hI
 rw[show (0:Int) + (i:Nat)=i by omega]
 exact this
theorem Zuc {fr:List Nat} (Inv:Ro->Prop) (F:Nat->D) (hM:M[n]?=some (.lst xs)) (hl:xs.length < 10000000) (h0:Inv (roB k fr ρ))
  (st: ∀ (i:Nat) (h:i < xs.length) (ρ:Ro) (L:Sto),Inv ρ->wG (tg xs[i] ρ) fun r=>Inv r/\wO (f r (M ++ L)) (fun y M2=>y=F i/\M2=M ++ L) (fun _ _=>False)) (hq:Q (.ref M.length) (M ++ [.lst ((List.range xs.length).map F)])):
  kCo tg (fun _ M=> .ok true M) f k fr ρ Q (.sto n) M:=
 ZsY (xs:=xs) Inv F hl (by rw[Zl8 hM];exact Nat.le_refl _) h0 (fun L i hi=>by rw[ZoP];rw[List.getElem?_append_left (Zbc hM)];exact hM) st hq
end
end DL
end
namespace DL
open PySem PySem.Spec L2
section
variable {Q:D->Sto->Prop} {E:Str->Sto->Prop} {M:Sto} {n:Nat}
end
end DL
section
namespace DL
noncomputable abbrev Pt:=Int × Int
noncomputable def X (p q:Pt):Int:=p.1 * q.2 - p.2 * q.1
section
variable {rs:List Pt} {i j:Int} {k n:Nat} {p:Pt}
theorem Zco {α:Type} {l:List α} {n:Nat} {d:α} (h:n < l.length):l.getD n d=l[n]:=by simp[List.getElem?_eq_getElem h]
theorem ZbX (h:0<=i/\i < rs.length):cy rs i=rs.getD i.toNat (0,0):=by
 unfold cy
 rw[Int.emod_eq_of_lt h.1 h.2]
theorem ZaB {m:Nat} (h:m≠0):(i % m).toNat < m/\0<=i % m:=by
 have:=Int.emod_lt_of_pos i (show (0:Int) < m by omega)
 have:=Int.emod_nonneg i (show (m:Int)≠0 by omega)
 omega
theorem ZgP (h:rs≠[]):cy rs i∈rs:=by
 have hl:rs.length≠0:=by simpa using h
 unfold cy
 rw[Zco (ZaB hl).1]
 exact List.getElem_mem _
theorem ZgQ {f:Pt->Pt} (h:rs≠[]):cy (rs.map f) i=f (cy rs i):=by
 have hl:rs.length≠0:=by simpa using h
 unfold cy
 rw[List.length_map,Zco (by rw[List.length_map];exact (ZaB hl).1),Zco (ZaB hl).1,List.getElem_map]
theorem ZkT (hk:k<=rs.length):cy (rs.drop k ++ rs.take k) i=cy rs (i + k):=by
 by_cases h:rs.length=0
 ·have:rs=[]:=by simpa using h
  subst this
  simp[cy]
 have hL:(rs.drop k ++ rs.take k).length=rs.length:=by simp;omega
 have e1:cy (rs.drop k ++ rs.take k) i=cy (rs.drop k ++ rs.take k) (i % rs.length):=by
  conv=>rhs;rw[<- hL,Zdn]
 have e2:cy rs (i + k)=cy rs (i % rs.length + k):=by
  unfold cy
  rw[Int.emod_add_emod]
 rw[e1,e2]
 obtain ⟨a,b⟩:=ZaB (i:=i) h
 generalize hm:i % (rs.length:Int)=m at *
 have hm2:m < rs.length:=by omega
 rw[ZbX (by rw[hL];omega)]
 by_cases c:m + k < rs.length
 ·rw[ZbX (by omega)]
  rw[List.getD_eq_getElem?_getD,List.getD_eq_getElem?_getD,List.getElem?_append_left (by simp;omega),List.getElem?_drop]
  congr 2
  omega
 ·rw[<- Zd5,ZbX (by omega)]
  rw[List.getD_eq_getElem?_getD,List.getD_eq_getElem?_getD,List.getElem?_append_right (by simp;omega),List.getElem?_take_of_lt (by simp;omega)]
  congr 2
  simp
  omega
noncomputable def ins (rs:List Pt) (k:Nat) (p:Pt):List Pt:=rs.take (k + 1) ++ p :: rs.drop (k + 1)
theorem Zdo (hk:k < rs.length):(ins rs k p).length=rs.length + 1:=by simp[ins];omega
theorem ZgR (hk:k < rs.length) (h0:0<=j) (h1:j<=rs.length + 1):cy (ins rs k p) j=if j<=k then cy rs j else if j=k + 1 then p else cy rs (j - 1):=by
 have hL:=Zdo (p:=p) hk
 by_cases e:j=rs.length + 1
 ·subst e
  rw[if_neg (by omega),if_neg (by omega)]
  have e1:cy (ins rs k p) (rs.length + 1)=cy (ins rs k p) 0:=by
   have:=Zd5 (rs:=ins rs k p) (i:=(rs.length:Int) + 1)
   rw[hL] at this
   rw[<- this]
   congr 1
   omega
  have e2:cy rs ((rs.length:Int) + 1 - 1)=cy rs 0:=by
   rw[<- Zd5]
   congr 1
   omega
  rw[e1,e2,ZbX (by rw[hL];omega),ZbX (by omega)]
  unfold ins
  rw[List.getD_eq_getElem?_getD,List.getD_eq_getElem?_getD,List.getElem?_append_left (by simp;omega),List.getElem?_take_of_lt (by simp)]
 ·have hj:j < rs.length + 1:=by omega
  rw[ZbX (by rw[hL];omega)]
  unfold ins
  rw[List.getD_eq_getElem?_getD]
  by_cases c1:j<=k
  ·rw[if_pos c1,ZbX (by omega),List.getD_eq_getElem?_getD,List.getElem?_append_left (by simp;omega),List.getElem?_take_of_lt (by omega)]
  ·rw[if_neg c1,List.getElem?_append_right (by simp;omega)]
   have hl:(rs.take (k + 1)).length=k + 1:=by simp;omega
   rw[hl]
   by_cases c2:j=k + 1
   ·rw[if_pos c2]
    have:j.toNat - (k + 1)=0:=by omega
    rw[this]
    rfl
   ·rw[if_neg c2,ZbX (by omega),List.getD_eq_getElem?_getD]
    obtain ⟨z,hz⟩: ∃ z,j.toNat - (k + 1)=z + 1:=⟨j.toNat - (k + 1) - 1,by omega⟩
    rw[hz,List.getElem?_cons_succ,List.getElem?_drop]
    congr 2
    omega
theorem Zdp {P:Pt->Pt->Prop} (hn:rs.length≠0) (h: ∀ i:Int,0<=i->i < rs.length->P (cy rs i) (cy rs (i + 1))) (i:Int):P (cy rs i) (cy rs (i + 1)):=by
 have e1:cy rs i=cy rs (i % rs.length):=Zdn.symm
 have e2:cy rs (i + 1)=cy rs (i % rs.length + 1):=by
  unfold cy
  rw[Int.emod_add_emod]
 rw[e1,e2]
 obtain ⟨a,b⟩:=ZaB (i:=i) hn
 exact h _ b (by omega)
noncomputable def cc (f:Pt->Pt->Nat):List Pt->Nat
 |a :: b :: r=>f a b + cc f (b :: r)
 |_=>0
noncomputable def cyc (f:Pt->Pt->Nat) (rs:List Pt):Nat:=cc f (rs ++ rs.take 1)
theorem Zdq {f:Pt->Pt->Nat}: ∀ (L:List Pt) (a:Pt) (R:List Pt),cc f (L ++ a :: R)=cc f (L ++ [a]) + cc f (a :: R)
 | [],a,R=>by simp[cc]
 | [b],a,R=>by simp[cc]
 |b :: c :: L,a,R=>by
  have:=Zdq (f:=f) (c :: L) a R
  simp only[List.cons_append,cc] at this ⊢
  omega
theorem ZkU {f:Pt->Pt->Nat} {g:Pt->Pt}: ∀ (L:List Pt),cc f (L.map g)=cc (fun a b=>f (g a) (g b)) L
 | []=>rfl
 | [_]=>rfl
 |a :: b :: L=>by
  have:=ZkU (f:=f) (g:=g) (b :: L)
  simp only[List.map_cons,cc] at this ⊢
  omega
theorem ZbS {f:Pt->Pt->Nat} {a:Pt} {r:List Pt}:cyc f (a :: r)=cc f (a :: (r ++ [a])):=by simp[cyc]
theorem Zew {f:Pt->Pt->Nat} (A B:List Pt):cyc f (A ++ B)=cyc f (B ++ A):=by
 cases A with
 |nil=>simp
 |cons a A=>
  cases B with
  |nil=>simp
  |cons b B=>
   rw[List.cons_append,ZbS,List.cons_append,ZbS]
   have e1:a :: (A ++ b :: B ++ [a])=(a :: A) ++ b :: (B ++ [a]):=by simp
   have e2:b :: (B ++ a :: A ++ [b])=(b :: B) ++ a :: (A ++ [b]):=by simp
   rw[e1,e2,Zdq (a :: A) b,Zdq (b :: B) a]
   simp only[List.cons_append]
   omega
theorem Zi1 {f:Pt->Pt->Nat} {g:Pt->Pt} (L:List Pt):cyc f (L.map g)=cyc (fun a b=>f (g a) (g b)) L:=by
 unfold cyc
 rw[<- List.map_take,<- List.map_append,ZkU]
noncomputable def in1 (w a b:Pt):Nat:=if 0<=X a w/\0 < X w b then 1 else 0
noncomputable def in2 (w a b:Pt):Nat:=if 0 < X a w/\0<=X w b then 1 else 0
noncomputable def Fan (rs:List Pt):Prop:= ∀ w:Pt,w≠(0,0)->cyc (in1 w) rs=1/\cyc (in2 w) rs=1
theorem Zpf {a b w:Pt}:X w (a.1 + b.1,a.2 + b.2)=X w a + X w b/\X (a.1 + b.1,a.2 + b.2) w=X a w + X b w:=by unfold X;constructor<;>grind
theorem Zmf {p q:Pt}:X p q=0 - X q p:=by unfold X;grind
theorem Zmg {a b w:Pt}:in1 w a b=in1 w a (a.1 + b.1,a.2 + b.2) + in1 w (a.1 + b.1,a.2 + b.2) b:=by
 have s:=Zpf (a:=a) (b:=b) (w:=w)
 have e1:=Zmf (p:=w) (q:=a)
 have e2:=Zmf (p:=b) (q:=w)
 unfold in1
 rw[s.1,s.2,e1,e2]
 generalize X a w=p
 generalize X w b=q
 repeat' split
 all_goals omega
theorem Zmh {a b w:Pt}:in2 w a b=in2 w a (a.1 + b.1,a.2 + b.2) + in2 w (a.1 + b.1,a.2 + b.2) b:=by
 have s:=Zpf (a:=a) (b:=b) (w:=w)
 have e1:=Zmf (p:=w) (q:=a)
 have e2:=Zmf (p:=b) (q:=w)
 unfold in2
 rw[s.1,s.2,e1,e2]
 generalize X a w=p
 generalize X w b=q
 repeat' split
 all_goals omega
theorem Zpg {L R:List Pt} {a:Pt}:cy (L ++ a :: R) L.length=a:=by
 rw[ZbX (by simp;omega)]
 simp
theorem Zph {L R:List Pt} {a b:Pt}:cy (L ++ a :: b :: R) (L.length + 1)=b:=by
 rw[ZbX (by simp;omega)]
 rw[show ((L.length:Int) + 1).toNat=L.length + 1 by omega]
 simp
theorem Zf4 {r:List Pt} {a:Pt}:cy (a :: r) (r.length + 1)=a:=by
 have:=Zd5 (rs:=a :: r) (i:=(r.length:Int) + 1)
 rw[<- this,List.length_cons,show (r.length:Int) + 1 - ((r.length + 1:Nat):Int)=0 by omega,ZbX (by simp)]
 rfl
theorem Zi2 {f:Pt->Pt->Nat} (hk:k < rs.length) (hf:f (cy rs k) (cy rs (k + 1))=f (cy rs k) p + f p (cy rs (k + 1))):cyc f (ins rs k p)=cyc f rs:=by
 obtain ⟨L,a,R,e,hl⟩: ∃ L a R,rs=L ++ a :: R/\L.length=k:=⟨rs.take k,rs[k],rs.drop (k + 1),by rw[List.getElem_cons_drop,List.take_append_drop],by simp;omega⟩
 have ei:ins rs k p=L ++ a :: p :: R:=by
  unfold ins
  rw[e,<- hl,List.take_append,List.drop_append,List.take_of_length_le (by omega),List.drop_eq_nil_of_le (by omega)]
  simp
 have ca:cy rs k=a:=by rw[e,<- hl];exact Zpg
 cases R with
 |cons b R=>
  have cb:cy rs (k + 1)=b:=by rw[e,<- hl];exact Zph
  rw[ca,cb] at hf
  rw[ei,e,Zew,Zew L]
  simp only[List.cons_append,ZbS,cc]
  omega
 |nil=>
  cases L with
  |nil=>
   have cb:cy rs (k + 1)=a:=by
    rw[e,<- hl]
    exact Zf4 (r:=[]) (a:=a)
   rw[ca,cb] at hf
   rw[ei,e]
   simp[cyc,cc]
   omega
  |cons b L=>
   have cb:cy rs (k + 1)=b:=by
    rw[e,<- hl]
    have:=Zf4 (r:=L ++ [a]) (a:=b)
    simp only[List.length_append,List.length_cons,List.length_nil] at this ⊢
    exact this
   rw[ca,cb] at hf
   rw[ei,e]
   simp only[List.cons_append,ZbS]
   have e1:b :: (L ++ [a,p] ++ [b])=(b :: L) ++ a :: [p,b]:=by simp
   have e2:b :: (L ++ [a] ++ [b])=(b :: L) ++ a :: [b]:=by simp
   rw[e1,e2,Zdq,Zdq (b :: L) a [b]]
   simp only[cc]
   omega
theorem Fan.rot (h:Fan rs):Fan (rs.drop k ++ rs.take k):=fun w hw=>by
 rw[Zew,Zew (rs.drop k),List.take_append_drop]
 exact h w hw
theorem Fan.ins (h:Fan rs) (hk:k < rs.length):Fan (ins rs k ((cy rs k).1 + (cy rs (k + 1)).1,(cy rs k).2 + (cy rs (k + 1)).2)):=fun w hw=>by
 rw[Zi2 hk Zmg,Zi2 hk Zmh]
 exact h w hw
theorem Zpi {f:Pt->Pt} {s:Int} (hs:s=1\/s= -1) (hf: ∀ p q,X (f p) (f q)=s * X p q) (w:Pt) (hw:w≠(0,0)): ∃ w':Pt,w'≠(0,0)/\ ∀ a,X (f a) w=s * X a w':=by
 have d:=hf (1,0) (0,1)
 have d1:X (f (1,0)) (f (0,1))=s:=by rw[d];simp[X]
 have lin: ∀ a,(f a).1=a.1 * (f (1,0)).1 + a.2 * (f (0,1)).1/\(f a).2=a.1 * (f (1,0)).2 + a.2 * (f (0,1)).2:=by
  intro a
  have h1:=hf a (1,0)
  have h2:=hf a (0,1)
  generalize f a=u at *
  generalize f (1,0)=e1 at *
  generalize f (0,1)=e2 at *
  unfold X at *
  rcases hs with rfl | rfl<;>constructor<;>grind
 refine ⟨(X w (f (0,1)) * s,X (f (1,0)) w * s),?_,?_⟩
 ·intro z
  apply hw
  have z1:=congrArg Prod.fst z
  have z2:=congrArg Prod.snd z
  simp only at z1 z2
  generalize f (1,0)=e1 at *
  generalize f (0,1)=e2 at *
  unfold X at *
  apply Prod.ext
  ·rcases hs with rfl | rfl<;>simp only[]<;>grind
  ·rcases hs with rfl | rfl<;>simp only[]<;>grind
 ·intro a
  obtain ⟨l1,l2⟩:=lin a
  unfold X
  rw[l1,l2]
  rcases hs with rfl | rfl<;>simp only[]<;>grind
theorem Fan.map (h:Fan rs) {f:Pt->Pt} (hf: ∀ p q,X (f p) (f q)=X p q):Fan (rs.map f):=fun w hw=>by
 obtain ⟨w',hw',e⟩:=Zpi (s:=1) (.inl rfl) (fun p q=>by rw[hf,Int.one_mul]) w hw
 have e2: ∀ a,X w (f a)=X w' a:=fun a=>by rw[Zmf,e,Zmf (p:=w')];omega
 have c1: ∀ a b,in1 w (f a) (f b)=in1 w' a b:=fun a b=>by unfold in1;rw[e,e2,Int.one_mul]
 have c2: ∀ a b,in2 w (f a) (f b)=in2 w' a b:=fun a b=>by unfold in2;rw[e,e2,Int.one_mul]
 rw[Zi1,Zi1,show (fun a b=>in1 w (f a) (f b))=in1 w' from funext fun a=>funext fun b=>c1 a b,show (fun a b=>in2 w (f a) (f b))=in2 w' from funext fun a=>funext fun b=>c2 a b]
 exact h w' hw'
structure Smo (rs:List Pt):Prop where
 len:3<=rs.length
 one: ∀ i:Int,X (cy rs i) (cy rs (i + 1))=1
 fan:Fan rs
noncomputable def Nr (b:Int) (rs:List Pt):Prop:= ∀ p∈rs,(-b<=p.1/\p.1<=b)/\ -b<=p.2/\p.2<=b
theorem Smo.ne (h:Smo rs):rs≠[]:=by
 intro z
 have:=h.len
 rw[z] at this
 simp at this
theorem Nr.cy {b:Int} (h:Nr b rs) (hn:rs≠[]) (i:Int):(-b<=(cy rs i).1/\(cy rs i).1<=b)/\ -b<=(cy rs i).2/\(cy rs i).2<=b:=h _ (ZgP hn)
theorem Smo.ins (h:Smo rs) (hk:k < rs.length):Smo (ins rs k ((cy rs k).1 + (cy rs (k + 1)).1,(cy rs k).2 + (cy rs (k + 1)).2)):=by
 have hL:=Zdo (p:=((cy rs k).1 + (cy rs (k + 1)).1,(cy rs k).2 + (cy rs (k + 1)).2)) hk
 refine ⟨by rw[hL];have:=h.len;omega,?_,h.fan.ins hk⟩
 refine Zdp (P:=fun a b=>X a b=1) (by omega) ?_
 intro i h0 h1
 rw[hL] at h1
 rw[ZgR hk h0 (by omega),ZgR hk (by omega) (by omega)]
 have ok:=h.one k
 by_cases c1:i + 1<=k
 ·rw[if_pos (by omega),if_pos c1];exact h.one i
 ·rw[if_neg c1]
  by_cases c2:i=k
  ·subst c2
   rw[if_pos (by omega),if_pos rfl]
   unfold X at *
   grind
  ·rw[if_neg (by omega: ¬ i<=(k:Int)),if_neg (by omega: ¬ i + 1=(k:Int) + 1)]
   by_cases c3:i=k + 1
   ·subst c3
    rw[if_pos rfl]
    have:(k:Int) + 1 + 1 - 1=k + 1:=by omega
    rw[this]
    unfold X at *
    grind
   ·rw[if_neg c3]
    have:=h.one (i - 1)
    have e:i - 1 + 1=i + 1 - 1:=by omega
    rw[e] at this
    exact this
theorem Smo.rot (h:Smo rs) (hk:k<=rs.length):Smo (rs.drop k ++ rs.take k):=by
 refine ⟨by have:=h.len;simp;omega,fun i=> ?_,h.fan.rot⟩
 rw[ZkT hk,ZkT hk]
 have:=h.one (i + k)
 have e:i + (k:Int) + 1=i + 1 + k:=by omega
 rw[e] at this
 exact this
theorem Smo.map (h:Smo rs) {f:Pt->Pt} (hf: ∀ p q,X (f p) (f q)=X p q):Smo (rs.map f):=by
 refine ⟨by have:=h.len;simp;omega,fun i=> ?_,h.fan.map hf⟩
 rw[ZgQ h.ne,ZgQ h.ne,hf]
 exact h.one i
theorem Nr.ins {b:Int} (h:Nr b rs) (hp:(-b<=p.1/\p.1<=b)/\ -b<=p.2/\p.2<=b):Nr b (ins rs k p):=by
 intro q hq
 rcases List.mem_append.mp hq with hq | hq
 ·exact h q (List.mem_of_mem_take hq)
 ·rcases List.mem_cons.mp hq with hq | hq
  ·subst hq;exact hp
  ·exact h q (List.mem_of_mem_drop hq)
theorem Nr.rot {b:Int} (h:Nr b rs):Nr b (rs.drop k ++ rs.take k):=by
 intro q hq
 rcases List.mem_append.mp hq with hq | hq
 ·exact h q (List.mem_of_mem_drop hq)
 ·exact h q (List.mem_of_mem_take hq)
end
end DL
end
section
namespace CC
open PySem PySem.Spec L2 DL
noncomputable def Zaz:Sv:=(Zap (e2 dSub (e2 dMul (e2 dIx (Zg 0) (eC (.int 0))) (e2 dIx (Zg 1) (eC (.int 1)))) (e2 dMul (e2 dIx (Zg 0) (eC (.int 1))) (e2 dIx (Zg 1) (eC (.int 0))))))
noncomputable def F_crossed:List D->Sto->Out D:=fnF Zaz 2 0
noncomputable def Za5:Sv:=(Zap (e2 dIx (Zg 0) (e2 dMod (e2 dAdd (Zg 1) (eC (.int 1))) (Zk bLen (Zc (Zg 0) aNil)))))
noncomputable def F_following:List D->Sto->Out D:=fnF Za5 2 0
noncomputable def Z5:Sv:=(sIf (tv (e2 dNe (Zk F_crossed (Zc (Zg 2) (Zc (Zk F_following (Zc (Zg 0) (Zc (Zg 1) aNil))) aNil))) (eC (.int 1)))) (Zap (Zg 1)) sNil)
noncomputable def ZaC:Sv:=(Zz (Zeo (gTp (gCs (gNm 1) (gCs (gNm 2) gNl))) (iEn (Zc (Zg 0) aNil)) Z5)
 (Zap (eC .non)))
noncomputable def F_unspanned:List D->Sto->Out D:=fnF ZaC 1 2
noncomputable def Zaq:Sv:=(Zz (ZJ (gNm 1) (Zk F_unspanned (Zc (Zg 0) aNil)))
 (sIf (tv (e2 dIsNot (Zg 1) (eC .non))) (ZbL (PySem.Str.ofString "NotSmooth") (Zc (eFs (Zb4 (eC (.str (PySem.Str.ofString "ray "))) (Zb4 (eFm (Zg 1)) (Zb4 (eC (.str (PySem.Str.ofString " does not cross the next one in 1"))) jNil)))) aNil)) sNil))
noncomputable def F_ask_smooth:List D->Sto->Out D:=fnF Zaq 1 1
noncomputable def Zby:Sv:=(Zz (ZJ (gNm 2) (eC (.int 0)))
 (Zz (sIf (tv (e2 dLt (Zg 1) (Zk bLen (Zc (Zg 0) aNil)))) (ZJ (gNm 2) (e2 dMod (e2 dIx (Zg 0) (Zg 1)) (e2 dPow (eC (.int 10)) (eC (.int 60))))) sNil)
 (Zz (sIf (tv (e2 dLt (Zg 2) (e2 dPow (eC (.int 10)) (eC (.int 18))))) (Zz (ZJ (gNm 3) (e2 dMod (e2 dMul (e2 dAdd (Zg 2) (e2 dMul (eC (.int 1442695040888963407)) (e2 dAdd (Zg 1) (eC (.int 1))))) (eC (.int 6364136223846793005))) (e2 dPow (eC (.int 10)) (eC (.int 37)))))
 (ZJ (gNm 2) (e2 dMod (e2 dDiv (e2 dMul (Zg 3) (Zg 3)) (e2 dPow (eC (.int 10)) (eC (.int 17)))) (e2 dPow (eC (.int 10)) (eC (.int 56)))))) sNil)
 (Zap (Zg 2)))))
noncomputable def F_law_cell_at:List D->Sto->Out D:=fnF Zby 2 2
noncomputable def Zdr:Sv:=(Zap (e2 dSub (e2 dMul (e2 dIx (Zg 0) (eC (.int 0))) (e2 dIx (Zg 1) (eC (.int 1)))) (e2 dMul (e2 dIx (Zg 0) (eC (.int 1))) (e2 dIx (Zg 1) (eC (.int 0))))))
noncomputable def F_law_cross:List D->Sto->Out D:=fnF Zdr 2 0
noncomputable def Zbz:Sv:=(sIf (tv (e2 dEq (Zg 4) (eC (.int 0)))) (Zbn (Zff mApp (Zg 5) (Zc (Zah (Zc (e2 dAdd (Zg 6) (e2 dMul (Zg 3) (Zg 7))) (Zc (Zg 7) aNil))) aNil))) (sIf (tv (e2 dEq (Zg 4) (eC (.int 1)))) (Zbn (Zff mApp (Zg 5) (Zc (Zah (Zc (Zg 6) (Zc (e2 dAdd (Zg 7) (e2 dMul (Zg 3) (Zg 6))) aNil))) aNil))) (sIf (tv (e2 dEq (Zg 4) (eC (.int 2)))) (Zbn (Zff mApp (Zg 5) (Zc (Zah (Zc (e2 dSub (eC (.int 0)) (Zg 7)) (Zc (Zg 6) aNil))) aNil))) (Zbn (Zff mApp (Zg 5) (Zc (Zah (Zc (Zg 6) (Zc (Zg 7) aNil))) aNil))))))
noncomputable def ZbA:Sv:=(Zz (ZJ (gNm 3) (e2 dSub (e2 dMod (e2 dDiv (Zg 1) (eC (.int 4))) (eC (.int 5))) (eC (.int 2))))
 (Zz (sIf (tv (e2 dEq (e2 dMod (e2 dDiv (Zg 1) (eC (.int 20))) (eC (.int 8))) (eC (.int 0)))) (ZJ (gNm 3) (e2 dSub (e2 dMod (e2 dDiv (Zg 1) (eC (.int 160))) (eC (.int 19))) (eC (.int 9)))) sNil)
 (Zz (ZJ (gNm 4) (e2 dMod (Zg 1) (eC (.int 4))))
 (Zz (ZJ (gNm 1) (e2 dDiv (Zg 1) (eC (.int 3040))))
 (Zz (ZJ (gNm 5) (ZbZ aNil))
 (Zz (ZjV (gTp (gCs (gNm 6) (gCs (gNm 7) gNl))) (Zg 0) Zbz)
 (sIf (tv (e2 dLe (Zk (Zcm List.max?) (Zc (e2 dAdd (Za3 (iSq (Zg 5)) 2 [] (gTp (gCs (gNm 0) (gCs (gNm 1) gNl))) (fun _ M=> .ok true M) (Zk bAbs (Zc (Zg 0) aNil))) (Za3 (iSq (Zg 5)) 2 [] (gTp (gCs (gNm 0) (gCs (gNm 1) gNl))) (fun _ M=> .ok true M) (Zk bAbs (Zc (Zg 1) aNil)))) aNil)) (eC (.int 200)))) (ZJ (gNm 0) (Zg 5)) sNil)))))))
noncomputable def ZcA:Sv:=(Zz (ZbI (gNm 2) (Zc (eC (.int 3)) aNil) ZbA)
 (Zap (Zg 0)))
noncomputable def F_law_turn:List D->Sto->Out D:=fnF ZcA 2 6
noncomputable def Za6:Sv:=(Zz (ZJ (gNm 6) (e2 dMod (Zg 0) (Zk bLen (Zc (Zg 3) aNil))))
 (Zz (ZJ (gNm 0) (e2 dDiv (Zg 0) (eC (.int 17))))
 (Zz (ZJ (gNm 7) (e2 dIx (Zg 3) (Zg 6)))
 (Zz (ZJ (gNm 8) (e2 dIx (Zg 3) (e2 dMod (e2 dAdd (Zg 6) (eC (.int 1))) (Zk bLen (Zc (Zg 3) aNil)))))
 (Zz (ZJ (gNm 9) (Zah (Zc (e2 dAdd (e2 dIx (Zg 7) (eC (.int 0))) (e2 dIx (Zg 8) (eC (.int 0)))) (Zc (e2 dAdd (e2 dIx (Zg 7) (eC (.int 1))) (e2 dIx (Zg 8) (eC (.int 1)))) aNil))))
 (sIf (Zcy (tv (e2 dLe (Zk bAbs (Zc (e2 dIx (Zg 9) (eC (.int 0))) aNil)) (eC (.int 200)))) (tv (e2 dLe (Zk bAbs (Zc (e2 dIx (Zg 9) (eC (.int 1))) aNil)) (eC (.int 200))))) (ZJ (gNm 3) (e2 dAdd (e2 dAdd (eSl (Zg 3) oNo (oSo (e2 dAdd (Zg 6) (eC (.int 1))))) (ZbZ (Zc (Zg 9) aNil))) (eSl (Zg 3) (oSo (e2 dAdd (Zg 6) (eC (.int 1)))) oNo))) sNil))))))
noncomputable def ZbN:Sv:=(Zz (ZJ (gNm 2) (e2 dAdd (eC (.int 3)) (e2 dMod (Zg 0) (e2 dSub (Zg 1) (eC (.int 2))))))
 (Zz (ZJ (gNm 0) (e2 dDiv (Zg 0) (e2 dSub (Zg 1) (eC (.int 2)))))
 (Zz (ZJ (gNm 3) (ZbZ (Zc (Zah (Zc (eC (.int 1)) (Zc (eC (.int 0)) aNil))) (Zc (Zah (Zc (eC (.int 0)) (Zc (eC (.int 1)) aNil))) (Zc (Zah (Zc (Zb3 (eC (.int 1))) (Zc (Zb3 (eC (.int 1))) aNil))) aNil)))))
 (Zz (sIf (Zcy (tv (e2 dGt (Zg 2) (eC (.int 3)))) (tv (e2 dGt (e2 dMod (Zg 0) (eC (.int 4))) (eC (.int 0))))) (Zz (ZJ (gNm 4) (e2 dMod (e2 dDiv (Zg 0) (eC (.int 4))) (e2 dIx (ZbZ (Zc (eC (.int 3)) (Zc (eC (.int 4)) (Zc (eC (.int 6)) (Zc (eC (.int 40)) aNil))))) (e2 dMod (e2 dDiv (Zg 0) (eC (.int 512))) (eC (.int 4))))))
 (ZJ (gNm 3) (ZbZ (Zc (Zah (Zc (eC (.int 1)) (Zc (eC (.int 0)) aNil))) (Zc (Zah (Zc (eC (.int 0)) (Zc (eC (.int 1)) aNil))) (Zc (Zah (Zc (Zb3 (eC (.int 1))) (Zc (Zg 4) aNil))) (Zc (Zah (Zc (eC (.int 0)) (Zc (Zb3 (eC (.int 1))) aNil))) aNil))))))) sNil)
 (Zz (ZJ (gNm 0) (e2 dDiv (Zg 0) (eC (.int 2048))))
 (Zz (ZbI (gNm 5) (Zc (e2 dSub (Zg 2) (Zk bLen (Zc (Zg 3) aNil))) aNil) Za6)
 (Zz (ZJ (gNm 3) (Zk F_law_turn (Zc (Zg 3) (Zc (Zg 0) aNil))))
 (Zz (ZJ (gNm 6) (e2 dMod (e2 dDiv (Zg 0) (e2 dPow (eC (.int 10)) (eC (.int 12)))) (Zk bLen (Zc (Zg 3) aNil))))
 (Zap (e2 dAdd (eSl (Zg 3) (oSo (Zg 6)) oNo) (eSl (Zg 3) oNo (oSo (Zg 6)))))))))))))
noncomputable def F_law_smooth:List D->Sto->Out D:=fnF ZbN 2 8
noncomputable def ZcB:Sv:=(Zz (ZJ (gNm 1) (Zk bLen (Zc (Zg 0) aNil)))
 (Zap (Za3 (iR1 (Zc (Zg 1) aNil)) 1 [0,1] (gNm 0) (fun _ M=> .ok true M) (e2 dSub (eC (.int 0)) (Zk F_law_cross (Zc (e2 dIx (Zg 1) (e2 dSub (Zg 0) (eC (.int 1)))) (Zc (e2 dIx (Zg 1) (e2 dMod (e2 dAdd (Zg 0) (eC (.int 1))) (Zg 2))) aNil)))))))
noncomputable def F_law_tags:List D->Sto->Out D:=fnF ZcB 1 1
end CC
end
open PySem PySem.Spec L2 DL
set_option hygiene false
set_option compiler.extract_closed false
local macro_rules | `(tactic| simp! [$ls,*]) => `(tactic| simp (implicitDefEqProofs := false) (disch := omega) only [ZtP, y_c, y_v, ZoR, ZqX, ZoS, ZqY, ZqZ, Zq0, ZoT, Zq2, ZoU, ZtQ, ZtR, ZtS, Zq3, ZtT, Zq4, ZoV, Zq5, ZoW, ZtU, Zq6, ZtV, ZoX, Zq7, ZoY, Zq8, ZoZ, Zq9, Zra, Zrb, Zo0, Zo1, ZtW, ZtX, Zrd, Zre, Zo2, Zrf, Zrg, Zmc, Zo3, Zo4, Zrh, Zo5, Zo6, Zo7, Zri, Zo8, Zt0, Zt1, Zt2, Zrj, Zrk, Zrl, Zt3, Zt4, Zt5, Zrm, Zrn, Zt6, Zt7, Zt8, Zro, Zrp, Zkj, Zrq, Zrr, Zrs, Zpa, Zmd, Zrt, Zpb, Zt9, Zru, Zrv, Zrw, Zrx, Zpd, Zua, Zry, Zrz, ZrA, Zub, ZrB, ZrC, ZrD, Zpe, kU, kQ, kB2, kB1, kA2, kA1, kTu, kLs, kTy, kIf, kTA, kTO, kTN, kSq, kDr, kSi, kAs, kAt, Zsk, kPa, Zsl, Zsm, Zsn, Zso, Zsp, Zsq, kPu, kRa, Zsr, Zss, kR1, Zst, Zsu, Zsv, kR2, kFo, kFs, kTr, Zsw, Zsx, kS1, Zsy, Zsz, ZsA, kS2, ZsB, kEn, ZsC, ZsD, kZp, ZsE, ZsF, ZsG, kRv, Zo9, ZsH, ZpS, kEq, kNe, kIx, ZsI, kLi, ZsJ, kAl, ZsK, ZsL, kMt, ZsM, ZsN, Zpc, ZsO, Zme, ZsP, kCn, ZsQ, ZsR, ZsS, ZsT, ZsU, ZsV, ZsW, Zc3, Zc4, Zf1, Zkg, ZgO, Zke, Zkf, Zi0, Zki, Zkh, Zl6, Zl5, ZoB, decide_eq_true, decide_eq_false, wF1, wF2, wF3, wF4, ZF, Zn7, Ztt, Ztu, Ztv, Ztw, Ztx, Zty, Ztr, Zts, Zqv, Zqw, Zqx, Zoj, Zqy, Zqz, ZqA, ZtA, ZtB, ZtC, ZtD, Zok, Zom, Zon, ZqG, ZqH, ZqI, Zoo, Zop, Zl3, Zor, Zos, Zkd, ZqT, ZqU, ZqV, ZqW, id, roB, kpR, cond_true, cond_false, at0, at1, at2, at3, gTp, gCs, gNl, gNm, List.set_cons_zero, List.set_cons_succ, List.getElem?_cons_zero, List.getElem?_cons_succ, List.length_cons, List.length_nil, List.length_append, List.length_map, List.map_cons, List.map_nil, List.cons_append, List.nil_append, List.append_assoc, List.append_nil, List.replicate_succ, List.replicate_zero, Option.join_some, Option.isSome_some, Zf0, ZkQ, Zdm, ZkR, ZqQ, Zot, Zou, Zbk, Zl4, ZqR, Zse, Zsf, Zoy, ZqS, Zoz, ZoA, ZoC, ZoD, ZoE, ZoF, ZoG, ZoH, ZoI, ZoJ, ZoK, ZoL, ZoM, ZoN, true_and, and_true, Bool.not_true, Bool.not_false, decide_true, decide_false, Nat.reduceAdd, Nat.reduceLeDiff, Nat.reduceLT, Nat.add_zero, Nat.zero_add, Int.reducePow, Int.reduceToNat, Int.reduceNeg, Int.reduceMod, Int.reduceDiv, Int.reduceAdd, Int.reduceSub, Int.reduceMul, Int.cast_ofNat_Int, Int.reduceEq, Int.reduceLT, Int.reduceLE, $ls,*])
set_option hygiene true
section
namespace CC
open PySem PySem.Spec L2 DL
section
variable {Q:D->Sto->Prop} {E:Str->Sto->Prop} {M:Sto} {a b c d i:Int} {n:Nat} {rs:List Pt}
theorem Za7 (ha: -(18446744073709551616) < a/\a < 18446744073709551616) (hb: -(18446744073709551616) < b/\b < 18446744073709551616):wO (F_crossed [pr a b,pr c d] M) Q E=Q (.int (a * d - b * c)) M:=by
 simp![F_crossed,Zaz]
theorem Zi3 (ha: -(18446744073709551616) < a/\a < 18446744073709551616) (hb: -(18446744073709551616) < b/\b < 18446744073709551616):wO (F_law_cross [pr a b,pr c d] M) Q E=Q (.int (a * d - b * c)) M:=Za7 ha hb
theorem Zb5 (h:M[n]?=some (.lst (prs rs))) (hi:0<=i/\i < rs.length):wO (F_following [.ref n,.int i] M) Q E=Q (pr (cy rs (i + 1)).1 (cy rs (i + 1)).2) M:=by
 have e:=ZaB (i:=i + 1) (m:=rs.length) (by omega)
 simp![F_following,Za5,h,Zd4,Zdn]
theorem Zex {rs:List Pt} {i:Nat} (h:i < (prs rs).length):(prs rs)[i]=pr (cy rs i).1 (cy rs i).2:=by
 have h':i < rs.length:=by rw[Zbk] at h;exact h
 rw[ZgN h']
 simp[prs]
theorem Nr.big {b:Int} {rs:List Pt} (h:Nr b rs) (hb:b<=18446744073709551615) (hn:rs≠[]) (i:Int):(-(18446744073709551616) < (cy rs i).1/\(cy rs i).1 < 18446744073709551616)/\(-(18446744073709551616) < (cy rs i).2/\(cy rs i).2 < 18446744073709551616):=by
 have:=Nr.cy h hn i
 omega
theorem Zf5 (h:M[n]?=some (.lst (prs rs))) (hs:Smo rs) (hb:Nr 18446744073709551615 rs) (k:Q .non M):wO (F_unspanned [.ref n] M) Q E:=by
 simp![F_unspanned,ZaC]
 refine ZkS (fun i ρ M'=>M'=M/\ ∃ x y,ρ=[some (.ref n),x,y]) h ⟨rfl,_,_,rfl⟩ (fun i ρ M' hI=>by rw[hI.1];exact h) ?_ ?_
 ·rintro i ρ M' hi ⟨rfl,x,y,rfl⟩
  have b1:=Nr.big hb (by decide) hs.ne i
  have o1:=hs.one i
  have hi':i < rs.length:=by rw[Zbk] at hi;exact hi
  rw[Zex]
  simp![Z5,Zb5 h,Za7]
  unfold X at o1
  rw[o1]
  simp![ZF]
  exact ⟨_,_,rfl⟩
 ·rintro ρ M' ⟨rfl,x,y,rfl⟩
  simp![ZF]
  exact k
theorem Zfm (h:M[n]?=some (.lst (prs rs))) (hs:Smo rs) (hb:Nr 18446744073709551615 rs) (k:Q .non M):wO (F_ask_smooth [.ref n] M) Q E:=by
 simp![F_ask_smooth,Zaq]
 refine Zf5 h hs hb ?_
 simp![ZF]
 exact k
theorem Zpj {i j:Int} (hi:0<=i/\i < 10 ^ 60) (hj:0<=j/\j < 10 ^ 60):Zag i j:=Zg8 200 200 (show i.natAbs < 2 ^ 200 by omega) (show j.natAbs < 2 ^ 200 by omega) (by decide) (by decide)
theorem Zi4 {ns:List Int} {k:Nat} (q: ∀ c:Int,0<=c->Q (.int c) M):wO (F_law_cell_at [.rol (ns.map D.int),.int k] M) Q E:=by
 have tail: ∀ v:Int,0<=v->Q (.int v) M:=q
 simp![F_law_cell_at,Zby]
 refine brS (fun h1=> ?_) (fun h1=> ?_)
 ·have h2:k < ns.length:=by simpa using h1
  simp![Zj9 h2]
  obtain ⟨c,hc,c0⟩: ∃ c:Int,ns[k] % 1000000000000000000000000000000000000000000000000000000000000=c/\0<=c:=⟨_,rfl,by omega⟩
  rw[hc]
  refine brS (fun h1=> ?_) (fun h1=> ?_)
  ·simp![ZF]
   rw[ZgL (Zpj (by omega) (by omega))]
   simp![ZF]
   exact q _ (by omega)
  ·simp![ZF]
   exact q _ c0
 ·obtain ⟨c,hc,c0⟩: ∃ c:Int,0=c/\0<=c:=⟨_,rfl,by omega⟩
  rw[hc]
  simp![ZF]
  rw[ZgL (Zpj (by omega) (by omega))]
  simp![ZF]
  exact q _ (by omega)
noncomputable def tf (w m:Int) (p:Pt):Pt:=if w=0 then (p.1 + m * p.2,p.2) else if w=1 then (p.1,p.2 + m * p.1) else if w=2 then (0 - p.2,p.1) else p
theorem Zs0 {w m:Int} (p q:Pt):X (tf w m p) (tf w m q)=X p q:=by
 unfold tf X
 split
 ·grind
 ·split
  ·grind
  ·split
   ·grind
   ·rfl
theorem Zcp {xs:List Int}:ZbV (nts xs)=some xs:=by
 induction xs with
 |nil=>rfl
 |cons x r ih=>show (match ZbV (nts r) with | some bs=>some (x :: bs) | none=>none)=_;rw[ih]
theorem ZkV {xs:List Int} {v b:Int} (h:xs.max?=some v) (hv:v<=b): ∀ x∈xs,x<=b:=by
 intro x hx
 exact Int.le_trans ((List.max?_le_iff h).mp (Int.le_refl v) x hx) hv
theorem Zey {m:Nat} {M:Sto} {ss:List Pt} {ρ:Ro} {Q:D->Sto->Prop} (k:Nat) (hk:k=0\/k=1) (h:M[m]?=some (.lst (prs ss))) (hl:ss.length<=1000) (q:Q (.ref M.length) (M ++ [.lst (nts ((List.range ss.length).map fun (i:Nat)=>(if k=0 then (cy ss i).1.natAbs else (cy ss i).2.natAbs:Int)))])):
  kCo (gTp (gCs (gNm 0) (gCs (gNm 1) gNl))) (fun _ M=> .ok true M) (Zk bAbs (Zc (Zg k) aNil)) 2 [] ρ Q (.sto m) M:=by
 refine Zuc (fun ρ=> ∃ x y,ρ=[x,y]) (fun (i:Nat)=> .int (if k=0 then (cy ss i).1.natAbs else (cy ss i).2.natAbs:Int)) h (by rw[Zbk];omega) ⟨_,_,rfl⟩ ?_ (by rw[Zf3,Zbk];exact q)
 rintro i hi ρ L ⟨x,y,rfl⟩
 rw[Zex]
 rcases hk with rfl | rfl
 ·simp![ZF]
  exact ⟨⟨_,_,rfl⟩,rfl⟩
 ·simp![ZF]
  exact ⟨⟨_,_,rfl⟩,rfl⟩
theorem Zi5 {c:Int} (h:M[n]?=some (.lst (prs rs))) (hs:Smo rs) (hb:Nr 200 rs) (hl:rs.length<=1000)
  (q: ∀ ss m M',(∀ i j:Int,X (cy ss i) (cy ss j)=X (cy rs i) (cy rs j))->Smo ss->Nr 200 ss->ss.length=rs.length->M'[m]?=some (.lst (prs ss))->M.length<=M'.length->(∀ k,k < M.length->M'[k]?=M[k]?)->Q (.ref m) M'):wO (F_law_turn [.ref n,.int c] M) Q E:=by
 simp![F_law_turn,ZcA]
 refine Zd3 (fun i ρ M'=> ∃ ss m c x1 x2 x3 x4 x5 x6,ρ=[some (.ref m),some (.int c),x1,x2,x3,x4,x5,x6]/\(∀ i j:Int,X (cy ss i) (cy ss j)=X (cy rs i) (cy rs j))/\Smo ss/\Nr 200 ss/\ss.length=rs.length/\M'[m]?=some (.lst (prs ss))/\M.length<=M'.length/\(∀ k,k < M.length->M'[k]?=M[k]?)) ⟨rs,n,c,_,_,_,_,_,_,rfl,fun _ _=>rfl,hs,hb,rfl,h,Nat.le_refl _,fun _ _=>rfl⟩ ?_ ?_
 ·rintro i ρ M1 hi ⟨ss,m,c,x1,x2,x3,x4,x5,x6,rfl,s0,s1,s2,s3,s4,s5,s6⟩
  have hm:=Zbc s4
  simp![ZbA]
  refine Zrc (fun ρ M'=>M'=M1/\ ∃ u:Int,(-9<=u/\u<=9)/\ρ=[some (D.ref m),some (D.int c),some (D.int (0 + ↑i)),some (D.int u),x3,x4,x5,x6]) ?_ ?_
  ·refine brS (fun _=> ?_) (fun _=> ?_)
   ·simp![ZF]
    exact ⟨_,⟨by omega,by omega⟩,rfl⟩
   ·simp![ZF]
    exact ⟨_,⟨by omega,by omega⟩,rfl⟩
  rintro _ M1 ⟨rfl,u,hu,rfl⟩
  simp![ZF]
  generalize c % 4=w
  have hm1:(M1 ++ [SO.lst []])[m]?=some (.lst (prs ss)):=by rw[List.getElem?_append_left hm];exact s4
  refine ZlY (fun i ρ M'=>M'=M1 ++ [.lst (prs ((ss.map (tf w u)).take i))]/\ ∃ y x x',ρ=[some (D.ref m),some (D.int (c / 3040)),y,some (D.int u),some (D.int w),some (D.ref M1.length),x,x']) hm1 ⟨by simp[prs],_,_,_,rfl⟩ (fun i ρ M' hI=>by rw[hI.1,List.getElem?_append_left hm];exact s4) ?_ ?_
  ·rintro i ρ M' hi ⟨rfl,y,x,x',rfl⟩
   rw[Zex]
   rw[Zbk] at hi
   have b1:=Nr.cy s2 s1.ne i
   have tk:prs ((ss.map (tf w u)).take i) ++ [pr (tf w u (cy ss i)).1 (tf w u (cy ss i)).2]=prs ((ss.map (tf w u)).take (i + 1)):=by
    rw[List.take_succ,List.getElem?_map,List.getElem?_eq_getElem hi,<- Zf1,ZgN hi]
    rfl
   have tl:((ss.map (tf w u)).take i).length < 10000000:=by simp;omega
   have fin: ∀ a b:Int,tf w u (cy ss i)=(a,b)->M1 ++ [.lst (prs ((ss.map (tf w u)).take i ++ [(a,b)]))]=M1 ++ [.lst (prs ((ss.map (tf w u)).take (i + 1)))]:=by
    intro a b e
    rw[e] at tk
    rw[<- ZgO,tk]
   simp![Zbz]
   refine brS (fun h1=> ?_) (fun h1=> ?_)
   ·simp![tl]
    exact ⟨fin _ _ (by rw[tf,if_pos h1]),_,_,_,rfl⟩
   simp![ZF]
   refine brS (fun h2=> ?_) (fun h2=> ?_)
   ·simp![tl]
    exact ⟨fin _ _ (by rw[tf,if_neg h1,if_pos h2]),_,_,_,rfl⟩
   simp![ZF]
   refine brS (fun h3=> ?_) (fun h3=> ?_)
   ·simp![tl]
    exact ⟨fin _ _ (by rw[tf,if_neg h1,if_neg h2,if_pos h3]),_,_,_,rfl⟩
   ·simp![tl]
    exact ⟨fin _ _ (by rw[tf,if_neg h1,if_neg h2,if_neg h3]),_,_,_,rfl⟩
  ·rintro ρ M' ⟨rfl,y,x,x',rfl⟩
   rw[List.take_of_length_le (by simp[Zbk])]
   have e1:Smo (ss.map (tf w u)):=s1.map Zs0
   have e0: ∀ i j:Int,X (cy (ss.map (tf w u)) i) (cy (ss.map (tf w u)) j)=X (cy rs i) (cy rs j):=fun i j=>by rw[ZgQ s1.ne,ZgQ s1.ne,Zs0,s0]
   have e2:(ss.map (tf w u)).length=rs.length:=by simp;exact s3
   generalize ss.map (tf w u)=ts at *
   have t4:(M1 ++ [SO.lst (prs ts)])[M1.length]?=some (.lst (prs ts)):=by simp
   have l2:(M1 ++ [SO.lst (prs ts)]).length=M1.length + 1:=by simp
   have k2: ∀ k,k < M1.length->(M1 ++ [SO.lst (prs ts)])[k]?=M1[k]?:=fun k hk=>List.getElem?_append_left hk
   generalize M1 ++ [SO.lst (prs ts)]=M2 at *
   simp![ZF]
   refine Zey 0 (.inl rfl) t4 (by omega) ?_
   generalize hA:((List.range ts.length).map fun (i:Nat)=>(if 0=0 then (cy ts i).1.natAbs else (cy ts i).2.natAbs:Int))=A
   have lA:A.length=ts.length:=by subst hA;simp
   simp![ZF]
   refine Zey 1 (.inr rfl) (by rw[List.getElem?_append_left (by omega)];exact t4) (by omega) ?_
   generalize hB:((List.range ts.length).map fun (i:Nat)=>(if 1=0 then (cy ts i).1.natAbs else (cy ts i).2.natAbs:Int))=B
   have lB:B.length=ts.length:=by subst hB;simp
   simp![ZF]
   refine ⟨by omega,?_⟩
   obtain ⟨v,hv⟩: ∃ v,(A ++ B).max?=some v:=by
    cases e:(A ++ B).max? with
    |some v=>exact ⟨v,rfl⟩
    |none=>
     rw[List.max?_eq_none_iff] at e
     have h0:(A ++ B).length=0:=by rw[e];rfl
     have:=e1.len
     rw[List.length_append] at h0
     omega
   simp![Zi0,Zcp,hv]
   have hx:=fun b (hb:v<=b)=>ZkV hv hb
   refine brS (fun h=> ?_) (fun h=> ?_)
   ·simp![ZF]
    have nr:Nr 200 ts:=by
     intro p hp
     obtain ⟨k,hk,rfl⟩:=List.getElem_of_mem hp
     have a1:=hx 200 h (cy ts k).1.natAbs (by
      rw[List.mem_append];left;subst hA
      exact List.mem_map.mpr ⟨k,List.mem_range.mpr hk,rfl⟩)
     have a2:=hx 200 h (cy ts k).2.natAbs (by
      rw[List.mem_append];right;subst hB
      exact List.mem_map.mpr ⟨k,List.mem_range.mpr hk,rfl⟩)
     rw[ZgN hk] at a1 a2
     omega
    exact ⟨ts,_,_,_,_,_,_,_,_,rfl,e0,e1,nr,e2,by rw[List.getElem?_append_left (by omega)];exact t4,by omega,fun k hk=>by rw[List.getElem?_append_left (by omega),k2 k (by omega)];exact s6 k hk⟩
   ·simp![ZF]
    exact ⟨ss,_,_,_,_,_,_,_,_,rfl,s0,s1,s2,s3,by rw[List.getElem?_append_left (by omega),k2 _ hm];exact s4,by omega,fun k hk=>by rw[List.getElem?_append_left (by omega),k2 k (by omega)];exact s6 k hk⟩
 ·rintro ρ M1 ⟨ss,m,c,x1,x2,x3,x4,x5,x6,rfl,s0,s1,s2,s3,s4,s5,s6⟩
  simp![ZF]
  exact q ss m M1 s0 s1 s2 s3 s4 s5 s6
theorem Zpk {c:Int} (h:M[n]?=some (.lst (prs rs))) (hs:Smo rs) (hb:Nr 200 rs) (hl:rs.length<=1000)
  (q: ∀ ss m M',Smo ss->Nr 200 ss->ss.length=rs.length->M'[m]?=some (.lst (prs ss))->M.length<=M'.length->(∀ k,k < M.length->M'[k]?=M[k]?)->Q (.ref m) M'):wO (F_law_turn [.ref n,.int c] M) Q E:=
 Zi5 h hs hb hl fun ss m M' _ a b c d e f=>q ss m M' a b c d e f
theorem Zds {w a b:Pt} {p q:Int} (h1:X a w=p) (h2:X w b=q):in1 w a b=if 0<=p/\0 < q then 1 else 0:=by unfold in1;rw[h1,h2]
theorem Zdt {w a b:Pt} {p q:Int} (h1:X a w=p) (h2:X w b=q):in2 w a b=if 0 < p/\0<=q then 1 else 0:=by unfold in2;rw[h1,h2]
theorem Zud:Fan [(1,0),(0,1),(-1,-1)]:=by
 rintro ⟨x,y⟩ hw
 have hw': ¬ (x=0/\y=0):=fun z=>hw (by rw[z.1,z.2])
 have a1:X (1,0) (x,y)=y:=by simp[X]
 have a2:X (0,1) (x,y)= -x:=by simp[X]
 have a3:X (-1,-1) (x,y)=x - y:=by simp[X];omega
 have b1:X (x,y) (0,1)=x:=by simp[X]
 have b2:X (x,y) (-1,-1)=y - x:=by simp[X];omega
 have b3:X (x,y) (1,0)= -y:=by simp[X]
 simp only[cyc,List.take_succ_cons,List.take_zero,List.cons_append,List.nil_append,cc]
 rw[Zds a1 b1,Zds a2 b2,Zds a3 b3,Zdt a1 b1,Zdt a2 b2,Zdt a3 b3]
 clear a1 a2 a3 b1 b2 b3 hw
 constructor
 all_goals
  repeat' split
  all_goals omega
theorem Zue (f:Int):Fan [(1,0),(0,1),(-1,f),(0,-1)]:=by
 rintro ⟨x,y⟩ hw
 have hw': ¬ (x=0/\y=0):=fun z=>hw (by rw[z.1,z.2])
 have h0:x=0->x * f=0:=fun z=>by rw[z,Int.zero_mul]
 have a1:X (1,0) (x,y)=y:=by simp[X]
 have a2:X (0,1) (x,y)= -x:=by simp[X]
 have a3:X (-1,f) (x,y)= -y - x * f:=by unfold X;simp only;grind
 have a4:X (0,-1) (x,y)=x:=by simp[X]
 have b1:X (x,y) (0,1)=x:=by simp[X]
 have b2:X (x,y) (-1,f)=x * f + y:=by unfold X;simp only;grind
 have b3:X (x,y) (0,-1)= -x:=by simp[X]
 have b4:X (x,y) (1,0)= -y:=by simp[X]
 simp only[cyc,List.take_succ_cons,List.take_zero,List.cons_append,List.nil_append,cc]
 rw[Zds a1 b1,Zds a2 b2,Zds a3 b3,Zds a4 b4,Zdt a1 b1,Zdt a2 b2,Zdt a3 b3,Zdt a4 b4]
 clear a1 a2 a3 a4 b1 b2 b3 b4 hw
 generalize x * f=z at *
 constructor
 all_goals
  repeat' split
  all_goals omega
theorem Zuf:Smo [(1,0),(0,1),(-1,-1)]:=by
 refine ⟨by decide,Zdp (P:=fun a b=>X a b=1) (by decide) ?_,Zud⟩
 intro i h0 h1
 have:i=0\/i=1\/i=2:=by simp at h1;omega
 rcases this with rfl | rfl | rfl<;>rfl
theorem Zs1 (f:Int):Smo [(1,0),(0,1),(-1,f),(0,-1)]:=by
 refine ⟨by simp,Zdp (P:=fun a b=>X a b=1) (by simp) ?_,Zue f⟩
 intro i h0 h1
 have:i=0\/i=1\/i=2\/i=3:=by simp at h1;omega
 rcases this with rfl | rfl | rfl | rfl<;>simp[X,cy]
theorem Zkk {c t:Int} (hc:0<=c) (ht:3<=t/\t<=1000) (q: ∀ ss m M',Smo ss->Nr 200 ss->ss.length<=t->M'[m]?=some (.lst (prs ss))->M.length<=M'.length->(∀ k,k < M.length->M'[k]?=M[k]?)->Q (.ref m) M'):wO (F_law_smooth [.int c,.int t] M) Q E:=by
 simp![F_law_smooth,ZbN]
 have r0:=Int.emod_nonneg c (show t - 2≠0 by omega)
 have r1:=Int.emod_lt_of_pos c (show 0 < t - 2 by omega)
 have d0:0<=c / (t - 2):=Int.ediv_nonneg hc (by omega)
 generalize c % (t - 2)=r at *
 generalize c / (t - 2)=c1 at *
 refine ZpQ (fun k M'=>M'=(M ++ [SO.lst [D.tup [D.int 1,D.int 0],D.tup [D.int 0,D.int 1],D.tup [D.int (-1),D.int (-1)]]])/\(k=true->3 < 3 + r)) ?_ ?_
 ·refine brO (fun h=> ?_) (fun h=> ?_)
  ·simp![ZF]
   exact fun _=>h
  ·simp![ZF]
   exact fun z=>by cases z
 rintro k _ ⟨rfl,hk⟩
 simp![ZF]
 refine Zrc (fun ρ M'=> ∃ ss m x4,ρ=[some (D.int c1),some (D.int t),some (D.int (3 + r)),some (D.ref m),x4,none,none,none,none,none]/\Smo ss/\Nr 200 ss/\(ss.length:Int)<=3 + r/\M'[m]?=some (.lst (prs ss))/\M.length<=M'.length/\(∀ k,k < M.length->M'[k]?=M[k]?)) ?_ ?_
 ·refine ZpR (fun h=> ?_) (fun h=> ?_)
  ·have h3:=hk h
   simp![ZF]
   obtain ⟨z,hz,z0⟩: ∃ z:Int,c1 / 512 % 4=z/\(z=0\/z=1\/z=2\/z=3):=⟨_,rfl,by omega⟩
   rw[hz]
   obtain ⟨f,hf,f0⟩: ∃ f:Int,atI [D.int 3,D.int 4,D.int 6,D.int 40] z=some (.int f)/\(0 < f/\f<=40):=by
    rcases z0 with rfl | rfl | rfl | rfl
    ·exact ⟨3,rfl,by decide,by decide⟩
    ·exact ⟨4,rfl,by decide,by decide⟩
    ·exact ⟨6,rfl,by decide,by decide⟩
    ·exact ⟨40,rfl,by decide,by decide⟩
   simp![hf]
   have g0:=Int.emod_nonneg (c1 / 4) (show f≠0 by omega)
   have g1:=Int.emod_lt_of_pos (c1 / 4) (show 0 < f by omega)
   generalize c1 / 4 % f=far at *
   refine ⟨[(1,0),(0,1),(-1,far),(0,-1)],_,_,rfl,Zs1 far,?_,by simp;omega,?_,by omega,?_⟩
   ·intro p hp
    simp at hp
    rcases hp with rfl | rfl | rfl | rfl<;>simp<;>omega
   ·rw[ZkQ]
    rfl
   ·intro k hk
    rw[Zdm hk]
  ·simp![ZF]
   refine ⟨[(1,0),(0,1),(-1,-1)],_,_,rfl,Zuf,?_,by simp;omega,?_,by omega,?_⟩
   ·intro p hp
    simp at hp
    rcases hp with rfl | rfl | rfl<;>simp
   ·rw[Zf0]
    rfl
   ·intro k hk
    rw[Zdm hk]
 rintro _ M1 ⟨ss,m,x4,rfl,s1,s2,s3,s4,s5,s6⟩
 have hl3:=s1.len
 simp![s4]
 refine ⟨by omega,?_⟩
 refine Zd3 (fun i ρ M'=> ∃ tt m c x4 x5 x6 x7 x8 x9,ρ=[some (D.int c),some (D.int t),some (D.int (3 + r)),some (D.ref m),x4,x5,x6,x7,x8,x9]/\0<=c/\Smo tt/\Nr 200 tt/\tt.length<=ss.length + i/\M'[m]?=some (.lst (prs tt))/\M.length<=M'.length/\(∀ k,k < M.length->M'[k]?=M[k]?)) ?_ ?_ ?_
 ·exact ⟨ss,m,_,_,_,_,_,_,_,rfl,by omega,s1,s2,by omega,s4,s5,s6⟩
 ·rintro i ρ M2 hi ⟨tt,m,c,x4,x5,x6,x7,x8,x9,rfl,c0,t1,t2,t3,t4,t5,t6⟩
  have tl:=t1.len
  have hm:=Zbc t4
  simp![Za6,t4]
  obtain ⟨a,ha,a0⟩: ∃ a:Nat,c % (tt.length:Int)=a/\a < tt.length:=by
   have:=ZaB (i:=c) (m:=tt.length) (by omega)
   exact ⟨(c % (tt.length:Int)).toNat,by omega,this.1⟩
  rw[ha]
  have e1:=ZaB (i:=(a:Int) + 1) (m:=tt.length) (by omega)
  simp![t4,Zd4,Zdn]
  have b1:=Nr.cy t2 t1.ne a
  have b2:=Nr.cy t2 t1.ne (a + 1)
  have sm:=t1.ins a0
  have nr:=fun h=>Nr.ins (k:=a) (p:=((cy tt a).1 + (cy tt (a + 1)).1,(cy tt a).2 + (cy tt (a + 1)).2)) t2 h
  generalize hx:(cy tt a).1 + (cy tt (a + 1)).1=x at *
  generalize hy:(cy tt a).2 + (cy tt (a + 1)).2=y at *
  refine ZpQ (fun k M'=>M'=M2/\(k=true->(-200<=x/\x<=200)/\ -200<=y/\y<=200)) ?_ ?_
  ·refine brO (fun h=> ?_) (fun h=> ?_)
   ·simp![ZF]
    intro h2
    have:=of_decide_eq_true h2
    omega
   ·simp![ZF]
    exact fun z=>by cases z
  rintro k M2 ⟨rfl,hk⟩
  simp![ZF]
  refine ZpR (fun h=> ?_) (fun h=> ?_)
  ·have le:((a:Int) + 1).toNat=a + 1:=by omega
   simp![t4,le,Zc3,Zc4]
   refine ⟨by rw[List.length_take];omega,by rw[List.length_take,List.length_drop];omega,ins tt a (x,y),_,_,_,_,_,_,_,_,rfl,by omega,sm,nr (hk h),by rw[Zdo a0];omega,?_,by omega,?_⟩
   ·rw[ZkQ]
    rfl
   ·intro k hk
    rw[Zdm (by omega)]
    exact t6 k hk
  ·simp![ZF]
   exact ⟨tt,_,_,_,_,_,_,_,_,rfl,by omega,t1,t2,by omega,t4,t5,t6⟩
 ·rintro ρ M2 ⟨tt,m,c,x4,x5,x6,x7,x8,x9,rfl,c0,t1,t2,t3,t4,t5,t6⟩
  simp![ZF]
  refine Zpk t4 t1 t2 (by omega) ?_
  intro uu m' M3 u1 u2 u3 u4 u5 u6
  have ul:=u1.len
  have hm':=Zbc u4
  simp![u4]
  obtain ⟨a,ha,a0⟩: ∃ a:Nat,c / 1000000000000 % (uu.length:Int)=a/\a < uu.length:=by
   have:=ZaB (i:=c / 1000000000000) (m:=uu.length) (by omega)
   exact ⟨(c / 1000000000000 % (uu.length:Int)).toNat,by omega,this.1⟩
  rw[ha]
  have le:(a:Int).toNat=a:=by omega
  simp![u4,le,Zc3,Zc4,Zf1]
  refine ⟨by rw[List.length_take,List.length_drop];omega,?_⟩
  refine q (uu.drop a ++ uu.take a) _ _ (u1.rot (by omega)) (Nr.rot u2) (by rw[List.length_append,List.length_take,List.length_drop];omega) (by rw[ZkQ];rfl) (by rw[List.length_append];omega) (fun k hk=> ?_)
  rw[Zdm (by omega),u6 k (by omega),t6 k hk]
end
end CC
end
section
namespace DL
noncomputable def T (rs:List Pt) (i:Int):Int:=0 - X (cy rs (i - 1)) (cy rs (i + 1))
noncomputable def ZcR (rs:List Pt):List Int:=(List.range rs.length).map fun (i:Nat)=>T rs i
section
variable {rs:List Pt} {k:Nat} {p:Pt} {j:Int}
theorem Zi6:(ZcR rs).length=rs.length:=by simp[ZcR]
end
end DL
namespace CC
open PySem PySem.Spec L2 DL
section
variable {Q:D->Sto->Prop} {E:Str->Sto->Prop} {M:Sto} {a b c d i:Int} {n:Nat} {rs:List Pt}
theorem Zpl (h:M[n]?=some (.lst (prs rs))) (hn:0 < rs.length) (hl:rs.length<=1000) (hb:Nr 18446744073709551615 rs) (q:Q (.ref M.length) (M ++ [.lst (nts (ZcR rs))])):wO (F_law_tags [.ref n] M) Q E:=by
 have ne:rs≠[]:=by intro z;rw[z] at hn;simp at hn
 have hm:=Zbc h
 simp![F_law_tags,ZcB,h]
 refine ⟨by omega,?_⟩
 rw[show ((rs.length:Int)).toNat=rs.length by omega]
 refine ZsZ (fun ρ=> ∃ x,ρ=[x,some (.ref n),some (.int rs.length)]) (fun (i:Nat)=> .int (T rs i)) (by omega) ⟨_,rfl⟩ ?_ (by rw[Zf3];exact q)
 rintro i hi ρ L ⟨x,rfl⟩
 have e1:=ZaB (i:=(i:Int) + 1) (m:=rs.length) (by omega)
 have b1:=Nr.big hb (by decide) ne (i - 1)
 simp![h,Zd4,Zdn,Zi3]
 exact ⟨⟨_,rfl⟩,rfl⟩
end
end CC
end
section
namespace DL
noncomputable def del (rs:List Pt) (k:Nat):List Pt:=rs.take k ++ rs.drop (k + 1)
section
variable {rs:List Pt} {k:Nat} {p:Pt} {j:Int}
theorem Zpm (p q:Pt):X p q=0 - X q p:=by unfold X;grind
theorem Zez (hk:k < rs.length):(del rs k).length=rs.length - 1:=by simp[del];omega
theorem ZgS (hk:k < rs.length) (h0:0<=j) (h1:j < rs.length - 1):cy (del rs k) j=if j < k then cy rs j else cy rs (j + 1):=by
 have hL:=Zez hk
 rw[ZbX (by rw[hL];omega)]
 unfold del
 rw[List.getD_eq_getElem?_getD]
 by_cases c1:j < k
 ·rw[if_pos c1,ZbX (by omega),List.getD_eq_getElem?_getD,List.getElem?_append_left (by simp;omega),List.getElem?_take_of_lt (by omega)]
 ·have hl:(rs.take k).length=k:=by simp;omega
  rw[if_neg c1,ZbX (by omega),List.getD_eq_getElem?_getD,List.getElem?_append_right (by rw[hl];omega),hl,List.getElem?_drop]
  congr 2
  omega
theorem Zi7 (hk:k < rs.length) (hn:3<=rs.length) (hj:j=rs.length - 1):cy (del rs k) j=if k=0 then cy rs (rs.length + 1) else cy rs rs.length:=by
 have hL:=Zez hk
 have e:=Zd5 (rs:=del rs k) (i:=j)
 rw[hL] at e
 rw[<- e,show j - ((rs.length - 1:Nat):Int)=0 by omega,ZgS hk (by omega) (by omega)]
 by_cases c:k=0
 ·rw[if_neg (by omega),if_pos c,<- ZgM (rs:=rs) (i:=0 + 1)]
  exact congrArg _ (by omega)
 ·rw[if_pos (by omega),if_neg c,<- ZgM (rs:=rs) (i:=0)]
  exact congrArg _ (by omega)
end
end DL
end
section
namespace DL
noncomputable def nm (p:Pt):Int:=p.1 * p.1 + p.2 * p.2
theorem Zpn {f:Pt->Pt->Nat} {L R:List Pt} {a b:Pt}:f a b<=cc f (L ++ a :: b :: R):=by
 rw[Zdq]
 simp only[cc]
 omega
end DL
namespace DL
section
variable {rs:List Pt} {k:Nat}
end
end DL
end
section
namespace CE
open PySem PySem.Spec L2 DL
noncomputable def Zaz:Sv:=(Zap (e2 dSub (e2 dMul (e2 dIx (Zg 0) (eC (.int 0))) (e2 dIx (Zg 1) (eC (.int 1)))) (e2 dMul (e2 dIx (Zg 0) (eC (.int 1))) (e2 dIx (Zg 1) (eC (.int 0))))))
noncomputable def F_crossed:List D->Sto->Out D:=fnF Zaz 2 0
noncomputable def Za5:Sv:=(Zap (e2 dIx (Zg 0) (e2 dMod (e2 dAdd (Zg 1) (eC (.int 1))) (Zk bLen (Zc (Zg 0) aNil)))))
noncomputable def F_following:List D->Sto->Out D:=fnF Za5 2 0
noncomputable def Z5:Sv:=(sIf (tv (e2 dNe (Zk F_crossed (Zc (Zg 2) (Zc (Zk F_following (Zc (Zg 0) (Zc (Zg 1) aNil))) aNil))) (eC (.int 1)))) (Zap (Zg 1)) sNil)
noncomputable def ZaC:Sv:=(Zz (Zeo (gTp (gCs (gNm 1) (gCs (gNm 2) gNl))) (iEn (Zc (Zg 0) aNil)) Z5)
 (Zap (eC .non)))
noncomputable def F_unspanned:List D->Sto->Out D:=fnF ZaC 1 2
noncomputable def Zaq:Sv:=(Zz (ZJ (gNm 1) (Zk F_unspanned (Zc (Zg 0) aNil)))
 (sIf (tv (e2 dIsNot (Zg 1) (eC .non))) (ZbL (PySem.Str.ofString "NotSmooth") (Zc (eFs (Zb4 (eC (.str (PySem.Str.ofString "ray "))) (Zb4 (eFm (Zg 1)) (Zb4 (eC (.str (PySem.Str.ofString " does not cross the next one in 1"))) jNil)))) aNil)) sNil))
noncomputable def F_ask_smooth:List D->Sto->Out D:=fnF Zaq 1 1
noncomputable def Zcq:Sv:=(Zz (Zbn (Zk F_ask_smooth (Zc (Zg 0) aNil)))
 (Zap (Za3 (iR1 (Zc (Zk bLen (Zc (Zg 0) aNil)) aNil)) 1 [0] (gNm 0) (fun _ M=> .ok true M) (Zk F_crossed (Zc (Zk F_following (Zc (Zg 1) (Zc (Zg 0) aNil))) (Zc (e2 dIx (Zg 1) (e2 dSub (Zg 0) (eC (.int 1)))) aNil))))))
noncomputable def F_numbers:List D->Sto->Out D:=fnF Zcq 1 0
end CE
end
section
namespace CE
open PySem PySem.Spec L2 DL
theorem Zi8:F_crossed=CC.F_crossed:=rfl
theorem Zf6:F_following=CC.F_following:=rfl
theorem ZcJ:F_ask_smooth=CC.F_ask_smooth:=rfl
section
variable {Q:D->Sto->Prop} {E:Str->Sto->Prop} {M:Sto} {a b c d i:Int} {n:Nat} {rs:List Pt}
theorem Zi9 (h:M[n]?=some (.lst (prs rs))) (hs:Smo rs) (hl:rs.length<=1000000) (hb:Nr 18446744073709551615 rs) (q:Q (.ref M.length) (M ++ [.lst (nts (ZcR rs))])):wO (F_numbers [.ref n] M) Q E:=by
 have hm:=Zbc h
 have hn:=hs.len
 simp![F_numbers,Zcq,ZcJ]
 refine CC.Zfm h hs hb ?_
 simp![h]
 refine ⟨by omega,?_⟩
 rw[show ((rs.length:Int)).toNat=rs.length by omega]
 refine ZsZ (fun ρ=> ∃ x,ρ=[x,some (.ref n)]) (fun (i:Nat)=> .int (T rs i)) (by omega) ⟨_,rfl⟩ ?_ (by rw[Zf3];exact q)
 rintro i hi ρ L ⟨x,rfl⟩
 have b1:=CC.Nr.big hb (by decide) hs.ne (i + 1)
 have hL:(M ++ L)[n]?=some (.lst (prs rs)):=by rw[Zdm hm];exact h
 simp![Zf6,Zi8,CC.Zb5 hL,h,Zd4,CC.Za7]
 refine ⟨⟨_,rfl⟩,?_⟩
 unfold T
 rw[<- Zpm]
 rfl
end
end CE
end
section
namespace CF
open PySem PySem.Spec L2 DL CC
noncomputable def Zbl:Sv:=(Zz (ZJ (gNm 4) (e2 dAdd (eSl (Zg 1) oNo (oSo (Zg 3))) (eSl (Zg 1) (oSo (e2 dAdd (Zg 3) (eC (.int 1)))) oNo)))
 (Zz (ZJ (gNm 5) (Zk F_law_cross (Zc (e2 dIx (Zg 1) (e2 dSub (Zg 3) (eC (.int 1)))) (Zc (e2 dIx (Zg 1) (e2 dMod (e2 dAdd (Zg 3) (eC (.int 1))) (Zg 2))) aNil))))
 (sIf (Zcy (tv (e2 dGt (Zg 2) (eC (.int 3)))) (tv (e2 dGt (Zg 5) (eC (.int 1))))) (Zap (Zg 4)) sNil)))
noncomputable def Zb6:Sv:=(Zz (ZJ (gNm 1) (Zk F_law_smooth (Zc (e2 dDiv (Zg 0) (eC (.int 3))) (Zc (eC (.int 9)) aNil))))
 (Zz (ZJ (gNm 2) (Zk bLen (Zc (Zg 1) aNil)))
 (Zz (sIf (tv (e2 dGt (e2 dMod (Zg 0) (eC (.int 3))) (eC (.int 0)))) (ZbI (gNm 3) (Zc (Zg 2) aNil) Zbl) sNil)
 (Zap (ZbZ (Zc (Zah (Zc (eC (.int 1)) (Zc (eC (.int 0)) aNil))) (Zc (Zah (Zc (eC (.int 0)) (Zc (eC (.int 1)) aNil))) (Zc (Zah (Zc (e2 dSub (Zb3 (eC (.int 1))) (e2 dMod (e2 dDiv (Zg 0) (eC (.int 3))) (eC (.int 5)))) (Zc (e2 dSub (Zb3 (eC (.int 2))) (e2 dMod (e2 dDiv (Zg 0) (eC (.int 3))) (eC (.int 5)))) aNil))) aNil))))))))
noncomputable def F_law_rough:List D->Sto->Out D:=fnF Zb6 1 5
end CF
end
section
namespace CF
open PySem PySem.Spec L2 DL
noncomputable abbrev ZkW:Str:=PySem.Str.ofString "NotSmooth"
section
variable {Q:D->Sto->Prop} {E:Str->Sto->Prop} {M:Sto} {a b c d i:Int} {n:Nat} {rs:List Pt}
noncomputable def Rgh (rs:List Pt):Prop:= ∃ i:Nat,i < rs.length/\X (cy rs i) (cy rs (i + 1))≠1
theorem Rgh.ne (h:Rgh rs):rs≠[]:=by
 obtain ⟨i,hi,_⟩:=h
 intro z
 rw[z] at hi
 simp at hi
theorem Zf7 (h:M[n]?=some (.lst (prs rs))) (hs:Rgh rs) (hb:Nr 18446744073709551615 rs) (k: ∀ j:Nat,j < rs.length->Q (.int j) M):wO (CC.F_unspanned [.ref n] M) Q E:=by
 simp![CC.F_unspanned,CC.ZaC]
 refine ZkS (fun i ρ M'=>M'=M/\(∃ x y,ρ=[some (.ref n),x,y])/\ ∀ j:Nat,j < i->X (cy rs j) (cy rs (j + 1))=1) h ⟨rfl,⟨_,_,rfl⟩,by intro j hj;omega⟩ (fun i ρ M' hI=>by rw[hI.1];exact h) ?_ ?_
 ·rintro i ρ M hi ⟨rfl,⟨x,y,rfl⟩,hj⟩
  have b1:=CC.Nr.big hb (by decide) hs.ne i
  have hi':i < rs.length:=by rw[Zbk] at hi;exact hi
  rw[CC.Zex]
  simp![CC.Z5,CC.Zb5 h,CC.Za7]
  refine ZtY (fun z=> ?_) (fun z=> ?_)
  ·simp![ZF]
   exact k i hi'
  ·simp![ZF]
   refine ⟨⟨_,_,rfl⟩,fun j hj'=> ?_⟩
   by_cases c:j=i
   ·subst c;exact z
   ·exact hj j (by omega)
 ·rintro ρ M ⟨rfl,⟨x,y,rfl⟩,hj⟩
  obtain ⟨i,hi,hx⟩:=hs
  exact absurd (hj i (by rw[Zbk];exact hi)) hx
theorem Zmi:(PySem.Str.ofString "ray ").length<=1000:=by rw[PySem.ofString_length];exact (by decide:(4:Nat)<=1000)
theorem Zmj:(PySem.Str.ofString " does not cross the next one in 1").length<=1000:=by rw[PySem.ofString_length];exact (by decide:(33:Nat)<=1000)
theorem Zfn (h:M[n]?=some (.lst (prs rs))) (hs:Rgh rs) (hb:Nr 18446744073709551615 rs) (hl:rs.length<=1000) (k:E ZkW M):wO (CC.F_ask_smooth [.ref n] M) Q E:=by
 simp![CC.F_ask_smooth,CC.Zaq]
 refine Zf7 h hs hb fun j hj=> ?_
 simp![ZF]
 refine ZtO ?_ ?_
 ·refine Zsg ?_ ?_ ?_
  ·exact Zmi
  ·omega
  refine ZtN (i:=j) ?_ ?_ ?_ ?_
  ·rfl
  ·omega
  ·omega
  refine Zsg ?_ ?_ ?_
  ·exact Zmj
  ·omega
  exact ZoQ (by omega)
 intro x
 simp![ZF]
 exact k
theorem Zja (h:M[n]?=some (.lst (prs rs))) (hs:Rgh rs) (hb:Nr 18446744073709551615 rs) (hl:rs.length<=1000) (k:E ZkW M):wO (CE.F_numbers [.ref n] M) Q E:=by
 simp![CE.F_numbers,CE.Zcq,CE.ZcJ]
 exact Zfn h hs hb hl k
theorem Zmk {k:Nat} (hs:Smo rs) (hk:k < rs.length) (h4:3 < rs.length) (hx:X (cy rs (k - 1)) (cy rs (k + 1)) > 1):Rgh (del rs k):=by
 have dL:=Zez hk
 by_cases c:k=0
 ·subst c
  refine ⟨rs.length - 2,by omega,?_⟩
  have e1:cy (del rs 0) ((rs.length - 2:Nat):Int)=cy rs ((0:Nat) - 1:Int):=by
   rw[ZgS hk (by omega) (by omega),if_neg (by omega),<- ZgM (rs:=rs) (i:=((0:Nat) - 1:Int))]
   exact congrArg _ (by omega)
  have e2:cy (del rs 0) (((rs.length - 2:Nat):Int) + 1)=cy rs ((0:Nat) + 1:Int):=by
   rw[Zi7 hk (by omega) (by omega),if_pos rfl,<- ZgM (rs:=rs) (i:=((0:Nat) + 1:Int))]
   exact congrArg _ (by omega)
  rw[e1,e2]
  omega
 ·refine ⟨k - 1,by omega,?_⟩
  have e1:cy (del rs k) ((k - 1:Nat):Int)=cy rs ((k:Int) - 1):=by
   rw[ZgS hk (by omega) (by omega),if_pos (by omega)]
   exact congrArg _ (by omega)
  have e2:cy (del rs k) (((k - 1:Nat):Int) + 1)=cy rs ((k:Int) + 1):=by
   by_cases c2:k=rs.length - 1
   ·rw[Zi7 hk (by omega) (by omega),if_neg c]
    exact congrArg _ (by omega)
   ·rw[ZgS hk (by omega) (by omega),if_neg (by omega)]
    exact congrArg _ (by omega)
  rw[e1,e2]
  omega
theorem Nr.del {b:Int} {k:Nat} (h:Nr b rs):Nr b (del rs k):=fun p hp=>h p (by
 rcases List.mem_append.mp hp with z | z
 ·exact List.mem_of_mem_take z
 ·exact List.mem_of_mem_drop z)
theorem Zml {c:Int} (hc:0<=c) (q: ∀ ss m M',M.length<=m->Rgh ss->Nr 200 ss->3<=ss.length->ss.length<=14->M'[m]?=some (.lst (prs ss))->M.length<=M'.length->(∀ k,k < M.length->M'[k]?=M[k]?)->Q (.ref m) M'):wO (F_law_rough [.int c] M) Q E:=by
 simp![F_law_rough,Zb6]
 refine CC.Zkk (by omega) (by decide) ?_
 intro ss m M1 s1 s2 s3 s4 s5 s6
 have hm:=Zbc s4
 have sl:=s1.len
 simp![s4]
 refine Zrc (fun ρ M'=>(∃ x1 x2 x3 x4 x5,ρ=[some (.int c),x1,x2,x3,x4,x5])/\M.length<=M'.length/\(∀ k,k < M.length->M'[k]?=M[k]?)) ?_ ?_
 ·refine brS (fun z=> ?_) (fun z=> ?_)
  ·simp![ZF]
   refine ⟨by omega,?_⟩
   rw[show ((ss.length:Int)).toNat=ss.length by omega]
   refine Zd3 (fun i ρ M'=>(∃ x1 x2 x3,ρ=[some (.int c),some (.ref m),some (.int ss.length),x1,x2,x3])/\M'[m]?=some (.lst (prs ss))/\M.length<=M'.length/\(∀ k,k < M.length->M'[k]?=M[k]?)) ⟨⟨_,_,_,rfl⟩,s4,s5,s6⟩ ?_ ?_
   ·rintro k ρ M2 hk ⟨⟨x1,x2,x3,rfl⟩,t4,t5,t6⟩
    have hm:=Zbc t4
    rw[show (0:Int) + (k:Int)=k by omega]
    have e1:=ZaB (i:=(k:Int) + 1) (m:=ss.length) (by omega)
    have b1:=Nr.cy s2 s1.ne ((k:Int) - 1)
    have le:((k:Int) + 1).toNat=k + 1:=by omega
    have le2:(k:Int).toNat=k:=by omega
    simp![Zbl,t4,le,le2,Zd4,Zdn,CC.Zi3]
    refine ⟨by rw[List.length_take,List.length_drop];omega,?_⟩
    refine ZpQ (fun b M'=>M'=M2 ++ [.lst (prs (ss.take k)),.lst (prs (ss.drop (k + 1))),.lst (prs (ss.take k ++ ss.drop (k + 1)))]/\(b=true->3 < ss.length/\X (cy ss (k - 1)) (cy ss (k + 1)) > 1)) ?_ ?_
    ·refine brO (fun z=> ?_) (fun z=> ?_)
     ·simp![ZF]
      exact fun u=>⟨by omega,of_decide_eq_true u⟩
     ·simp![ZF]
      exact fun u=>by cases u
    rintro b _ ⟨rfl,hb⟩
    simp![ZF]
    refine ZpR (fun z=> ?_) (fun z=> ?_)
    ·simp![ZF]
     obtain ⟨h4,hx⟩:=hb z
     have dl:=Zez hk
     exact q (del ss k) _ _ (by omega) (Zmk s1 hk h4 hx) (Nr.del s2) (by omega) (by omega) (by rw[ZkQ];rfl) (by rw[List.length_append];omega) (fun j hj=>by rw[Zdm (by omega)];exact t6 j hj)
    ·simp![ZF]
     exact ⟨⟨_,_,_,rfl⟩,t4,by omega,fun j hj=>by rw[Zdm (by omega)];exact t6 j hj⟩
   ·rintro ρ M2 ⟨⟨x1,x2,x3,rfl⟩,t4,t5,t6⟩
    exact ⟨⟨_,_,_,_,_,rfl⟩,t5,t6⟩
  ·simp![ZF]
   exact ⟨⟨_,_,_,_,_,rfl⟩,s5,s6⟩
 ·rintro _ M2 ⟨⟨x1,x2,x3,x4,x5,rfl⟩,t5,t6⟩
  simp![ZF]
  obtain ⟨z,hz,z0,z1⟩: ∃ z:Int,c / 3 % 5=z/\0<=z/\z < 5:=⟨_,rfl,by omega,by omega⟩
  rw[hz]
  refine q [(1,0),(0,1),(-1 - z,-2 - z)] _ _ (by omega) ⟨2,by simp,?_⟩ ?_ (by simp) (by simp) (by rw[Zf0];rfl) (by rw[List.length_append];omega) (fun j hj=>by rw[Zdm (by omega)];exact t6 j hj)
  ·simp[cy,X]
   omega
  ·intro p hp
   simp at hp
   rcases hp with rfl | rfl | rfl<;>simp<;>omega
end
end CF
end
section
namespace DL
open PySem PySem.Spec L2 DL
section
variable {M:Sto}
theorem ZrG {k:Nat} {a b:Str}:eqF (k + 1) M (.str a) (.str b)=some (a == b):=rfl
theorem ZrH {x y:Bool} {r:List D} {bs:List Bool} (h:eqs M (.bl y) r=some bs):eqs M (.bl y) (.bl x :: r)=some ((x == y) :: bs):=by
 show (match eqF 12 M (.bl x) (.bl y) with | some b=>(match eqs M (.bl y) r with | some bs=>some (b :: bs) | none=>none) | none=>none)=_
 rw[Zse,h]
theorem Zjb: ∀ bs:List Bool,eqs M (.bl true) (bs.map D.bl)=some (bs.map (· == true))
 | []=>rfl
 |b :: r=>ZrH (Zjb r)
noncomputable abbrev Zpo:List D:=[D.str (PySem.Str.ofString "NoRatio"),D.str (PySem.Str.ofString "NoTurning"),D.str (PySem.Str.ofString "NoRound"),D.str (PySem.Str.ofString "NotSmooth"),D.str (PySem.Str.ofString "NoWedge"),D.str (PySem.Str.ofString "NoRow"),D.str (PySem.Str.ofString "NoPlace"),D.str (PySem.Str.ofString "NoMinus"),D.str (PySem.Str.ofString "NoFour"),D.str (PySem.Str.ofString "NoHeight"),D.str (PySem.Str.ofString "NoBend"),D.str (PySem.Str.ofString "NoBody"),D.str (PySem.Str.ofString "NoOne"),D.str (PySem.Str.ofString "NoText"),D.str (PySem.Str.ofString "Unknown")]
theorem Zug:eqs M (.bl true) [D.bl false,D.bl false,D.bl false,D.bl true,D.bl false,D.bl false,D.bl false,D.bl false,D.bl false,D.bl false,D.bl false,D.bl false,D.bl false,D.bl false,D.bl false]=some [false,false,false,true,false,false,false,false,false,false,false,false,false,false,false]:=Zjb [false,false,false,true,false,false,false,false,false,false,false,false,false,false,false]
theorem Zuh:List.countP id [false,false,false,true,false,false,false,false,false,false,false,false,false,false,false]=1:=rfl
theorem Zui:List.findIdx? id [false,false,false,true,false,false,false,false,false,false,false,false,false,false,false]=some 3:=rfl
end
end DL
end
section
namespace CB
open PySem PySem.Spec L2 DL
noncomputable def Zaz:Sv:=(Zap (e2 dSub (e2 dMul (e2 dIx (Zg 0) (eC (.int 0))) (e2 dIx (Zg 1) (eC (.int 1)))) (e2 dMul (e2 dIx (Zg 0) (eC (.int 1))) (e2 dIx (Zg 1) (eC (.int 0))))))
noncomputable def F_crossed:List D->Sto->Out D:=fnF Zaz 2 0
noncomputable def Zbd:Sv:=(Zz (ZJ (gNm 5) (e2 dDiv (Zg 1) (Zg 2)))
 (Zz (Ze5 1 2 (Zc (Zg 2) (Zc (e2 dSub (Zg 1) (e2 dMul (Zg 5) (Zg 2))) aNil)))
 (Ze5 3 4 (Zc (Zg 4) (Zc (Zah (Zc (e2 dSub (e2 dIx (Zg 3) (eC (.int 0))) (e2 dMul (Zg 5) (e2 dIx (Zg 4) (eC (.int 0))))) (Zc (e2 dSub (e2 dIx (Zg 3) (eC (.int 1))) (e2 dMul (Zg 5) (e2 dIx (Zg 4) (eC (.int 1))))) aNil))) aNil)))))
noncomputable def Zcr:Sv:=(Zz (ZJ (gTp (gCs (gNm 1) (gCs (gNm 2) gNl))) (Zg 0))
 (Zz (ZJ (gTp (gCs (gNm 3) (gCs (gNm 4) gNl))) (Zah (Zc (Zah (Zc (eC (.int 0)) (Zc (eC (.int 1)) aNil))) (Zc (Zah (Zc (Zb3 (eC (.int 1))) (Zc (eC (.int 0)) aNil))) aNil))))
 (Zz (sWh (tv (e2 dNe (Zg 2) (eC (.int 0)))) Zbd)
 (Zap (Zah (Zc (e2 dMul (Zg 1) (e2 dIx (Zg 3) (eC (.int 0)))) (Zc (e2 dMul (Zg 1) (e2 dIx (Zg 3) (eC (.int 1)))) aNil)))))))
noncomputable def F_partner:List D->Sto->Out D:=fnF Zcr 1 5
noncomputable def ZaN:Sv:=(Zz (ZJ (gNm 2) (Zk F_partner (Zc (Zg 0) aNil)))
 (Zz (ZJ (gNm 3) (e2 dDiv (Zk F_crossed (Zc (Zg 2) (Zc (Zg 1) aNil))) (Zk F_crossed (Zc (Zg 0) (Zc (Zg 1) aNil)))))
 (Zap (Zah (Zc (e2 dSub (e2 dIx (Zg 2) (eC (.int 0))) (e2 dMul (Zg 3) (e2 dIx (Zg 0) (eC (.int 0))))) (Zc (e2 dSub (e2 dIx (Zg 2) (eC (.int 1))) (e2 dMul (Zg 3) (e2 dIx (Zg 0) (eC (.int 1))))) aNil))))))
noncomputable def F_first_behind:List D->Sto->Out D:=fnF ZaN 2 2
end CB
end
section
namespace DL
theorem Zjc {a b:Int} (h:b≠0):(a - a.fdiv b * b).natAbs < b.natAbs:=by
 have e:a - a.fdiv b * b=a.fmod b:=by rw[Int.fmod_def,Int.mul_comm]
 rw[e]
 by_cases c:0 < b
 ·have h1:=Int.fmod_lt_of_pos a c
  have h2:0<=a.fmod b:=by rw[Int.fmod_eq_emod_of_nonneg _ (by omega)];exact Int.emod_nonneg _ h
  omega
 ·have e2:a.fmod b= -((-a).fmod (-b)):=by rw[Int.neg_fmod_neg];omega
  have h1:=Int.fmod_lt_of_pos (-a) (show 0 < -b by omega)
  have h2:0<=(-a).fmod (-b):=by rw[Int.fmod_eq_emod_of_nonneg _ (by omega)];exact Int.emod_nonneg _ (by omega)
  omega
theorem Zmm {a b:Int} (h:b≠0):(a.fdiv b).natAbs<=a.natAbs + 1:=by
 have h1:=Zjc (a:=a) h
 generalize hr:a - a.fdiv b * b=r at h1
 have h2:(a.fdiv b * b).natAbs<=a.natAbs + r.natAbs:=by omega
 rw[Int.natAbs_mul] at h2
 apply Classical.byContradiction
 intro c
 have h3:(a.natAbs + 2) * b.natAbs<=(a.fdiv b).natAbs * b.natAbs:=Nat.mul_le_mul_right _ (by omega)
 have h4:a.natAbs * 1<=a.natAbs * b.natAbs:=Nat.mul_le_mul_left _ (by omega)
 rw[Nat.add_mul] at h3
 omega
noncomputable def hj (t b:Int):List Int:=if h:0 < b then -((-t) / b) :: hj b (-((-t) / b) * b - t) else []
termination_by b.toNat
decreasing_by
 have h1:=Int.emod_nonneg (-t) (show b≠0 by omega)
 have h2:=Int.emod_lt_of_pos (-t) h
 have h3:=Int.emod_add_mul_ediv (-t) b
 rw[Int.neg_mul,Int.mul_comm]
 omega
theorem Zjd {t b:Int} (h:0 < b):0<= -((-t) / b) * b - t/\ -((-t) / b) * b - t < b:=by
 have h1:=Int.emod_nonneg (-t) (show b≠0 by omega)
 have h2:=Int.emod_lt_of_pos (-t) h
 have h3:=Int.emod_add_mul_ediv (-t) b
 rw[Int.neg_mul,Int.mul_comm]
 omega
end DL
namespace CB
open PySem PySem.Spec L2 DL
section
variable {Q:D->Sto->Prop} {E:Str->Sto->Prop} {M:Sto} {a b c d i:Int} {n m:Nat} {u v w:Pt}
noncomputable abbrev Bd (b:Int) (p:Pt):Prop:=(-b<=p.1/\p.1<=b)/\ -b<=p.2/\p.2<=b
theorem Zpp {j:Int} (h:j≠0/\ -(18446744073709551616) < j/\j < 18446744073709551616):wO (dDiv (.int i) (.int j) M) Q E=Q (.int (i.fdiv j)) M:=by
 have:Zbi j:=by
  refine ⟨h.1,?_⟩
  have:j.natAbs.log2 < 65:=(Nat.log2_lt (by omega)).mpr (by omega)
  omega
 show wO (if Zbi j then _ else _) Q E=_
 rw[if_pos this];rfl
theorem Zje (hg:Int.gcd u.1 u.2=1) (hb:Bd 1000000 u) (q: ∀ w:Pt,X u w=1->Q (pr w.1 w.2) M):wO (F_partner [pr u.1 u.2] M) Q E:=by
 simp![F_partner,Zcr]
 refine ZrE (fun k ρ M'=>M'=M/\ ∃ (h l:Int) (f s:Pt) (x:Option D),ρ=[some (pr u.1 u.2),some (.int h),some (.int l),some (pr f.1 f.2),some (pr s.1 s.2),x]/\k=l.natAbs/\Int.gcd h l=1/\(-1000000<=h/\h<=1000000)/\(-1000000<=l/\l<=1000000)/\X u f=h/\X u s=l) ?_ u.2.natAbs _ _ ⟨rfl,u.1,u.2,(0,1),(-1,0),_,rfl,rfl,hg,hb.1,hb.2,by simp[X],by simp[X]⟩
 rintro k ρ M ⟨rfl,h,l,f,s,x,rfl,rfl,g,hh,hl,e1,e2⟩
 simp![ZF]
 refine ZrF (fun hl0=> ?_) (fun hl0=> ?_)
 ·have f1:=Zjc (a:=h) hl0
  have f2:=Zmm (a:=h) hl0
  simp![Zbd,Zpp]
  refine ⟨(h - h.fdiv l * l).natAbs,f1,l,h - h.fdiv l * l,s,(f.1 - h.fdiv l * s.1,f.2 - h.fdiv l * s.2),_,rfl,rfl,?_,hl,by omega,e2,?_⟩
  ·rw[Int.gcd_sub_mul_right_right,Int.gcd_comm]
   exact g
  ·unfold X at *
   simp only
   grind
 ·subst hl0
  rw[Int.gcd_zero_right] at g
  simp![ZF]
  have:=q (h * f.1,h * f.2) (by
   have hh2:h * h=1:=by
    have:h=1\/h= -1:=by omega
    rcases this with z | z<;>rw[z]<;>rfl
   unfold X at *
   simp only
   grind)
  exact this
theorem Za7 (h:Bd 1000000 u\/Bd 1000000 v):wO (F_crossed [pr u.1 u.2,pr v.1 v.2] M) Q E=Q (.int (X u v)) M:=by
 rcases h with h | h
 ·simp![F_crossed,Zaz]
  rfl
 ·simp![F_crossed,Zaz]
  rfl
structure Wg (u v:Pt):Prop where
 gu:Int.gcd u.1 u.2=1
 gv:Int.gcd v.1 v.2=1
 bu:Bd 1000 u
 bv:Bd 1000 v
 pos:0 < X u v
theorem Wg.le (h:Wg u v):X u v<=2000000:=by
 obtain ⟨_,_,⟨⟨a1,a2⟩,a3,a4⟩,⟨⟨b1,b2⟩,b3,b4⟩,_⟩:=h
 have m: ∀ x y:Int,-1000<=x->x<=1000-> -1000<=y->y<=1000->(x * y).natAbs<=1000 * 1000:=by
  intro x y _ _ _ _
  rw[Int.natAbs_mul]
  exact Nat.mul_le_mul (by omega) (by omega)
 have p1:=m u.1 v.2 a1 a2 b3 b4
 have p2:=m u.2 v.1 a3 a4 b1 b2
 unfold X
 omega
theorem ZdN (h:Wg u v) (q: ∀ w:Pt,X u w=1->0<=X w v->X w v < X u v->Q (pr w.1 w.2) M):wO (F_first_behind [pr u.1 u.2,pr v.1 v.2] M) Q E:=by
 have bu:Bd 1000000 u:=by have:=h.bu;unfold Bd at *;omega
 have bv:Bd 1000000 v:=by have:=h.bv;unfold Bd at *;omega
 have hp:=h.pos
 have hl:=h.le
 simp![F_first_behind,ZaN]
 refine Zje h.gu bu fun w e=> ?_
 simp![Za7 (u:=w) (v:=v) (.inr bv),Za7 (u:=u) (v:=v) (.inr bv)]
 have m1:=Int.emod_nonneg (X w v) (show X u v≠0 by omega)
 have m2:=Int.emod_lt_of_pos (X w v) hp
 have m3:=Int.emod_add_mul_ediv (X w v) (X u v)
 generalize X w v / X u v=k at *
 have e3:X (w.1 - k * u.1,w.2 - k * u.2) v=X w v % X u v:=by
  have:X (w.1 - k * u.1,w.2 - k * u.2) v=X w v - X u v * k:=by unfold X;simp only;grind
  omega
 exact q (w.1 - k * u.1,w.2 - k * u.2) (by unfold X at *;simp only;grind) (by omega) (by omega)
structure Fb (u v w:Pt):Prop where
 one:X u w=1
 lo:0<=X w v
 hi:X w v < X u v
theorem Fb.uniq {w w':Pt} (h:Fb u v w) (k:Fb u v w'):w=w':=by
 obtain ⟨h1,a1,a2⟩:=h
 obtain ⟨h2,b1,b2⟩:=k
 have e1:w'.1=X w' w * u.1 + w.1/\w'.2=X w' w * u.2 + w.2:=by unfold X at *;constructor<;>grind
 have e2:X w' v=X w' w * X u v + X w v:=by
  have:X w' v=X (X w' w * u.1 + w.1,X w' w * u.2 + w.2) v:=by rw[<- e1.1,<- e1.2]
  rw[this]
  unfold X
  simp only
  grind
 generalize X w' w=k at *
 have k0:k=0:=by
  apply Classical.byContradiction
  intro c
  by_cases p:1<=k
  ·have:1 * X u v<=k * X u v:=Int.mul_le_mul_of_nonneg_right p (by omega)
   omega
  ·have:k * X u v<=(-1) * X u v:=Int.mul_le_mul_of_nonneg_right (by omega) (by omega)
   omega
 rw[k0] at e1
 apply Prod.ext<;>omega
theorem ZrI (h:Wg u v): ∃ w,Fb u v w:=by
 obtain ⟨d,M',_,w,hw⟩:=ZkP (ZdN (M:=[]) (Q:=fun _ _=> ∃ w,Fb u v w) h fun w a b c=>⟨w,a,b,c⟩)
 exact ⟨w,hw⟩
noncomputable def btw:Pt->Pt->List Int->List Pt
 |_,_,[]=>[]
 |a,r,k :: ks=>r :: btw r (k * r.1 - a.1,k * r.2 - a.2) ks
end
end CB
end
section
namespace CB
open PySem PySem.Spec L2 DL
section
variable {Q:D->Sto->Prop} {E:Str->Sto->Prop} {M:Sto} {a b c d i:Int} {n m:Nat} {u v w:Pt}
noncomputable def Ch:List Pt->Prop
 |a :: b :: r=>X a b=1/\Ch (b :: r)
 |_=>True
theorem ZrJ: ∀ (n:Nat) (t b:Int) (a r v:Pt),b.toNat=n->0<=b->b < t->X a r=1->X a v=t->X r v=b->Int.gcd v.1 v.2=1->Ch (a :: (btw a r (hj t b) ++ [v])):=by
 intro n
 induction n using Nat.strongRecOn with
 |ind n ih=>
  intro t b a r v hb h0 ht h1 h2 h3 gv
  unfold hj
  by_cases h:0 < b
  ·rw[dif_pos h]
   have nx:=Zjd (t:=t) h
   generalize hk: -((-t) / b)=k at *
   have q:=ih (k * b - t).toNat (by omega) b (k * b - t) r (k * r.1 - a.1,k * r.2 - a.2) v rfl nx.1 nx.2 (by unfold X at *;simp only;grind) h3 (by unfold X at *;simp only;grind) gv
   rw[btw]
   exact ⟨h1,q⟩
  ·rw[dif_neg h,btw]
   have b0:b=0:=by omega
   have e1:v.1=t * r.1/\v.2=t * r.2:=by unfold X at *;constructor<;>grind
   rw[e1.1,e1.2,Int.gcd_mul_left] at gv
   have t1:t.natAbs=1:=Nat.eq_one_of_mul_eq_one_right gv
   refine ⟨by rw[h2];omega,trivial⟩
theorem Zmn (h:Wg u v) (hw:Fb u v w):Ch (u :: (btw u w (hj (X u v) (X w v)) ++ [v])):=ZrJ _ _ _ u w v rfl hw.lo hw.hi hw.one rfl rfl h.gv
noncomputable def Tr (a b d:Pt):Prop:= ∃ k:Int,2<=k/\a.1 + d.1=k * b.1/\a.2 + d.2=k * b.2
noncomputable def Cv:List Pt->Prop
 |a :: b :: d :: r=>Tr a b d/\Cv (b :: d :: r)
 |_=>True
end
section
variable {u v w:Pt}
end
end CB
end
section
namespace CA
open PySem PySem.Spec L2 DL
end CA
end
section
namespace CA
open PySem PySem.Spec L2 DL
section
variable {Q:D->Sto->Prop} {E:Str->Sto->Prop} {M:Sto} {a b c d i:Int} {n m:Nat} {rs:List Pt}
theorem Gr.up {k:Nat} {M M1:Sto} {o:SO} (h:M[k]?=some o) (g:Gr n M M1) (hk:k≠n):M1[k]?=some o:=by
 rw[g.keep k hk (Zbc h)]
 exact h
end
end CA
end
section
namespace CY
open PySem PySem.Spec L2 DL CA
end CY
end
section
namespace CY
open PySem PySem.Spec L2 DL
section
variable {Q:D->Sto->Prop} {E:Str->Sto->Prop} {M:Sto} {n m:Nat} {rs:List Pt}
end
end CY
end
section
namespace CR
open PySem PySem.Spec L2 DL
end CR
end
section
namespace CR
open PySem PySem.Spec L2 DL
noncomputable abbrev rt (q:Rat):D:=pr q.num (q.den:Int)
section
variable {Q:D->Sto->Prop} {E:Str->Sto->Prop} {M:Sto} {k l:Nat} {p q:Rat}
end
end CR
end
section
namespace CH
open PySem PySem.Spec L2 DL CA CR
end CH
end
section
namespace CH
open PySem PySem.Spec L2 DL
open CR (rt)
section
variable {Q:D->Sto->Prop} {E:Str->Sto->Prop} {M:Sto} {n:Nat}
end
end CH
end
section
namespace CS
open PySem PySem.Spec L2 DL CC CR
end CS
end
section
namespace CS
open PySem PySem.Spec L2 DL
open CR (rt)
section
variable {Q:D->Sto->Prop} {E:Str->Sto->Prop} {M:Sto} {k l:Nat} {p q:Rat}
end
end CS
end
section
namespace CN
open PySem PySem.Spec L2 DL
open CE (F_numbers)
open CC (F_following)
end CN
end
section
namespace CN
open PySem PySem.Spec L2 DL
open CR (rt)
noncomputable def cq (hs:List Rat) (i:Int):Rat:=hs.getD (i % hs.length).toNat 0
noncomputable def dot (xs ys:List Rat):Nat->Rat
 |0=>0
 |n + 1=>dot xs ys n + cq xs n * cq ys n
section
variable {Q:D->Sto->Prop} {E:Str->Sto->Prop} {M:Sto} {k l:Nat} {p q:Rat} {n m:Nat} {rs:List Pt} {hs:List Rat} {i:Int}
end
end CN
end
section
namespace CN
open PySem PySem.Spec L2 DL
open CR (rt)
section
variable {Q:D->Sto->Prop} {E:Str->Sto->Prop} {M:Sto} {k l:Nat} {p q:Rat} {n m:Nat} {rs:List Pt} {hs:List Rat} {i:Int}
end
end CN
end
section
namespace CN
open PySem PySem.Spec L2 DL
open CR (rt)
end CN
end
section
namespace CU
open PySem PySem.Spec L2 DL
open CC (F_ask_smooth)
end CU
end
section
namespace CU
open PySem PySem.Spec L2 DL
open CR (rt)
open CN CS
noncomputable def thr (rs:List Pt) (hs:List Rat):Rat × Rat:=(cq hs 0 * (cy rs 1).2 - cq hs 1 * (cy rs 0).2,cq hs 1 * (cy rs 0).1 - cq hs 0 * (cy rs 1).1)
noncomputable abbrev rp (m:Rat × Rat):D:= .tup [rt m.1,rt m.2]
section
variable {Q:D->Sto->Prop} {E:Str->Sto->Prop} {M:Sto} {k l:Nat} {p q:Rat} {n m o:Nat} {rs:List Pt} {hs xs ys:List Rat} {i:Int}
theorem Zpq (h1:M[n]?=some (.lst (prs rs))) {ss:List Pt} (h2:M[m]?=some (.lst (prs ss))):eqF (k + 3) M (.ref n) (.ref m)=some (decide (rs=ss)):=by
 rw[Zox h1 h2,Zow]
 by_cases e:rs=ss
 ·subst e;simp
 ·rw[decide_eq_false e]
  split<;>rfl
end
end CU
end
section
namespace CV
open PySem PySem.Spec L2 DL
open CR (rt)
open CN CU CS
noncomputable def Kp (M M':Sto):Prop:=M.length<=M'.length/\ ∀ j < M.length,M'[j]?=M[j]?
section
variable {M M' M1 M2:Sto} {o:SO} {j:Nat}
theorem Kp.of (l:M.length<=M'.length) (g: ∀ j < M.length,M'[j]?=M[j]?):Kp M M':=⟨l,g⟩
theorem Kp.get (k:Kp M M') (h:M[j]?=some o):M'[j]?=some o:=(k.2 _ (Zbc h)).trans h
theorem Kp.refl:Kp M M:=⟨Nat.le_refl _,fun _ _=>rfl⟩
theorem Kp.trans (a:Kp M M1) (b:Kp M1 M2):Kp M M2:=⟨Nat.le_trans a.1 b.1,fun j h=>(b.2 j (Nat.lt_of_lt_of_le h a.1)).trans (a.2 j h)⟩
theorem Kp.app {L:Sto}:Kp M (M ++ L):=⟨by simp,fun j h=>Zdm h⟩
end
section
variable {Q:D->Sto->Prop} {E:Str->Sto->Prop} {M:Sto} {k l:Nat} {p q:Rat} {n m o:Nat} {rs:List Pt} {hs xs ys zs u v:List Rat} {i:Int} {f:Ev} {ρ:Ro} {mu mv N:Nat}
end
end CV
end
section
namespace CW
open PySem PySem.Spec L2 DL
open CC (F_law_tags)
open CE (F_numbers)
end CW
end
section
namespace CW
open PySem PySem.Spec L2 DL
open CV
section
variable {Q:D->Sto->Prop} {E:Str->Sto->Prop} {M:Sto} {n m:Nat} {rs:List Pt}
end
end CW
end
section
namespace CB
open PySem PySem.Spec L2 DL
theorem mid {a b p w:Pt} (h1:0 < X a p) (h2:0 < X p b) (h:0 < X a b):in1 w a b=in1 w a p + in1 w p b/\in2 w a b=in2 w a p + in2 w p b:=by
 have e:X a b * X p w=X p b * X a w - X a p * X w b:=by unfold X;grind
 have s:=Zmf (p:=w) (q:=p)
 have k1:0<=X a w->0<=X p b * X a w:=fun z=>Int.mul_nonneg (by omega) z
 have k2:0 < X a w->0 < X p b * X a w:=fun z=>Int.mul_pos h2 z
 have k3:X a w<=0->X p b * X a w<=0:=fun z=>Int.mul_nonpos_of_nonneg_of_nonpos (by omega) z
 have k3':X a w < 0->X p b * X a w < 0:=fun z=>Int.mul_neg_of_pos_of_neg h2 z
 have l1:0<=X w b->0<=X a p * X w b:=fun z=>Int.mul_nonneg (by omega) z
 have l2:0 < X w b->0 < X a p * X w b:=fun z=>Int.mul_pos h1 z
 have l3:X w b<=0->X a p * X w b<=0:=fun z=>Int.mul_nonpos_of_nonneg_of_nonpos (by omega) z
 have l3':X w b < 0->X a p * X w b < 0:=fun z=>Int.mul_neg_of_pos_of_neg h1 z
 have m1:0<=X p w->0<=X a b * X p w:=fun z=>Int.mul_nonneg (by omega) z
 have m2:0 < X p w->0 < X a b * X p w:=fun z=>Int.mul_pos h z
 have m3:X p w<=0->X a b * X p w<=0:=fun z=>Int.mul_nonpos_of_nonneg_of_nonpos (by omega) z
 have m3':X p w < 0->X a b * X p w < 0:=fun z=>Int.mul_neg_of_pos_of_neg h z
 unfold in1 in2
 rw[s]
 generalize X a b * X p w=z at *
 generalize X p b * X a w=y at *
 generalize X a p * X w b=x at *
 generalize X a w=aw at *
 generalize X w b=wb at *
 generalize X p w=pw at *
 constructor
 all_goals
  repeat' split
  all_goals omega
noncomputable def Add (f:Pt->Pt->Nat):Prop:= ∀ a b p,0 < X a p->0 < X p b->0 < X a b->f a b=f a p + f p b
theorem Zuj {w:Pt}:Add (in1 w):=fun _ _ _ h1 h2 h=>(mid h1 h2 h).1
theorem Zuk {w:Pt}:Add (in2 w):=fun _ _ _ h1 h2 h=>(mid h1 h2 h).2
theorem Zpr {f:Pt->Pt->Nat} (hf:Add f): ∀ (n:Nat) (t b:Int) (a r v:Pt),b.toNat=n->0<=b->b < t->X a r=1->X a v=t->X r v=b->cc f (a :: (btw a r (hj t b) ++ [v]))=f a v:=by
 intro n
 induction n using Nat.strongRecOn with
 |ind n ih=>
  intro t b a r v hb h0 ht h1 h2 h3
  unfold hj
  by_cases h:0 < b
  ·rw[dif_pos h]
   have nx:=Zjd (t:=t) h
   generalize hk: -((-t) / b)=k at *
   have q:=ih (k * b - t).toNat (by omega) b (k * b - t) r (k * r.1 - a.1,k * r.2 - a.2) v rfl nx.1 nx.2 (by unfold X at *;simp only;grind) h3 (by unfold X at *;simp only;grind)
   rw[btw,List.cons_append,cc,q]
   exact (hf a v r (by omega) (by omega) (by omega)).symm
  ·rw[dif_neg h,btw]
   simp[cc]
noncomputable def nx1 (a b:Pt):Nat:=if X a b=1 then 0 else 1
theorem Zps: ∀ (l:List Pt),Ch l->cc nx1 l=0
 | [],_=>rfl
 | [_],_=>rfl
 |a :: b :: r,h=>by
  rw[cc,Zps (b :: r) h.2]
  unfold nx1
  rw[if_pos h.1]
noncomputable def fbv (u v:Pt):Pt:= @dite _ (∃ w,Fb u v w) (Classical.propDecidable _) (fun h=>h.choose) (fun _=>(0,0))
theorem ZkX {u v:Pt} (h:Wg u v):Fb u v (fbv u v):=by
 have e:=ZrI h
 unfold fbv
 rw[dif_pos e]
 exact e.choose_spec
noncomputable def seg (u v:Pt):List Pt:=u :: btw u (fbv u v) (hj (X u v) (X (fbv u v) v))
noncomputable def Zf8:List Pt->List Pt
 |a :: b :: r=>seg a b ++ Zf8 (b :: r)
 |_=>[]
noncomputable def Wgs:List Pt->Prop
 |a :: b :: r=>Wg a b/\Wgs (b :: r)
 |_=>True
theorem ZkY {f:Pt->Pt->Nat} (hf:Add f) {u v:Pt} (h:Wg u v):cc f (seg u v ++ [v])=f u v:=by
 have k:=ZkX h
 exact Zpr hf _ _ _ u _ v rfl k.lo k.hi k.one rfl rfl
theorem Zmo {u v:Pt} (h:Wg u v):cc nx1 (seg u v ++ [v])=0:=Zps _ (Zmn h (ZkX h))
theorem Zjf {f g:Pt->Pt->Nat} (hs: ∀ u v,Wg u v->cc f (seg u v ++ [v])=g u v): ∀ (L:List Pt) (z:Pt),Wgs (L ++ [z])->cc f (Zf8 (L ++ [z]) ++ [z])=cc g (L ++ [z])/\ ∃ r,Zf8 (L ++ [z]) ++ [z]=(L ++ [z]).head (by simp) :: r
 | [],z,_=>by simp[Zf8,cc]
 | [a],z,h=>by
  have:=hs a z h.1
  refine ⟨?_,?_⟩
  ·simp only[List.cons_append,List.nil_append,Zf8,List.append_nil,cc]
   rw[this]
   omega
  ·simp[Zf8,seg]
 |a :: b :: L,z,h=>by
  obtain ⟨i1,r,i2⟩:=Zjf hs (b :: L) z h.2
  have:=hs a b h.1
  simp only[List.cons_append,List.head_cons] at i1 i2
  refine ⟨?_,?_⟩
  ·simp only[List.cons_append,Zf8,List.append_assoc,cc]
   rw[i2,Zdq,this,<- i2,i1]
  ·simp only[List.cons_append,Zf8,seg]
   exact ⟨_,rfl⟩
noncomputable def lrd (rs:List Pt):List Pt:=Zf8 (rs ++ rs.take 1)
theorem ZgT: ∀ (L:List Pt),L.length<=(Zf8 L).length + 1
 | []=>by simp
 | [_]=>by simp
 |a :: b :: r=>by
  have:=ZgT (b :: r)
  simp only[Zf8,seg,List.length_append,List.length_cons] at *
  omega
theorem Zjg {a b:Pt} {r:List Pt}: ∃ s,Zf8 (a :: b :: r)=a :: s:=⟨_,rfl⟩
theorem Zf9 {f g:Pt->Pt->Nat} (hs: ∀ u v,Wg u v->cc f (seg u v ++ [v])=g u v) {a:Pt} {r:List Pt} (hr:r≠[]) (h:Wgs (a :: r ++ [a])):cyc f (lrd (a :: r))=cyc g (a :: r):=by
 have k:=(Zjf hs (a :: r) a h).1
 have e:lrd (a :: r)=Zf8 (a :: r ++ [a]):=by simp[lrd]
 obtain ⟨b,r',rfl⟩:=List.exists_cons_of_ne_nil hr
 obtain ⟨s,hs'⟩:=Zjg (a:=a) (b:=b) (r:=r' ++ [a])
 have e2:lrd (a :: b :: r')=a :: s:=by rw[e];simpa using hs'
 rw[e2,ZbS,ZbS]
 have:a :: (s ++ [a])=Zf8 (a :: b :: r' ++ [a]) ++ [a]:=by rw[<- e,e2];simp
 rw[this,k]
 simp
theorem ZrK {rs:List Pt} (hl:rs≠[]) (h:cyc nx1 rs=0) (i:Int):X (cy rs i) (cy rs (i + 1))=1:=by
 have l0:rs.length≠0:=fun z=>hl (List.length_eq_zero_iff.mp z)
 refine Zdp (P:=fun a b=>X a b=1) l0 ?_ i
 intro i h0 h1
 obtain ⟨k,rfl⟩:=Int.eq_ofNat_of_zero_le h0
 have hk:k < rs.length:=by omega
 obtain ⟨L,a,R,e,hL⟩: ∃ L a R,rs=L ++ a :: R/\L.length=k:=⟨rs.take k,rs[k],rs.drop (k + 1),by rw[List.getElem_cons_drop,List.take_append_drop],by simp;omega⟩
 have ca:cy rs k=a:=by rw[e,<- hL];exact Zpg
 have z: ∀ b R',rs ++ rs.take 1=L ++ a :: b :: R'->X a b=1:=by
  intro b R' e2
  unfold cyc at h
  rw[e2] at h
  have:=Zpn (f:=nx1) (L:=L) (a:=a) (b:=b) (R:=R')
  have n0:nx1 a b=0:=by omega
  unfold nx1 at n0
  split at n0
  ·assumption
  ·omega
 rw[ca]
 cases R with
 |cons b R=>
  have cb:cy rs (k + 1)=b:=by rw[e,<- hL];exact Zph
  rw[show ((k:Nat):Int) + 1=(k:Int) + 1 from rfl,cb]
  exact z b (R ++ rs.take 1) (by rw[e];simp)
 |nil=>
  obtain ⟨c,t,ht⟩:=List.exists_cons_of_ne_nil hl
  have cb:cy rs (k + 1)=c:=by
   have lt:=congrArg List.length ht
   have le:=congrArg List.length e
   simp at lt le
   have:=Zf4 (r:=t) (a:=c)
   rw[ht]
   rw[show ((k:Nat):Int) + 1=(t.length:Int) + 1 by omega]
   exact this
  rw[cb]
  refine z c [] ?_
  have:rs.take 1=[c]:=by rw[ht];rfl
  rw[this,e]
  simp
theorem Zmp {a:Pt} {r:List Pt} (h2:2<=r.length) (h:Wgs (a :: r ++ [a])) (hF:Fan (a :: r)):Smo (lrd (a :: r)):=by
 have hr:r≠[]:=by intro z;rw[z] at h2;simp at h2
 have ll:=ZgT (a :: r ++ [a])
 have e:lrd (a :: r)=Zf8 (a :: r ++ [a]):=by simp[lrd]
 have l3:3<=(lrd (a :: r)).length:=by rw[e];simp at ll ⊢;omega
 have ne:lrd (a :: r)≠[]:=by intro z;rw[z] at l3;simp at l3
 refine ⟨l3,?_,?_⟩
 ·refine ZrK ne ?_
  rw[Zf9 (f:=nx1) (g:=fun _ _=>0) (fun u v w=>Zmo w) hr h]
  have: ∀ L:List Pt,cc (fun _ _=>0) L=0:=by
   intro L
   induction L with
   |nil=>rfl
   |cons x L ih=>
    cases L with
    |nil=>rfl
    |cons y L=>simp only[cc,ih]
  unfold cyc
  exact this _
 ·intro w hw
  rw[Zf9 (fun u v z=>ZkY Zuj z) hr h,Zf9 (fun u v z=>ZkY Zuk z) hr h]
  exact hF w hw
end CB
end
section
namespace CL
open PySem PySem.Spec L2 DL
open CC (F_following)
end CL
end
section
namespace CL
open PySem PySem.Spec L2 DL
open CV CB
section
variable {Q:D->Sto->Prop} {E:Str->Sto->Prop} {M:Sto} {n:Nat}
end
end CL
end
section
namespace TW
open DL
noncomputable def nx (b:Int) (p q:Pt):Pt:=(0 - b * q.1 - p.1,0 - b * q.2 - p.2)
noncomputable def run (p q:Pt):List Int->Pt × Pt
 | []=>(p,q)
 |b :: bs=>run q (nx b p q) bs
noncomputable def ew (p q:Pt):Nat:=in1 (1,0) p q + in1 (-1,0) p q
noncomputable def st (a:Pt):Int:=if 0 < a.2\/(a.2=0/\a.1 < 0) then 1 else 0
end TW
end
section
namespace TW
open DL
section
variable {rs:List Pt}
noncomputable def Zul (rs:List Pt):Int->Nat->List Int
 |_,0=>[]
 |i,k + 1=>T rs (i + 1) :: Zul rs (i + 1) k
noncomputable def sf (f:Pt->Pt->Nat) (rs:List Pt):Int->Nat->Nat
 |_,0=>0
 |i,k + 1=>f (cy rs i) (cy rs (i + 1)) + sf f rs (i + 1) k
theorem ZrL {f:Pt->Pt->Nat} (hn:rs≠[]): ∀ (k i:Nat),i + k=rs.length->cc f ((rs ++ rs.take 1).drop i)=sf f rs i k:=by
 have l0:0 < rs.length:=List.length_pos_iff.mpr hn
 have ga: ∀ i:Nat,i<=rs.length->(rs ++ rs.take 1)[i]?=some (cy rs i):=by
  intro i hi
  by_cases c:i < rs.length
  ·rw[List.getElem?_append_left c,ZbX (by omega),Zco (by omega),List.getElem?_eq_getElem c]
   simp
  ·have:i=rs.length:=by omega
   subst this
   rw[List.getElem?_append_right (Nat.le_refl _),Nat.sub_self,<- Zd5,Int.sub_self,ZbX (by omega),Zco (by omega)]
   rw[List.getElem?_take_of_lt (by decide),List.getElem?_eq_getElem (by omega)]
   simp
 have lch:(rs ++ rs.take 1).length=rs.length + 1:=by simp;omega
 have dr: ∀ i:Nat,i<=rs.length->(rs ++ rs.take 1).drop i=cy rs i :: (rs ++ rs.take 1).drop (i + 1):=by
  intro i hi
  rw[List.drop_eq_getElem_cons (by omega)]
  have:=ga i hi
  rw[List.getElem?_eq_getElem (by omega)] at this
  rw[Option.some.inj this]
 intro k
 induction k with
 |zero=>
  intro i hi
  rw[dr i (by omega),List.drop_eq_nil_of_le (by omega)]
  rfl
 |succ k ih=>
  intro i hi
  have:=ih (i + 1) (by omega)
  rw[dr i (by omega)]
  rw[dr (i + 1) (by omega)] at this ⊢
  rw[cc,this,sf]
  rfl
theorem Zpt {f:Pt->Pt->Nat} (hn:rs≠[]):cyc f rs=sf f rs 0 rs.length:=by
 have:=ZrL (f:=f) hn rs.length 0 (by omega)
 exact this
end
end TW
end
section
end
section
namespace CT
open PySem PySem.Spec L2 DL
end CT
end
section
namespace CT
open PySem PySem.Spec L2 DL
open CV TW
section
variable {Q:D->Sto->Prop} {E:Str->Sto->Prop} {M:Sto} {n m:Nat} {L:List Int}
noncomputable def Cl (L:List Int):Prop:=run (1,0) (0,1) L=((1,0),(0,1))
noncomputable instance (L:List Int):Decidable (Cl L):=by unfold Cl;infer_instance
end
end CT
end
section
namespace CT
open PySem PySem.Spec L2 DL
open CV
open TW (nx)
section
variable {Q:D->Sto->Prop} {E:Str->Sto->Prop} {M:Sto} {n m:Nat} {L:List Int}
noncomputable def Bg (k:Nat) (p:Pt):Prop:=p.1.natAbs < 2 ^ k/\p.2.natAbs < 2 ^ k
theorem Bg.up {k l:Nat} {p:Pt} (h:Bg k p) (hl:k<=l):Bg l p:=⟨Nat.lt_of_lt_of_le h.1 (Nat.pow_le_pow_right (by decide) hl),Nat.lt_of_lt_of_le h.2 (Nat.pow_le_pow_right (by decide) hl)⟩
end
end CT
end
section
namespace DL
open CB (mid Wg Wgs Bd)
section
variable {rs:List Pt} {k:Nat}
theorem Zkl {f:Pt->Pt->Nat} (hl:rs≠[]) (h:cyc f rs=0) (i:Int):f (cy rs i) (cy rs (i + 1))=0:=by
 have l0:rs.length≠0:=fun z=>hl (List.length_eq_zero_iff.mp z)
 refine Zdp (P:=fun a b=>f a b=0) l0 ?_ i
 intro i h0 h1
 rw[TW.Zpt hl] at h
 have: ∀ (k:Nat) (j:Int),TW.sf f rs j k=0-> ∀ m:Nat,m < k->f (cy rs (j + m)) (cy rs (j + m + 1))=0:=by
  intro k
  induction k with
  |zero=>intro j _ m hm;omega
  |succ k ih=>
   intro j h m hm
   rw[TW.sf] at h
   cases m with
   |zero=>
    rw[show j + ((0:Nat):Int)=j by omega]
    omega
   |succ m=>
    have:=ih (j + 1) (by omega) m (by omega)
    rw[show j + ((m + 1:Nat):Int)=j + 1 + m by omega]
    exact this
 have:=this rs.length 0 h i.toNat (by omega)
 rw[show (0:Int) + (i.toNat:Nat)=i by omega] at this
 exact this
noncomputable def nxp (a b:Pt):Nat:=if 0 < X a b then 0 else 1
theorem Zpu {a b:Pt} (h:nxp a b=0):0 < X a b:=by
 unfold nxp at h
 split at h
 ·assumption
 ·omega
structure Rn (rs:List Pt):Prop where
 len:3<=rs.length
 ps:cyc nxp rs=0
 gc: ∀ p∈rs,Int.gcd p.1 p.2=1
 fan:Fan rs
theorem Rn.ne (h:Rn rs):rs≠[]:=by
 intro z
 have:=h.len
 rw[z] at this
 simp at this
theorem Rn.pos (h:Rn rs) (i:Int):0 < X (cy rs i) (cy rs (i + 1)):=Zpu (Zkl h.ne h.ps i)
theorem Rn.wgs (h:Rn rs) (hb:Nr 200 rs):Wgs (rs ++ rs.take 1):=by
 have key: ∀ (L:List Pt),(∀ A a b R,L=A ++ a :: b :: R->0 < X a b)->(∀ p∈L,Int.gcd p.1 p.2=1/\Bd 1000 p)->Wgs L:=by
  intro L
  induction L with
  |nil=>intro _ _;exact trivial
  |cons a L ih=>
   intro hp hg
   cases L with
   |nil=>exact trivial
   |cons b L=>
    refine ⟨⟨(hg a (by simp)).1,(hg b (by simp)).1,(hg a (by simp)).2,(hg b (by simp)).2,hp [] a b L rfl⟩,ih (fun A x y R e=>hp (a :: A) x y R (by rw[e];rfl)) fun p hp'=>hg p (by simp at hp' ⊢;simp[hp'])⟩
 refine key _ ?_ ?_
 ·intro A a b R e
  have hz:=h.ps
  unfold cyc at hz
  rw[e] at hz
  have:=Zpn (f:=nxp) (L:=A) (a:=a) (b:=b) (R:=R)
  exact Zpu (by omega)
 ·intro p hp
  have hp':p∈rs:=by
   rcases List.mem_append.mp hp with hp | hp
   ·exact hp
   ·exact List.mem_of_mem_take hp
  have:=hb p hp'
  exact ⟨h.gc p hp',by unfold Bd;omega⟩
theorem Rn.least (h:Rn rs) (hb:Nr 200 rs):Smo (CB.lrd rs):=by
 obtain ⟨a,r,rfl⟩:=List.exists_cons_of_ne_nil h.ne
 exact CB.Zmp (by have:=h.len;simp at this;omega) (by have:=h.wgs hb;simpa using this) h.fan
end
end DL
end
section
end
section
namespace DL
open TW
open CT (Cl)
section
variable {rs us:List Pt}
end
end DL
end
section
namespace CB
open DL
section
variable {u v w:Pt}
noncomputable def kl:List Pt->List Int
 |a :: b :: d :: r=>X a d :: kl (b :: d :: r)
 |_=>[]
theorem Xvv (p:Pt):X p p=0:=by unfold X;grind
theorem ZrM: ∀ (r:List Pt) (a b:Pt) (v:Pt),Ch (a :: b :: r)->Cv (a :: b :: r)->(b :: r).getLast (by simp)=v->0<=X b v/\X b v < X a v
 | [],a,b,v,h,_,e=>by
  have:b=v:=e
  subst this
  rw[Xvv,h.1]
  omega
 |c :: r,a,b,v,h,k,e=>by
  have ih:=ZrM r b c v h.2 k.2 (by rw[<- e];simp[List.getLast_cons])
  obtain ⟨m,m2,e1,e2⟩:=k.1
  have ex:X a v + X c v=m * X b v:=by unfold X;grind
  have:2 * X b v<=m * X b v:=Int.mul_le_mul_of_nonneg_right m2 (by omega)
  omega
theorem Zmq {t b k c:Int} (hb:0 < b) (h0:0<=c) (h1:c < b) (e:t + c=k * b): -((-t) / b)=k:=by
 have: -t=c + b * (-k):=by grind
 rw[this,Int.add_mul_ediv_left _ _ (by omega),Int.ediv_eq_zero_of_lt h0 h1]
 omega
theorem only: ∀ (ws:List Pt) (u v w:Pt),Ch (u :: (ws ++ [v]))->Cv (u :: (ws ++ [v]))->Fb u v w->ws=btw u w (hj (X u v) (X w v))/\kl (u :: (ws ++ [v]))=hj (X u v) (X w v)
 | [],u,v,w,h,k,f=>by
  have h1:X u v=1:=h.1
  have l:=f.lo
  have l2:=f.hi
  have w0:X w v=0:=by omega
  rw[w0]
  unfold hj
  rw[dif_neg (by decide)]
  exact ⟨rfl,rfl⟩
 |x :: ws,u,v,w,h,k,f=>by
  have hl:(x :: (ws ++ [v])).getLast (by simp)=v:=by simp[List.getLast_cons]
  have d:=ZrM (ws ++ [v]) u x v h k hl
  have fx:Fb u v x:=⟨h.1,d.1,d.2⟩
  have ew:=fx.uniq f
  subst ew
  obtain ⟨y,R,eR⟩: ∃ y R,ws ++ [v]=y :: R:=by
   cases ws with
   |nil=>exact ⟨v,[],rfl⟩
   |cons y R=>exact ⟨y,R ++ [v],rfl⟩
  have h':Ch (x :: y :: R):=by rw[<- eR];exact h.2
  have kk:Cv (u :: x :: y :: R):=by rw[<- eR];exact k
  have hl2:(y :: R).getLast (by simp)=v:=by
   have:(ws ++ [v]).getLast (by simp)=v:=by simp
   simpa [eR] using this
  have d2:=ZrM R x y v h' kk.2 hl2
  obtain ⟨m,m2,e1,e2⟩:=kk.1
  have ex:X u v + X y v=m * X x v:=by unfold X;grind
  have hc:=Zmq (by omega) d2.1 d2.2 ex
  have ey:(m * x.1 - u.1,m * x.2 - u.2)=y:=by apply Prod.ext<;>simp only<;>omega
  have m3:X u y=m:=by
   have:=h.1
   rw[<- ey]
   unfold X at *
   simp only
   grind
  have fy:Fb x v y:=⟨h'.1,d2.1,d2.2⟩
  have ih:=only ws x v y (by rw[eR];exact h') (by rw[eR];exact kk.2) fy
  have ej:hj (X u v) (X x v)=m :: hj (X x v) (X y v):=by
   rw[hj,dif_pos (by omega),hc]
   congr 2
   omega
  rw[ej]
  constructor
  ·rw[btw,ey,<- ih.1]
  ·show kl (u :: x :: (ws ++ [v]))=_
   rw[eR,kl,m3,<- eR,ih.2]
end
end CB
end
section
namespace CD
open PySem PySem.Spec L2 DL
open CC (F_ask_smooth)
end CD
end
section
namespace CD
open PySem PySem.Spec L2 DL
open CV
open CB (Bd)
open CR (rt)
section
variable {Q:D->Sto->Prop} {E:Str->Sto->Prop} {M:Sto} {n m p:Nat} {rs:List Pt} {a b c d:Int} {ρ:Ro} {k:Nat} {xs:List D} {tg:Tg} {f:Ev}
noncomputable abbrev tb (a b c d:Int):SO:= .lst [.int a,.int b,.int c,.int d]
end
end CD
end
section
namespace CD
open PySem PySem.Spec L2 DL
open CV
open CB (Bd)
open CR (rt)
section
variable {Q:D->Sto->Prop} {E:Str->Sto->Prop} {M:Sto} {n m p:Nat} {rs:List Pt} {a b c d:Int} {ρ:Ro} {k:Nat} {xs:List D} {tg:Tg} {f:Ev}
end
end CD
end
section
end
section
end
section
end
section
end
section
end
section
end
section
end
section
end
section
end
section
namespace CQ
open PySem PySem.Spec L2 DL
end CQ
end
section
namespace CQ
open PySem PySem.Spec L2 DL
open CV
open CB (Bd)
open CD (tb)
section
variable {Q:D->Sto->Prop} {E:Str->Sto->Prop} {M:Sto} {n m p:Nat} {rs:List Pt} {a b c d:Int}
end
end CQ
end
section
namespace CQ
open PySem PySem.Spec L2 DL
open CV
open CB (Bd)
open CD (tb)
section
variable {Q:D->Sto->Prop} {E:Str->Sto->Prop} {M:Sto} {n m p:Nat} {rs:List Pt} {a b c d:Int}
end
end CQ
end
section
namespace CQ
open PySem PySem.Spec L2 DL
open CV
open CB (Bd)
open CD (tb)
section
variable {Q:D->Sto->Prop} {E:Str->Sto->Prop} {M:Sto} {n m p:Nat} {rs:List Pt} {a b c d:Int}
end
end CQ
end
section
namespace CQ
open PySem PySem.Spec L2 DL
open CV
open CB (Bd)
open CD (tb)
section
variable {Q:D->Sto->Prop} {E:Str->Sto->Prop} {M:Sto} {n m p:Nat} {rs:List Pt} {a b c d:Int}
end
end CQ
end
section
namespace CB
open PySem PySem.Spec L2 DL
section
variable {a b c d:Int} {u v w:Pt} {rs:List Pt}
end
end CB
end
section
namespace CX
open PySem PySem.Spec L2 DL
open CE (F_numbers)
open CC (F_following)
noncomputable def ZcK:Sv:=(Zz (ZJ (gNm 2) (ZiS (iSq (Zg 0)) 1 [] (gNm 0) (fun _ M=> .ok true M) (Zg 0) (eC (.bl true))))
 (Zap (Za3 (iZp (Zc (Zk F_numbers (Zc (Zg 1) aNil)) (Zc (Zg 1) aNil))) 2 [2] (gTp (gCs (gNm 0) (gCs (gNm 1) gNl))) (fun _ M=> .ok true M) (Zah (Zc (Zg 0) (Zc (eIf (tv (e2 (Zqk false) (Zg 1) (Zg 2))) (eC (.int 1)) (eC (.int 0))) aNil))))))
noncomputable def F_marked_row:List D->Sto->Out D:=fnF ZcK 2 1
noncomputable def Zbe:Sv:=(sIf (ZhB (tv (e2 dIs (Zg 3) (eC .non))) (tv (e2 dLtL (Zg 9) (Zg 3)))) (Zz (ZJ (gNm 3) (Zg 9))
 (ZJ (gNm 4) (Zah (Zc (Zg 6) (Zc (Zg 10) aNil))))) sNil)
noncomputable def Zbf:Sv:=(Zz (ZJ (gNm 7) (e2 dAdd (eSl (Zg 2) (oSo (Zg 5)) oNo) (eSl (Zg 2) oNo (oSo (Zg 5)))))
 (Zz (ZJ (gNm 8) (e2 dAdd (eSl (Zg 7) oNo (oSo (eC (.int 1)))) (eR0 (Zg 7))))
 (ZjV (gTp (gCs (gNm 9) (gCs (gNm 10) gNl))) (ZbZ (Zc (Zah (Zc (Zg 7) (Zc (Zk F_following (Zc (Zg 1) (Zc (Zg 5) aNil))) aNil))) (Zc (Zah (Zc (Zg 8) (Zc (e2 dIx (Zg 1) (e2 dSub (Zg 5) (eC (.int 1)))) aNil))) aNil))) Zbe)))
end CX
end
section
end
section
end
section
end
section
end
section
end
section
end
section
end
section
end
section
end
section
end
section
namespace K65
open CC (Zaz F_crossed Za5 F_following Z5 ZaC F_unspanned Zaq F_ask_smooth Zby F_law_cell_at Zdr F_law_cross Zbz ZbA ZcA F_law_turn Za6 ZbN F_law_smooth ZcB F_law_tags)
open CE (Zcq F_numbers)
open CX (ZcK F_marked_row Zbe Zbf)
open CF (Zbl Zb6 F_law_rough)
open PySem PySem.Spec L2 DL
noncomputable def top (i:Nat):Stmt:=PySem.Challenge.pw_rayround_k65_ones_refused.main.body.getD i (.Pass ⟨0,0,0,0⟩)
noncomputable def Zjh:List (List Int):=[[1,1,1],[-2,0,2,0],[-1,0,1,0],[0,0,0,0],[-2,-1,-1,1,0],[-1,-1,-1,0,0],[-2,-2,-1,-2,1,0],[-2,-1,-2,-1,0,0],[-2,-1,-1,0,-1,-1],[-1,-1,-1,-1,-1,-1],[-2,-2,-1,-2,0,-1,-1],[-2,-1,-2,-1,-1,-1,-1],[-2,-2,-2,-1,-2,0,-2,-1],[-2,-2,-1,-2,-1,-1,-2,-1],[-2,-1,-2,-1,-2,-1,-2,-1],[-2,-2,-1,-2,-2,-1,-2,-2,-1]]
structure Txt (K:PySem.W.Frag) (mg:Str->Option Value):Prop where
 gl: ∀ c v,PySem.W.nsIn K mainGlobals c=some (some v)->mg c=some v
 b_isinstance:mg "isinstance"=none
 b_int:mg "int"=none
 b_bool:mg "bool"=none
 b_abs:mg "abs"=none
 b_len:mg "len"=none
 b_enumerate:mg "enumerate"=none
 b_range:mg "range"=none
 b_zip:mg "zip"=none
 b_list:mg "list"=none
 b_max:mg "max"=none
 b_min:mg "min"=none
 b_tuple:mg "tuple"=none
 b_ValueError:mg "ValueError"=none
 ex_NotSmooth:Zfc K "NotSmooth"=true
 ex_NoRatio:Zfc K "NoRatio"=true
 ex_NoHeight:Zfc K "NoHeight"=true
 ex_NoWedge:Zfc K "NoWedge"=true
 ex_NoOne:Zfc K "NoOne"=true
 co_ROWS:Zj8 K "ROWS" Zjh=true
 it_NotSmooth:Zaj K "NotSmooth" [(PySem.Str.ofString "NotSmooth",true),(PySem.Str.ofString "NoRatio",false),(PySem.Str.ofString "NoHeight",false),(PySem.Str.ofString "NoWedge",false),(PySem.Str.ofString "NoOne",false)]=true
 it_NoRound:Zaj K "NoRound" [(PySem.Str.ofString "NotSmooth",false),(PySem.Str.ofString "NoRatio",false),(PySem.Str.ofString "NoHeight",false),(PySem.Str.ofString "NoWedge",false),(PySem.Str.ofString "NoOne",false)]=true
 it_NoTurning:Zaj K "NoTurning" [(PySem.Str.ofString "NotSmooth",false),(PySem.Str.ofString "NoRatio",false),(PySem.Str.ofString "NoHeight",false),(PySem.Str.ofString "NoWedge",false),(PySem.Str.ofString "NoOne",false)]=true
 it_NoRatio:Zaj K "NoRatio" [(PySem.Str.ofString "NotSmooth",false),(PySem.Str.ofString "NoRatio",true),(PySem.Str.ofString "NoHeight",false),(PySem.Str.ofString "NoWedge",false),(PySem.Str.ofString "NoOne",false)]=true
 it_NoMinus:Zaj K "NoMinus" [(PySem.Str.ofString "NotSmooth",false),(PySem.Str.ofString "NoRatio",false),(PySem.Str.ofString "NoHeight",false),(PySem.Str.ofString "NoWedge",false),(PySem.Str.ofString "NoOne",false)]=true
 it_NoPlace:Zaj K "NoPlace" [(PySem.Str.ofString "NotSmooth",false),(PySem.Str.ofString "NoRatio",false),(PySem.Str.ofString "NoHeight",false),(PySem.Str.ofString "NoWedge",false),(PySem.Str.ofString "NoOne",false)]=true
 it_NoRow:Zaj K "NoRow" [(PySem.Str.ofString "NotSmooth",false),(PySem.Str.ofString "NoRatio",false),(PySem.Str.ofString "NoHeight",false),(PySem.Str.ofString "NoWedge",false),(PySem.Str.ofString "NoOne",false)]=true
 it_NoWedge:Zaj K "NoWedge" [(PySem.Str.ofString "NotSmooth",false),(PySem.Str.ofString "NoRatio",false),(PySem.Str.ofString "NoHeight",false),(PySem.Str.ofString "NoWedge",true),(PySem.Str.ofString "NoOne",false)]=true
 it_NoBody:Zaj K "NoBody" [(PySem.Str.ofString "NotSmooth",false),(PySem.Str.ofString "NoRatio",false),(PySem.Str.ofString "NoHeight",false),(PySem.Str.ofString "NoWedge",false),(PySem.Str.ofString "NoOne",false)]=true
 it_NoBend:Zaj K "NoBend" [(PySem.Str.ofString "NotSmooth",false),(PySem.Str.ofString "NoRatio",false),(PySem.Str.ofString "NoHeight",false),(PySem.Str.ofString "NoWedge",false),(PySem.Str.ofString "NoOne",false)]=true
 it_NoHeight:Zaj K "NoHeight" [(PySem.Str.ofString "NotSmooth",false),(PySem.Str.ofString "NoRatio",false),(PySem.Str.ofString "NoHeight",true),(PySem.Str.ofString "NoWedge",false),(PySem.Str.ofString "NoOne",false)]=true
 it_NoFour:Zaj K "NoFour" [(PySem.Str.ofString "NotSmooth",false),(PySem.Str.ofString "NoRatio",false),(PySem.Str.ofString "NoHeight",false),(PySem.Str.ofString "NoWedge",false),(PySem.Str.ofString "NoOne",false)]=true
 it_Unknown:Zaj K "Unknown" [(PySem.Str.ofString "NotSmooth",false),(PySem.Str.ofString "NoRatio",false),(PySem.Str.ofString "NoHeight",false),(PySem.Str.ofString "NoWedge",false),(PySem.Str.ofString "NoOne",false)]=true
 it_NoText:Zaj K "NoText" [(PySem.Str.ofString "NotSmooth",false),(PySem.Str.ofString "NoRatio",false),(PySem.Str.ofString "NoHeight",false),(PySem.Str.ofString "NoWedge",false),(PySem.Str.ofString "NoOne",false)]=true
 it_NoOne:Zaj K "NoOne" [(PySem.Str.ofString "NotSmooth",false),(PySem.Str.ofString "NoRatio",false),(PySem.Str.ofString "NoHeight",false),(PySem.Str.ofString "NoWedge",false),(PySem.Str.ofString "NoOne",true)]=true
 ib_ValueError:Zip K "ValueError" [(PySem.Str.ofString "NotSmooth",true),(PySem.Str.ofString "NoRatio",true),(PySem.Str.ofString "NoHeight",true),(PySem.Str.ofString "NoWedge",true),(PySem.Str.ofString "NoOne",true)]=true
 ct_RayError:ZgB K "RayError" [PySem.Str.ofString "NotSmooth",PySem.Str.ofString "NoRatio",PySem.Str.ofString "NoHeight",PySem.Str.ofString "NoWedge",PySem.Str.ofString "NoOne"]=true
section
variable {P:Program} {w:World} {K:PySem.W.Frag} {mg:Str->Option Value} {base:Heap}
noncomputable abbrev ZaT:Stmt:=top 18
noncomputable def Zhi:Sv:=(Zap (ZjM (Znu "int" (Zg 0)) (ZjN (Znu "bool" (Zg 0)))))
noncomputable def F_is_whole:List D->Sto->Out D:=fnF Zhi 1 0
theorem Zga:FnScope ["thing"] ["thing"] (Zh ZaT):=⟨rfl,rfl,rfl,by decide +kernel,rfl,by decide +kernel,by decide +kernel⟩
theorem Zgb {f:Addr} {fd:FuncData} (F:Fun K "is_whole" "is_whole" ZaT f fd) (T:Txt K mg):FnOk P w K mg base (CXE P w) 1 f fd ["thing"] (spD K F_is_whole):=
 ZO F Zga rfl rfl fun cdv A outer s H E hr θ=>(Zi (ZA (Zni (ZkC Zlr T.b_isinstance T.b_int Znz (Zb 0)) (Znh (Znj (ZkC ZjS T.b_isinstance T.b_bool Zlt (Zb 0)))))))
noncomputable abbrev ZM:Stmt:=top 19
noncomputable def ZbO:Sv:=(Ze5 2 3 (Zc (Zg 3) (Zc (e2 dMod (Zg 2) (Zg 3)) aNil)))
noncomputable def Zcs:Sv:=(Zz (Ze5 2 3 (Zc (Zk bAbs (Zc (Zg 0) aNil)) (Zc (Zk bAbs (Zc (Zg 1) aNil)) aNil)))
 (Zz (sWh (tv (e2 dNe (Zg 3) (eC (.int 0)))) ZbO)
 (Zap (Zg 2))))
noncomputable def F_greatest_divisor:List D->Sto->Out D:=fnF Zcs 2 2
theorem Zam:FnScope ["one","other","high","low"] ["one","other"] (Zh ZM):=⟨rfl,rfl,rfl,by decide +kernel,rfl,by decide +kernel,by decide +kernel⟩
theorem Zb7 {f:Addr} {fd:FuncData} (F:Fun K "greatest_divisor" "greatest_divisor" ZM f fd) (T:Txt K mg):FnOk P w K mg base (CXE P w) 101 f fd ["one","other"] (spD K F_greatest_divisor):=
 ZO F Zam rfl rfl fun cdv A outer s H E hr θ=>(Zf (ZbH 2 3 (Zw hr (by decide)) Zam.nd (Za (Zr Zbv Zda T.b_abs Zdf (Za (Zb 0) Zd)) (Za (Zr Zbv Zda T.b_abs Zdf (Za (Zb 1) Zd)) Zd)))
  (Zf (ZbQ θ.own (Zu (Zb0 hr.units) ZdK (Zb 3) Ze) (Zi (ZbH 2 3 (Zw hr (by decide)) Zam.nd (Za (Zb 3) (Za (Z3 (Zb 2) (Zb 3)) Zd)))))
  (Zi (ZA (Zb 2)))))
noncomputable abbrev Zbp:Stmt:=top 21
theorem Zhj:FnScope ["one","other"] ["one","other"] (Zh Zbp):=⟨rfl,rfl,rfl,by decide +kernel,rfl,by decide +kernel,by decide +kernel⟩
theorem Zhk {f:Addr} {fd:FuncData} (F:Fun K "crossed" "crossed" Zbp f fd) (T:Txt K mg):FnOk P w K mg base (CXE P w) 1 f fd ["one","other"] (spD K F_crossed):=
 ZO F Zhj rfl rfl fun cdv A outer s H E hr θ=>(Zi (ZA (ZP (ZD (Zq (Zb 0) Ze) (Zq (Zb 1) Ze)) (ZD (Zq (Zb 0) Ze) (Zq (Zb 1) Ze)))))
noncomputable abbrev Zbq:Stmt:=top 22
noncomputable def Zji:Sv:=(Zap (e2 dAdd (e2 dMul (e2 dIx (Zg 0) (eC (.int 0))) (e2 dIx (Zg 1) (eC (.int 0)))) (e2 dMul (e2 dIx (Zg 0) (eC (.int 1))) (e2 dIx (Zg 1) (eC (.int 1))))))
noncomputable def F_product:List D->Sto->Out D:=fnF Zji 2 0
theorem Zhl:FnScope ["one","other"] ["one","other"] (Zh Zbq):=⟨rfl,rfl,rfl,by decide +kernel,rfl,by decide +kernel,by decide +kernel⟩
theorem Zhm {f:Addr} {fd:FuncData} (F:Fun K "product" "product" Zbq f fd) (T:Txt K mg):FnOk P w K mg base (CXE P w) 1 f fd ["one","other"] (spD K F_product):=
 ZO F Zhl rfl rfl fun cdv A outer s H E hr θ=>(Zi (ZA (ZH (ZD (Zq (Zb 0) Ze) (Zq (Zb 1) Ze)) (ZD (Zq (Zb 0) Ze) (Zq (Zb 1) Ze)))))
noncomputable abbrev ZaD:Stmt:=top 24
theorem Zfo:FnScope ["things","at"] ["things","at"] (Zh ZaD):=⟨rfl,rfl,rfl,by decide +kernel,rfl,by decide +kernel,by decide +kernel⟩
theorem Zfp {f:Addr} {fd:FuncData} (F:Fun K "following" "following" ZaD f fd) (T:Txt K mg):FnOk P w K mg base (CXE P w) 1 f fd ["things","at"] (spD K F_following):=
 ZO F Zfo rfl rfl fun cdv A outer s H E hr θ=>(Zi (ZA (Zq (Zb 0) (Z3 (ZH (Zb 1) Ze) (Zr Zt Zax T.b_len PySem.boot_len (Za (Zb 0) Zd))))))
noncomputable abbrev ZaE:Stmt:=top 25
theorem ZbP:FnScope ["rays","at","ray"] ["rays"] (Zh ZaE):=⟨rfl,rfl,rfl,by decide +kernel,rfl,by decide +kernel,by decide +kernel⟩
theorem Zfq {f:Addr} {fd:FuncData} (F:Fun K "unspanned" "unspanned" ZaE f fd) (T:Txt K mg) (C_following:Cal P w K mg base "following" 1 2 F_following) (C_crossed:Cal P w K mg base "crossed" 1 2 F_crossed):FnOk P w K mg base (CXE P w) 101 f fd ["rays"] (spD K F_unspanned):=
 ZO F ZbP rfl rfl fun cdv A outer s H E hr θ=>(Zf (Zdj θ.own (ZfW (hr.hd (by decide)) T.b_enumerate (Za (Zb 0) Zd)) (Zai (Zw hr (by decide)) (Zp (Zm 1 ZbP.nd) (Zp (Zm 2 ZbP.nd) ZR)) (hlen:=(Zv (Zv (fun _ _ _ h=>ZS h))))) (Zi (Z9 (Zu (Zb0 hr.units) ZdK (Zj C_crossed θ (hr.mono (by decide)) (Za (Zb 2) (Za (Zj C_following θ (hr.mono (by decide)) (Za (Zb 0) (Za (Zb 1) Zd))) Zd))) Ze) (Zi (ZA (Zb 1))) ZG)))
  (Zi (ZA ZbF)))
noncomputable abbrev Zar:Stmt:=top 26
theorem Zct:FnScope ["rays","at"] ["rays"] (Zh Zar):=⟨rfl,rfl,rfl,by decide +kernel,rfl,by decide +kernel,by decide +kernel⟩
theorem ZeA {f:Addr} {fd:FuncData} (F:Fun K "ask_smooth" "ask_smooth" Zar f fd) (T:Txt K mg) (C_unspanned:Cal P w K mg base "unspanned" 101 1 F_unspanned):FnOk P w K mg base (CXE P w) 102 f fd ["rays"] (spD K F_ask_smooth):=
 ZO F Zct rfl rfl fun cdv A outer s H E hr θ=>(Zf (Zl 1 Zct.nd (Zj C_unspanned θ (hr.mono (by decide)) (Za (Zb 0) Zd)))
  (Zi (Z9 (Zu Zii ZjQ (Zb 1) ZbF) (Zi (ZbR θ T.ex_NotSmooth T.gl (hr.hd (by decide)) (Za (ZnX (ZbM ZU (ZbM (ZlL (Zb 1)) (ZbM ZU ZkM)))) Zd))) ZG)))
noncomputable abbrev Za8:Stmt:=top 28
theorem Zhn:FnScope ["rays"] ["rays"] (Zh Za8):=⟨rfl,rfl,rfl,by decide +kernel,rfl,by decide +kernel,by decide +kernel⟩
theorem Zho {f:Addr} {fd:FuncData} (F:Fun K "numbers" "numbers" Za8 f fd) (T:Txt K mg) (C_ask_smooth:Cal P w K mg base "ask_smooth" 102 1 F_ask_smooth) (C_following:Cal P w K mg base "following" 1 2 F_following) (C_crossed:Cal P w K mg base "crossed" 1 2 F_crossed):FnOk P w K mg base (CXE P w) 103 f fd ["rays"] (spD K F_numbers):=
 ZO F Zhn rfl rfl fun cdv A outer s H E hr θ=>(Zf (Zaa (Zj C_ask_smooth θ (hr.mono (by decide)) (Za (Zb 0) Zd)))
  (Zi (ZA (Zbj (ZkH (XN:=["rays"]) (dn:=(Zh Za8).names) (N:=["at","rays"]) (k:=1) (fr:=[0]) rfl rfl rfl rfl (by decide +kernel)) (Zfa T.b_range (Za (Zr Zt Zax T.b_len PySem.boot_len (Za (Zb 0) Zd)) Zd)) (fun _ _ _ _=>(Zm 0 (show List.Nodup (["at","rays"]:List Str) by decide +kernel))) (fun _ _ _ _=>(Or.inl ⟨rfl,rfl⟩)) (fun _ _ _ _=>(Zj C_crossed Zbx (hr.mono (by decide)) (Za (Zj C_following Zbx (hr.mono (by decide)) (Za (Zb 1) (Za (Zb 0) Zd))) (Za (Zq (Zb 1) (ZP (Zb 0) Ze)) Zd))))))))
noncomputable abbrev ZcC:Stmt:=top 30
noncomputable def Zmr:Sv:=(Zz (sIf (ZhB (ZfP (tv (Zk F_is_whole (Zc (Zg 0) aNil)))) (ZfP (tv (Zk F_is_whole (Zc (Zg 1) aNil))))) (ZbL (PySem.Str.ofString "NoRatio") (Zc (eC (.str (PySem.Str.ofString "a ratio is made of two whole numbers"))) aNil)) sNil)
 (Zz (sIf (tv (e2 dEq (Zg 1) (eC (.int 0)))) (ZbL (PySem.Str.ofString "NoRatio") (Zc (eC (.str (PySem.Str.ofString "the bottom of a ratio is not 0"))) aNil)) sNil)
 (Zz (ZJ (gNm 2) (Zk F_greatest_divisor (Zc (Zg 0) (Zc (Zg 1) aNil))))
 (Zz (sIf (tv (e2 dLt (Zg 1) (eC (.int 0)))) (ZJ (gNm 2) (Zb3 (Zg 2))) sNil)
 (Zap (Zah (Zc (e2 dDiv (Zg 0) (Zg 2)) (Zc (e2 dDiv (Zg 1) (Zg 2)) aNil))))))))
noncomputable def F_ratio:List D->Sto->Out D:=fnF Zmr 2 1
theorem ZeB:FnScope ["top","bottom","part"] ["top","bottom"] (Zh ZcC):=⟨rfl,rfl,rfl,by decide +kernel,rfl,by decide +kernel,by decide +kernel⟩
theorem Zkm {f:Addr} {fd:FuncData} (F:Fun K "ratio" "ratio" ZcC f fd) (T:Txt K mg) (C_is_whole:Cal P w K mg base "is_whole" 1 1 F_is_whole) (C_greatest_divisor:Cal P w K mg base "greatest_divisor" 101 2 F_greatest_divisor):FnOk P w K mg base (CXE P w) 102 f fd ["top","bottom"] (spD K F_ratio):=
 ZO F ZeB rfl rfl fun cdv A outer s H E hr θ=>(Zf (Z9 (Zeh (Zeg (Zie (ZdV (Zj C_is_whole θ (hr.mono (by decide)) (Za (Zb 0) Zd)))) (Zcf (Zie (ZdV (Zj C_is_whole θ (hr.mono (by decide)) (Za (Zb 1) Zd))))))) (Zi (ZbR θ T.ex_NoRatio T.gl (hr.hd (by decide)) (Za ZU Zd))) ZG)
  (Zf (Z9 (Zu (ZcG hr.units) Ze1 (Zb 1) Ze) (Zi (ZbR θ T.ex_NoRatio T.gl (hr.hd (by decide)) (Za ZU Zd))) ZG)
  (Zf (Zl 2 ZeB.nd (Zj C_greatest_divisor θ (hr.mono (by decide)) (Za (Zb 0) (Za (Zb 1) Zd))))
  (Zf (Z9 (Zu ZcM ZcP (Zb 1) Ze) (Zi (Zl 2 ZeB.nd (ZW (Zb 2)))) ZG)
  (Zi (ZA (Zx (Za (ZN (Zb 0) (Zb 2)) (Za (ZN (Zb 1) (Zb 2)) Zd)))))))))
noncomputable abbrev ZcD:Stmt:=top 31
noncomputable def Zms:Sv:=(Zap (Zk F_ratio (Zc (e2 dSub (e2 dMul (e2 dIx (Zg 0) (eC (.int 0))) (e2 dIx (Zg 1) (eC (.int 1)))) (e2 dMul (e2 dIx (Zg 1) (eC (.int 0))) (e2 dIx (Zg 0) (eC (.int 1))))) (Zc (e2 dMul (e2 dIx (Zg 0) (eC (.int 1))) (e2 dIx (Zg 1) (eC (.int 1)))) aNil))))
noncomputable def F_minus:List D->Sto->Out D:=fnF Zms 2 0
theorem Zkn:FnScope ["one","other"] ["one","other"] (Zh ZcD):=⟨rfl,rfl,rfl,by decide +kernel,rfl,by decide +kernel,by decide +kernel⟩
theorem Zko {f:Addr} {fd:FuncData} (F:Fun K "minus" "minus" ZcD f fd) (T:Txt K mg) (C_ratio:Cal P w K mg base "ratio" 102 2 F_ratio):FnOk P w K mg base (CXE P w) 103 f fd ["one","other"] (spD K F_minus):=
 ZO F Zkn rfl rfl fun cdv A outer s H E hr θ=>(Zi (ZA (Zj C_ratio θ (hr.mono (by decide)) (Za (ZP (ZD (Zq (Zb 0) Ze) (Zq (Zb 1) Ze)) (ZD (Zq (Zb 1) Ze) (Zq (Zb 0) Ze))) (Za (ZD (Zq (Zb 0) Ze) (Zq (Zb 1) Ze)) Zd)))))
noncomputable abbrev ZcE:Stmt:=top 32
noncomputable def Zmt:Sv:=(Zap (Zk F_ratio (Zc (e2 dMul (e2 dIx (Zg 0) (eC (.int 0))) (e2 dIx (Zg 1) (eC (.int 0)))) (Zc (e2 dMul (e2 dIx (Zg 0) (eC (.int 1))) (e2 dIx (Zg 1) (eC (.int 1)))) aNil))))
noncomputable def F_times:List D->Sto->Out D:=fnF Zmt 2 0
theorem Zkp:FnScope ["one","other"] ["one","other"] (Zh ZcE):=⟨rfl,rfl,rfl,by decide +kernel,rfl,by decide +kernel,by decide +kernel⟩
theorem Zkq {f:Addr} {fd:FuncData} (F:Fun K "times" "times" ZcE f fd) (T:Txt K mg) (C_ratio:Cal P w K mg base "ratio" 102 2 F_ratio):FnOk P w K mg base (CXE P w) 103 f fd ["one","other"] (spD K F_times):=
 ZO F Zkp rfl rfl fun cdv A outer s H E hr θ=>(Zi (ZA (Zj C_ratio θ (hr.mono (by decide)) (Za (ZD (Zq (Zb 0) Ze) (Zq (Zb 1) Ze)) (Za (ZD (Zq (Zb 0) Ze) (Zq (Zb 1) Ze)) Zd)))))
noncomputable abbrev Zd6:Stmt:=top 33
noncomputable def Zpv:Sv:=(Zap (e2 dLt (e2 dMul (e2 dIx (Zg 0) (eC (.int 0))) (e2 dIx (Zg 1) (eC (.int 1)))) (e2 dMul (e2 dIx (Zg 1) (eC (.int 0))) (e2 dIx (Zg 0) (eC (.int 1))))))
noncomputable def F_less:List D->Sto->Out D:=fnF Zpv 2 0
theorem Zmu:FnScope ["one","other"] ["one","other"] (Zh Zd6):=⟨rfl,rfl,rfl,by decide +kernel,rfl,by decide +kernel,by decide +kernel⟩
theorem Zmv {f:Addr} {fd:FuncData} (F:Fun K "less" "less" Zd6 f fd) (T:Txt K mg):FnOk P w K mg base (CXE P w) 1 f fd ["one","other"] (spD K F_less):=
 ZO F Zmu rfl rfl fun cdv A outer s H E hr θ=>(Zi (ZA (Zng ZcM ZcP (ZD (Zq (Zb 0) Ze) (Zq (Zb 1) Ze)) (ZD (Zq (Zb 1) Ze) (Zq (Zb 0) Ze)))))
noncomputable abbrev ZX:Stmt:=top 34
noncomputable def Zcu:Sv:=(ZJ (gNm 1) (e2 dMul (Zg 1) (e2 dDiv (e2 dIx (Zg 2) (eC (.int 1))) (Zk F_greatest_divisor (Zc (Zg 1) (Zc (e2 dIx (Zg 2) (eC (.int 1))) aNil))))))
noncomputable def Zdu:Sv:=(Zz (ZJ (gNm 1) (eC (.int 1)))
 (Zz (ZjV (gNm 2) (Zg 0) Zcu)
 (Zap (Zg 1))))
noncomputable def F_common_bottom:List D->Sto->Out D:=fnF Zdu 1 2
theorem Zal:FnScope ["ones","bottom","one"] ["ones"] (Zh ZX):=⟨rfl,rfl,rfl,by decide +kernel,rfl,by decide +kernel,by decide +kernel⟩
theorem ZcS {f:Addr} {fd:FuncData} (F:Fun K "common_bottom" "common_bottom" ZX f fd) (T:Txt K mg) (C_greatest_divisor:Cal P w K mg base "greatest_divisor" 101 2 F_greatest_divisor):FnOk P w K mg base (CXE P w) 102 f fd ["ones"] (spD K F_common_bottom):=
 ZO F Zal rfl rfl fun cdv A outer s H E hr θ=>(Zf (Zl 1 Zal.nd Ze)
  (Zf (ZdZ θ.own (Zb 0) (Zm 2 Zal.nd) (Zi (Zl 1 Zal.nd (ZD (Zb 1) (ZN (Zq (Zb 2) Ze) (Zj C_greatest_divisor θ (hr.mono (by decide)) (Za (Zb 1) (Za (Zq (Zb 2) Ze) Zd))))))))
  (Zi (ZA (Zb 1)))))
noncomputable abbrev ZaF:Stmt:=top 35
noncomputable def Zgc:Sv:=(Zap (e2 dMul (e2 dIx (Zg 0) (eC (.int 0))) (e2 dDiv (Zg 1) (e2 dIx (Zg 0) (eC (.int 1))))))
noncomputable def F_stretched:List D->Sto->Out D:=fnF Zgc 2 0
theorem Zfr:FnScope ["one","bottom"] ["one","bottom"] (Zh ZaF):=⟨rfl,rfl,rfl,by decide +kernel,rfl,by decide +kernel,by decide +kernel⟩
theorem Zfs {f:Addr} {fd:FuncData} (F:Fun K "stretched" "stretched" ZaF f fd) (T:Txt K mg):FnOk P w K mg base (CXE P w) 1 f fd ["one","bottom"] (spD K F_stretched):=
 ZO F Zfr rfl rfl fun cdv A outer s H E hr θ=>(Zi (ZA (ZD (Zq (Zb 0) Ze) (ZN (Zb 1) (Zq (Zb 0) Ze)))))
noncomputable abbrev Zas:Stmt:=top 37
noncomputable def Zft:Sv:=(sIf (tv (e2 dNe (Zk bLen (Zc (Zg 1) aNil)) (Zk bLen (Zc (Zg 0) aNil)))) (ZbL (PySem.Str.ofString "NoHeight") (Zc (eFs (Zb4 (eC (.str (PySem.Str.ofString "a height of "))) (Zb4 (eFm (Zk bLen (Zc (Zg 0) aNil))) (Zb4 (eC (.str (PySem.Str.ofString " rays has not "))) (Zb4 (eFm (Zk bLen (Zc (Zg 1) aNil))) (Zb4 (eC (.str (PySem.Str.ofString " ratios"))) jNil)))))) aNil)) sNil)
noncomputable def F_ask_height:List D->Sto->Out D:=fnF Zft 2 0
theorem ZeC:FnScope ["rays","height"] ["rays","height"] (Zh Zas):=⟨rfl,rfl,rfl,by decide +kernel,rfl,by decide +kernel,by decide +kernel⟩
theorem ZeD {f:Addr} {fd:FuncData} (F:Fun K "ask_height" "ask_height" Zas f fd) (T:Txt K mg):FnOk P w K mg base (CXE P w) 101 f fd ["rays","height"] (spD K F_ask_height):=
 ZO F ZeC rfl rfl fun cdv A outer s H E hr θ=>(Zi (Z9 (Zu (Zb0 hr.units) ZdK (Zr Zt Zax T.b_len PySem.boot_len (Za (Zb 1) Zd)) (Zr Zt Zax T.b_len PySem.boot_len (Za (Zb 0) Zd))) (Zi (ZbR θ T.ex_NoHeight T.gl (hr.hd (by decide)) (Za (ZnX (ZbM ZU (ZbM (ZlL (Zr Zt Zax T.b_len PySem.boot_len (Za (Zb 0) Zd))) (ZbM ZU (ZbM (ZlL (Zr Zt Zax T.b_len PySem.boot_len (Za (Zb 1) Zd))) (ZbM ZU ZkM)))))) Zd))) ZG))
noncomputable abbrev ZY:Stmt:=top 38
noncomputable def Zdv:Sv:=(Zz (ZJ (gTp (gCs (gTp (gCs (gNm 2) (gCs (gNm 3) gNl))) (gCs (gTp (gCs (gNm 4) (gCs (gNm 5) gNl))) gNl))) (Zah (Zc (e2 dIx (Zg 0) (eC (.int 0))) (Zc (e2 dIx (Zg 0) (eC (.int 1))) aNil))))
 (Zz (Ze5 6 7 (Zc (e2 dIx (Zg 1) (eC (.int 0))) (Zc (e2 dIx (Zg 1) (eC (.int 1))) aNil)))
 (Zap (Zah (Zc (Zk F_minus (Zc (Zk F_times (Zc (Zg 6) (Zc (Zah (Zc (Zg 5) (Zc (eC (.int 1)) aNil))) aNil))) (Zc (Zk F_times (Zc (Zg 7) (Zc (Zah (Zc (Zg 3) (Zc (eC (.int 1)) aNil))) aNil))) aNil))) (Zc (Zk F_minus (Zc (Zk F_times (Zc (Zg 7) (Zc (Zah (Zc (Zg 2) (Zc (eC (.int 1)) aNil))) aNil))) (Zc (Zk F_times (Zc (Zg 6) (Zc (Zah (Zc (Zg 4) (Zc (eC (.int 1)) aNil))) aNil))) aNil))) aNil))))))
noncomputable def F_slope_through:List D->Sto->Out D:=fnF Zdv 2 6
theorem ZQ:FnScope ["rays","height","a","b","c","d","first","second"] ["rays","height"] (Zh ZY):=⟨rfl,rfl,rfl,by decide +kernel,rfl,by decide +kernel,by decide +kernel⟩
theorem ZcT {f:Addr} {fd:FuncData} (F:Fun K "slope_through" "slope_through" ZY f fd) (T:Txt K mg) (C_times:Cal P w K mg base "times" 103 2 F_times) (C_minus:Cal P w K mg base "minus" 103 2 F_minus):FnOk P w K mg base (CXE P w) 104 f fd ["rays","height"] (spD K F_slope_through):=
 ZO F ZQ rfl rfl fun cdv A outer s H E hr θ=>(Zf (ZdY (Zx (Za (Zq (Zb 0) Ze) (Za (Zq (Zb 0) Ze) Zd))) (Zai (Zw hr (by decide)) (Zp (Zai (Zw hr (by decide)) (Zp (Zm 2 ZQ.nd) (Zp (Zm 3 ZQ.nd) ZR)) (hlen:=(Zv (Zv (fun _ _ _ h=>ZS h))))) (Zp (Zai (Zw hr (by decide)) (Zp (Zm 4 ZQ.nd) (Zp (Zm 5 ZQ.nd) ZR)) (hlen:=(Zv (Zv (fun _ _ _ h=>ZS h))))) ZR)) (hlen:=(Zv (Zv (fun _ _ _ h=>ZS h))))))
  (Zf (ZbH 6 7 (Zw hr (by decide)) ZQ.nd (Za (Zq (Zb 1) Ze) (Za (Zq (Zb 1) Ze) Zd)))
  (Zi (ZA (Zx (Za (Zj C_minus θ (hr.mono (by decide)) (Za (Zj C_times θ (hr.mono (by decide)) (Za (Zb 6) (Za (Zx (Za (Zb 5) (Za Ze Zd))) Zd))) (Za (Zj C_times θ (hr.mono (by decide)) (Za (Zb 7) (Za (Zx (Za (Zb 3) (Za Ze Zd))) Zd))) Zd))) (Za (Zj C_minus θ (hr.mono (by decide)) (Za (Zj C_times θ (hr.mono (by decide)) (Za (Zb 7) (Za (Zx (Za (Zb 2) (Za Ze Zd))) Zd))) (Za (Zj C_times θ (hr.mono (by decide)) (Za (Zb 6) (Za (Zx (Za (Zb 4) (Za Ze Zd))) Zd))) Zd))) Zd)))))))
noncomputable abbrev Zdw:Stmt:=top 40
noncomputable def Zjj:Sv:=(Zz (ZJ (gNm 10) (Zk F_crossed (Zc (Zg 3) (Zc (Zg 8) aNil))))
 (Zz (ZJ (gNm 11) (e2 dSub (e2 dMul (e2 dMul (Zk F_crossed (Zc (Zg 8) (Zc (Zg 4) aNil))) (e2 dIx (Zg 5) (eC (.int 0)))) (e2 dIx (Zg 9) (eC (.int 1)))) (e2 dMul (e2 dIx (Zg 9) (eC (.int 0))) (e2 dIx (Zg 5) (eC (.int 1))))))
 (Zz (ZJ (gNm 12) (e2 dMul (e2 dMul (Zg 10) (e2 dIx (Zg 5) (eC (.int 1)))) (e2 dIx (Zg 9) (eC (.int 1)))))
 (Zz (sIf (Zcy (tv (e2 dEq (Zg 10) (eC (.int 0)))) (tv (e2 dGt (Zg 11) (eC (.int 0))))) (Zap (ZbZ aNil)) sNil)
 (Zz (sIf (Zcy (tv (e2 dGt (Zg 10) (eC (.int 0)))) (ZhB (tv (e2 dIs (Zg 6) (eC .non))) (tv (Zk F_less (Zc (Zg 6) (Zc (Zah (Zc (Zg 11) (Zc (Zg 12) aNil))) aNil)))))) (ZJ (gNm 6) (Zah (Zc (Zg 11) (Zc (Zg 12) aNil)))) sNil)
 (sIf (Zcy (tv (e2 dLt (Zg 10) (eC (.int 0)))) (ZhB (tv (e2 dIs (Zg 7) (eC .non))) (tv (Zk F_less (Zc (Zah (Zc (Zb3 (Zg 11)) (Zc (Zb3 (Zg 12)) aNil))) (Zc (Zg 7) aNil)))))) (ZJ (gNm 7) (Zah (Zc (Zb3 (Zg 11)) (Zc (Zb3 (Zg 12)) aNil)))) sNil))))))
noncomputable def Zpw:Sv:=(Zz (ZJ (gTp (gCs (gNm 3) (gCs (gNm 4) gNl))) (Zah (Zc (e2 dIx (Zg 0) (Zg 2)) (Zc (Zk F_following (Zc (Zg 0) (Zc (Zg 2) aNil))) aNil))))
 (Zz (ZJ (gNm 5) (e2 dIx (Zg 1) (Zg 2)))
 (Zz sBad
 (Zz (Zeo (gTp (gCs (gNm 8) (gCs (gNm 9) gNl))) (iZp (Zc (Zg 0) (Zc (Zg 1) aNil))) Zjj)
 (Zz (sIf (tv (Zk F_less (Zc (Zg 7) (Zc (Zg 6) aNil)))) (Zap (ZbZ aNil)) sNil)
 (Zap (Za3 (iSq (Zah (Zc (Zg 6) (Zc (Zg 7) aNil)))) 1 [3,4,5] (gNm 0) (fun _ M=> .ok true M) (Zk F_slope_through (Zc (ZbZ (Zc (Zg 1) (Zc (Zg 2) aNil))) (Zc (ZbZ (Zc (Zah (Zc (Zb3 (e2 dIx (Zg 3) (eC (.int 0)))) (Zc (e2 dIx (Zg 3) (eC (.int 1))) aNil))) (Zc (Zk F_ratio (Zc (e2 dIx (Zg 0) (eC (.int 0))) (Zc (e2 dIx (Zg 0) (eC (.int 1))) aNil))) aNil))) aNil))))))))))
noncomputable def F_edge:List D->Sto->Out D:=fnF Zpw 3 10
theorem Za9:FnScope ["rays","height","at","ray","behind","own","low","high","other","its","across","asked","bottom"] ["rays","height","at"] (Zh Zdw):=⟨rfl,rfl,rfl,by decide +kernel,rfl,by decide +kernel,by decide +kernel⟩
theorem Zmw {f:Addr} {fd:FuncData} (F:Fun K "edge" "edge" Zdw f fd) (T:Txt K mg) (C_following:Cal P w K mg base "following" 1 2 F_following) (C_crossed:Cal P w K mg base "crossed" 1 2 F_crossed) (C_less:Cal P w K mg base "less" 1 2 F_less) (C_ratio:Cal P w K mg base "ratio" 102 2 F_ratio) (C_slope_through:Cal P w K mg base "slope_through" 104 2 F_slope_through):FnOk P w K mg base (CXE P w) 105 f fd ["rays","height","at"] (spD K F_edge):=
 ZO F Za9 rfl rfl fun cdv A outer s H E hr θ=>(Zf (ZdY (Zx (Za (Zq (Zb 0) (Zb 2)) (Za (Zj C_following θ (hr.mono (by decide)) (Za (Zb 0) (Za (Zb 2) Zd))) Zd))) (Zai (Zw hr (by decide)) (Zp (Zm 3 Za9.nd) (Zp (Zm 4 Za9.nd) ZR)) (hlen:=(Zv (Zv (fun _ _ _ h=>ZS h))))))
  (Zf (Zl 5 Za9.nd (Zq (Zb 1) (Zb 2)))
  (Zf Zde
  (Zf (Zdj θ.own (ZiB (hr.hd (by decide)) T.b_zip (Za (Zb 0) (Za (Zb 1) Zd))) (Zai (Zw hr (by decide)) (Zp (Zm 8 Za9.nd) (Zp (Zm 9 Za9.nd) ZR)) (hlen:=(Zv (Zv (fun _ _ _ h=>ZS h))))) (Zf (Zl 10 Za9.nd (Zj C_crossed θ (hr.mono (by decide)) (Za (Zb 3) (Za (Zb 8) Zd))))
  (Zf (Zl 11 Za9.nd (ZP (ZD (ZD (Zj C_crossed θ (hr.mono (by decide)) (Za (Zb 8) (Za (Zb 4) Zd))) (Zq (Zb 5) Ze)) (Zq (Zb 9) Ze)) (ZD (Zq (Zb 9) Ze) (Zq (Zb 5) Ze))))
  (Zf (Zl 12 Za9.nd (ZD (ZD (Zb 10) (Zq (Zb 5) Ze)) (Zq (Zb 9) Ze)))
  (Zf (Z9 (Zeh (ZbY (Zu (ZcG hr.units) Ze1 (Zb 10) Ze) (Zbh (Zu ZcN ZcQ (Zb 11) Ze)))) (Zi (ZA (ZV Zd))) ZG)
  (Zf (Z9 (Zeh (ZbY (Zu ZcN ZcQ (Zb 10) Ze) (Zbh (Zeh (Zeg (Zu ZdX Zha (Zb 6) ZbF) (Zcf (ZdV (Zj C_less θ (hr.mono (by decide)) (Za (Zb 6) (Za (Zx (Za (Zb 11) (Za (Zb 12) Zd))) Zd)))))))))) (Zi (Zl 6 Za9.nd (Zx (Za (Zb 11) (Za (Zb 12) Zd))))) ZG)
  (Zi (Z9 (Zeh (ZbY (Zu ZcM ZcP (Zb 10) Ze) (Zbh (Zeh (Zeg (Zu ZdX Zha (Zb 7) ZbF) (Zcf (ZdV (Zj C_less θ (hr.mono (by decide)) (Za (Zx (Za (ZW (Zb 11)) (Za (ZW (Zb 12)) Zd))) (Za (Zb 7) Zd)))))))))) (Zi (Zl 7 Za9.nd (Zx (Za (ZW (Zb 11)) (Za (ZW (Zb 12)) Zd))))) ZG))))))))
  (Zf (Z9 (ZdV (Zj C_less θ (hr.mono (by decide)) (Za (Zb 7) (Za (Zb 6) Zd)))) (Zi (ZA (ZV Zd))) ZG)
  (Zi (ZA (Zbj (ZkH (XN:=["rays","height","at","ray","behind","own","low","high","other","its","across","asked","bottom"]) (dn:=(Zh Zdw).names) (N:=["end","ray","behind","own"]) (k:=1) (fr:=[3,4,5]) rfl rfl rfl rfl (by decide +kernel)) (ZbJ (Zx (Za (Zb 6) (Za (Zb 7) Zd)))) (fun _ _ _ _=>(Zm 0 (show List.Nodup (["end","ray","behind","own"]:List Str) by decide +kernel))) (fun _ _ _ _=>(Or.inl ⟨rfl,rfl⟩)) (fun _ _ _ _=>(Zj C_slope_through Zbx (hr.mono (by decide)) (Za (ZV (Za (Zb 1) (Za (Zb 2) Zd))) (Za (ZV (Za (Zx (Za (ZW (Zq (Zb 3) Ze)) (Za (Zq (Zb 3) Ze) Zd))) (Za (Zj C_ratio Zbx (hr.mono (by decide)) (Za (Zq (Zb 0) Ze) (Za (Zq (Zb 0) Ze) Zd))) Zd))) Zd))))))))))))
noncomputable abbrev ZaU:Stmt:=top 41
noncomputable def Zhp:Sv:=(Zz sBad
 sBad)
noncomputable def F_in_order:List D->Sto->Out D:=fnF Zhp 1 1
theorem Zgd:FnScope ["points","bottom"] ["points"] (Zh ZaU):=⟨rfl,rfl,rfl,by decide +kernel,rfl,by decide +kernel,by decide +kernel⟩
theorem Zge {f:Addr} {fd:FuncData} (F:Fun K "in_order" "in_order" ZaU f fd) (T:Txt K mg):FnOk P w K mg base (CXE P w) 1 f fd ["points"] (spD K F_in_order):=
 ZO F Zgd rfl rfl fun cdv A outer s H E hr θ=>(Zf Zde
  (Zi Zde))
noncomputable abbrev Zd7:Stmt:=top 42
noncomputable def Zjk:Sv:=(Znw (Zg 2) (Zg 4) (eC (.bl true)))
noncomputable def Zjl:Sv:=(ZjV (gNm 4) (Zk F_edge (Zc (Zg 0) (Zc (Zg 1) (Zc (Zg 3) aNil)))) Zjk)
noncomputable def Zpx:Sv:=(Zz (Zbn (Zk F_ask_smooth (Zc (Zg 0) aNil)))
 (Zz (Zbn (Zk F_ask_height (Zc (Zg 0) (Zc (Zg 1) aNil))))
 (Zz sBad
 (Zz (ZbI (gNm 3) (Zc (Zk bLen (Zc (Zg 0) aNil)) aNil) Zjl)
 (Zap (Zk F_in_order (Zc (Zk bList (Zc (Zg 2) aNil)) aNil)))))))
noncomputable def F_body:List D->Sto->Out D:=fnF Zpx 2 3
theorem Zgf:FnScope ["rays","height","met","at","point"] ["rays","height"] (Zh Zd7):=⟨rfl,rfl,rfl,by decide +kernel,rfl,by decide +kernel,by decide +kernel⟩
theorem Zmx {f:Addr} {fd:FuncData} (F:Fun K "body" "body" Zd7 f fd) (T:Txt K mg) (C_ask_smooth:Cal P w K mg base "ask_smooth" 102 1 F_ask_smooth) (C_ask_height:Cal P w K mg base "ask_height" 101 2 F_ask_height) (C_edge:Cal P w K mg base "edge" 105 3 F_edge) (C_in_order:Cal P w K mg base "in_order" 1 1 F_in_order):FnOk P w K mg base (CXE P w) 106 f fd ["rays","height"] (spD K F_body):=
 ZO F Zgf rfl rfl fun cdv A outer s H E hr θ=>(Zf (Zaa (Zj C_ask_smooth θ (hr.mono (by decide)) (Za (Zb 0) Zd)))
  (Zf (Zaa (Zj C_ask_height θ (hr.mono (by decide)) (Za (Zb 0) (Za (Zb 1) Zd))))
  (Zf Zde
  (Zf (Zbw θ.own T.b_range (Za (Zr Zt Zax T.b_len PySem.boot_len (Za (Zb 0) Zd)) Zd) (Zm 3 Zgf.nd) (Zi (ZdZ θ.own (Zj C_edge θ (hr.mono (by decide)) (Za (Zb 0) (Za (Zb 1) (Za (Zb 3) Zd)))) (Zm 4 Zgf.nd) (Zi (Zny (Zb 2) (Zb 4) ZfO)))))
  (Zi (ZA (Zj C_in_order θ (hr.mono (by decide)) (Za (Zch ZbE ZfQ T.b_list ZfR (Za (Zb 2) Zd)) Zd))))))))
noncomputable abbrev Zb8:Stmt:=top 44
noncomputable def Zmy:Sv:=(Zz (ZJ (gNm 2) (Za3 (iSq (Zg 0)) 1 [1] (gNm 0) (fun _ M=> .ok true M) (Zk F_product (Zc (Zg 0) (Zc (Zg 1) aNil)))))
 (Zap (e2 dSub (Zk (Zcm List.max?) (Zc (Zg 2) aNil)) (Zk (Zcm List.min?) (Zc (Zg 2) aNil)))))
noncomputable def F_width:List D->Sto->Out D:=fnF Zmy 2 1
theorem ZgU:FnScope ["points","ray","given"] ["points","ray"] (Zh Zb8):=⟨rfl,rfl,rfl,by decide +kernel,rfl,by decide +kernel,by decide +kernel⟩
theorem Zkr {f:Addr} {fd:FuncData} (F:Fun K "width" "width" Zb8 f fd) (T:Txt K mg) (C_product:Cal P w K mg base "product" 1 2 F_product):FnOk P w K mg base (CXE P w) 101 f fd ["points","ray"] (spD K F_width):=
 ZO F ZgU rfl rfl fun cdv A outer s H E hr θ=>(Zf (Zes 2 ZgU.nd (ZkH (XN:=["points","ray","given"]) (dn:=(Zh Zb8).names) (N:=["point","ray"]) (k:=1) (fr:=[1]) rfl rfl rfl rfl (by decide +kernel)) (ZbJ (Zb 0)) (fun _ _ _ _=>(Zm 0 (show List.Nodup (["point","ray"]:List Str) by decide +kernel))) (fun _ _ _ _=>(Or.inl ⟨rfl,rfl⟩)) (fun _ _ _ _=>(Zj C_product Zbx (hr.mono (by decide)) (Za (Zb 0) (Za (Zb 1) Zd)))))
  (Zi (ZA (ZP (Zr (Zck (Zw hr (by decide))) Zep T.b_max Ze8 (Za (Zb 2) Zd)) (Zr (Zcl (Zw hr (by decide))) Zeq T.b_min Ze9 (Za (Zb 2) Zd))))))
noncomputable abbrev ZaV:Stmt:=top 45
noncomputable def Zhq:Sv:=(Zap (Zah (Zc (e2 dSub (e2 dIx (Zg 0) (eC (.int 0))) (e2 dMul (Zg 1) (e2 dIx (Zg 2) (eC (.int 0))))) (Zc (e2 dSub (e2 dIx (Zg 0) (eC (.int 1))) (e2 dMul (Zg 1) (e2 dIx (Zg 2) (eC (.int 1))))) aNil))))
noncomputable def F_lessened:List D->Sto->Out D:=fnF Zhq 3 0
theorem Zgg:FnScope ["wide","many","narrow"] ["wide","many","narrow"] (Zh ZaV):=⟨rfl,rfl,rfl,by decide +kernel,rfl,by decide +kernel,by decide +kernel⟩
theorem Zgh {f:Addr} {fd:FuncData} (F:Fun K "lessened" "lessened" ZaV f fd) (T:Txt K mg):FnOk P w K mg base (CXE P w) 1 f fd ["wide","many","narrow"] (spD K F_lessened):=
 ZO F Zgg rfl rfl fun cdv A outer s H E hr θ=>(Zi (ZA (Zx (Za (ZP (Zq (Zb 0) Ze) (ZD (Zb 1) (Zq (Zb 2) Ze))) (Za (ZP (Zq (Zb 0) Ze) (ZD (Zb 1) (Zq (Zb 2) Ze))) Zd)))))
noncomputable abbrev Zat:Stmt:=top 46
noncomputable def Zdx:Sv:=(Zz (ZJ (gNm 5) (e2 dDiv (e2 dAdd (Zg 4) (Zg 3)) (eC (.int 2))))
 (Zz (Ze5 6 7 (Zc (Zk F_lessened (Zc (Zg 1) (Zc (Zg 5) (Zc (Zg 2) aNil)))) (Zc (Zk F_lessened (Zc (Zg 1) (Zc (e2 dAdd (Zg 5) (eC (.int 1))) (Zc (Zg 2) aNil)))) aNil)))
 (sIf (tv (e2 dLe (Zk F_width (Zc (Zg 0) (Zc (Zg 6) aNil))) (Zk F_width (Zc (Zg 0) (Zc (Zg 7) aNil))))) (ZJ (gNm 3) (Zg 5)) (ZJ (gNm 4) (e2 dAdd (Zg 5) (eC (.int 1)))))))
noncomputable def Zfu:Sv:=(Zz (ZJ (gNm 3) (e2 dAdd (e2 dDiv (e2 dMul (eC (.int 2)) (Zk F_width (Zc (Zg 0) (Zc (Zg 1) aNil)))) (Zk F_width (Zc (Zg 0) (Zc (Zg 2) aNil)))) (eC (.int 1))))
 (Zz (ZJ (gNm 4) (Zb3 (Zg 3)))
 (Zz (sWh (tv (e2 dLt (Zg 4) (Zg 3))) Zdx)
 (Zap (Zk F_lessened (Zc (Zg 1) (Zc (Zg 4) (Zc (Zg 2) aNil))))))))
noncomputable def F_least_wide:List D->Sto->Out D:=fnF Zfu 3 5
theorem Z1:FnScope ["points","wide","narrow","high","low","middle","here","onward"] ["points","wide","narrow"] (Zh Zat):=⟨rfl,rfl,rfl,by decide +kernel,rfl,by decide +kernel,by decide +kernel⟩
theorem ZeE {f:Addr} {fd:FuncData} (F:Fun K "least_wide" "least_wide" Zat f fd) (T:Txt K mg) (C_width:Cal P w K mg base "width" 101 2 F_width) (C_lessened:Cal P w K mg base "lessened" 1 3 F_lessened):FnOk P w K mg base (CXE P w) 102 f fd ["points","wide","narrow"] (spD K F_least_wide):=
 ZO F Z1 rfl rfl fun cdv A outer s H E hr θ=>(Zf (Zl 3 Z1.nd (ZH (ZN (ZD Ze (Zj C_width θ (hr.mono (by decide)) (Za (Zb 0) (Za (Zb 1) Zd)))) (Zj C_width θ (hr.mono (by decide)) (Za (Zb 0) (Za (Zb 2) Zd)))) Ze))
  (Zf (Zl 4 Z1.nd (ZW (Zb 3)))
  (Zf (ZbQ θ.own (Zu ZcM ZcP (Zb 4) (Zb 3)) (Zf (Zl 5 Z1.nd (ZN (ZH (Zb 4) (Zb 3)) Ze))
  (Zf (ZbH 6 7 (Zw hr (by decide)) Z1.nd (Za (Zj C_lessened θ (hr.mono (by decide)) (Za (Zb 1) (Za (Zb 5) (Za (Zb 2) Zd)))) (Za (Zj C_lessened θ (hr.mono (by decide)) (Za (Zb 1) (Za (ZH (Zb 5) Ze) (Za (Zb 2) Zd)))) Zd)))
  (Zi (Z9 (Zu Zg0 Zg9 (Zj C_width θ (hr.mono (by decide)) (Za (Zb 0) (Za (Zb 6) Zd))) (Zj C_width θ (hr.mono (by decide)) (Za (Zb 0) (Za (Zb 7) Zd)))) (Zi (Zl 3 Z1.nd (Zb 5))) (Zi (Zl 4 Z1.nd (ZH (Zb 5) Ze))))))))
  (Zi (ZA (Zj C_lessened θ (hr.mono (by decide)) (Za (Zb 1) (Za (Zb 4) (Za (Zb 2) Zd)))))))))
noncomputable abbrev ZaW:Stmt:=top 47
noncomputable def ZeF:Sv:=(Zz (ZJ (gNm 2) (Zk F_least_wide (Zc (Zg 0) (Zc (Zg 2) (Zc (Zg 1) aNil)))))
 (Zz (sIf (tv (e2 dGe (Zk F_width (Zc (Zg 0) (Zc (Zg 2) aNil))) (Zk F_width (Zc (Zg 0) (Zc (Zg 1) aNil))))) sBrk sNil)
 (Ze5 1 2 (Zc (Zg 2) (Zc (Zg 1) aNil)))))
noncomputable def Zhr:Sv:=(Zz (ZJ (gTp (gCs (gNm 1) (gCs (gNm 2) gNl))) (Zah (Zc (Zah (Zc (eC (.int 1)) (Zc (eC (.int 0)) aNil))) (Zc (Zah (Zc (eC (.int 0)) (Zc (eC (.int 1)) aNil))) aNil))))
 (Zz (sIf (tv (e2 dLt (Zk F_width (Zc (Zg 0) (Zc (Zg 2) aNil))) (Zk F_width (Zc (Zg 0) (Zc (Zg 1) aNil))))) (Ze5 1 2 (Zc (Zg 2) (Zc (Zg 1) aNil))) sNil)
 (Zz (sWh (tv (e2 dGt (Zk F_width (Zc (Zg 0) (Zc (Zg 1) aNil))) (eC (.int 0)))) ZeF)
 (Zz (ZJ (gNm 3) (Zk F_crossed (Zc (Zg 1) (Zc (Zg 2) aNil))))
 (Zap (Zah (Zc (Zg 1) (Zc (Zah (Zc (e2 dMul (Zg 3) (e2 dIx (Zg 2) (eC (.int 0)))) (Zc (e2 dMul (Zg 3) (e2 dIx (Zg 2) (eC (.int 1)))) aNil))) aNil))))))))
noncomputable def F_two_ways:List D->Sto->Out D:=fnF Zhr 1 3
theorem Zan:FnScope ["points","narrow","wide","sign"] ["points"] (Zh ZaW):=⟨rfl,rfl,rfl,by decide +kernel,rfl,by decide +kernel,by decide +kernel⟩
theorem Zgi {f:Addr} {fd:FuncData} (F:Fun K "two_ways" "two_ways" ZaW f fd) (T:Txt K mg) (C_width:Cal P w K mg base "width" 101 2 F_width) (C_least_wide:Cal P w K mg base "least_wide" 102 3 F_least_wide) (C_crossed:Cal P w K mg base "crossed" 1 2 F_crossed):FnOk P w K mg base (CXE P w) 103 f fd ["points"] (spD K F_two_ways):=
 ZO F Zan rfl rfl fun cdv A outer s H E hr θ=>(Zf (ZdY (Zx (Za (Zx (Za Ze (Za Ze Zd))) (Za (Zx (Za Ze (Za Ze Zd))) Zd))) (Zai (Zw hr (by decide)) (Zp (Zm 1 Zan.nd) (Zp (Zm 2 Zan.nd) ZR)) (hlen:=(Zv (Zv (fun _ _ _ h=>ZS h))))))
  (Zf (Z9 (Zu ZcM ZcP (Zj C_width θ (hr.mono (by decide)) (Za (Zb 0) (Za (Zb 2) Zd))) (Zj C_width θ (hr.mono (by decide)) (Za (Zb 0) (Za (Zb 1) Zd)))) (Zi (ZbH 1 2 (Zw hr (by decide)) Zan.nd (Za (Zb 2) (Za (Zb 1) Zd)))) ZG)
  (Zf (ZbQ θ.own (Zu ZcN ZcQ (Zj C_width θ (hr.mono (by decide)) (Za (Zb 0) (Za (Zb 1) Zd))) Ze) (Zf (Zl 2 Zan.nd (Zj C_least_wide θ (hr.mono (by decide)) (Za (Zb 0) (Za (Zb 2) (Za (Zb 1) Zd)))))
  (Zf (Z9 (Zu Zp5 Zqe (Zj C_width θ (hr.mono (by decide)) (Za (Zb 0) (Za (Zb 2) Zd))) (Zj C_width θ (hr.mono (by decide)) (Za (Zb 0) (Za (Zb 1) Zd)))) (Zi Znx) ZG)
  (Zi (ZbH 1 2 (Zw hr (by decide)) Zan.nd (Za (Zb 2) (Za (Zb 1) Zd)))))))
  (Zf (Zl 3 Zan.nd (Zj C_crossed θ (hr.mono (by decide)) (Za (Zb 1) (Za (Zb 2) Zd))))
  (Zi (ZA (Zx (Za (Zb 1) (Za (Zx (Za (ZD (Zb 3) (Zq (Zb 2) Ze)) (Za (ZD (Zb 3) (Zq (Zb 2) Ze)) Zd))) Zd)))))))))
noncomputable abbrev Z2:Stmt:=top 48
noncomputable def ZcU:Sv:=(Zz (ZJ (gNm 10) (e2 dMul (Zk F_crossed (Zc (Zg 4) (Zc (Zg 8) aNil))) (e2 dIx (Zg 9) (eC (.int 1)))))
 (Zz (ZJ (gNm 11) (e2 dAdd (e2 dIx (Zg 9) (eC (.int 0))) (e2 dMul (e2 dMul (Zk F_crossed (Zc (Zg 8) (Zc (Zg 5) aNil))) (Zg 3)) (e2 dIx (Zg 9) (eC (.int 1))))))
 (Zz (sIf (Zcy (tv (e2 dGt (Zg 10) (eC (.int 0)))) (ZhB (tv (e2 dIs (Zg 6) (eC .non))) (tv (e2 dGt (Zb3 (e2 dDiv (Zg 11) (Zg 10))) (Zg 6))))) (ZJ (gNm 6) (Zb3 (e2 dDiv (Zg 11) (Zg 10)))) sNil)
 (sIf (Zcy (tv (e2 dLt (Zg 10) (eC (.int 0)))) (ZhB (tv (e2 dIs (Zg 7) (eC .non))) (tv (e2 dLt (e2 dDiv (Zg 11) (Zb3 (Zg 10))) (Zg 7))))) (ZJ (gNm 7) (e2 dDiv (Zg 11) (Zb3 (Zg 10)))) sNil))))
noncomputable def ZeG:Sv:=(Zz (ZJ (gTp (gCs (gNm 4) (gCs (gNm 5) gNl))) (Zg 2))
 (Zz sBad
 (Zz (Zeo (gTp (gCs (gNm 8) (gCs (gNm 9) gNl))) (iZp (Zc (Zg 0) (Zc (Zg 1) aNil))) ZcU)
 (Zap (Za3 (iR2 (Zc (Zg 6) (Zc (e2 dAdd (Zg 7) (eC (.int 1))) aNil))) 1 [3,4,5] (gNm 0) (fun _ M=> .ok true M) (Zah (Zc (e2 dSub (e2 dMul (Zg 1) (e2 dIx (Zg 3) (eC (.int 1)))) (e2 dMul (Zg 0) (e2 dIx (Zg 2) (eC (.int 1))))) (Zc (e2 dSub (e2 dMul (Zg 0) (e2 dIx (Zg 2) (eC (.int 0)))) (e2 dMul (Zg 1) (e2 dIx (Zg 3) (eC (.int 0))))) aNil))))))))
noncomputable def F_dots_across:List D->Sto->Out D:=fnF ZeG 4 8
theorem ZL:FnScope ["rays","height","ways","given","narrow","wide","low","high","ray","own","across","reach"] ["rays","height","ways","given"] (Zh Z2):=⟨rfl,rfl,rfl,by decide +kernel,rfl,by decide +kernel,by decide +kernel⟩
theorem ZdO {f:Addr} {fd:FuncData} (F:Fun K "dots_across" "dots_across" Z2 f fd) (T:Txt K mg) (C_crossed:Cal P w K mg base "crossed" 1 2 F_crossed):FnOk P w K mg base (CXE P w) 101 f fd ["rays","height","ways","given"] (spD K F_dots_across):=
 ZO F ZL rfl rfl fun cdv A outer s H E hr θ=>(Zf (ZdY (Zb 2) (Zai (Zw hr (by decide)) (Zp (Zm 4 ZL.nd) (Zp (Zm 5 ZL.nd) ZR)) (hlen:=(Zv (Zv (fun _ _ _ h=>ZS h))))))
  (Zf Zde
  (Zf (Zdj θ.own (ZiB (hr.hd (by decide)) T.b_zip (Za (Zb 0) (Za (Zb 1) Zd))) (Zai (Zw hr (by decide)) (Zp (Zm 8 ZL.nd) (Zp (Zm 9 ZL.nd) ZR)) (hlen:=(Zv (Zv (fun _ _ _ h=>ZS h))))) (Zf (Zl 10 ZL.nd (ZD (Zj C_crossed θ (hr.mono (by decide)) (Za (Zb 4) (Za (Zb 8) Zd))) (Zq (Zb 9) Ze)))
  (Zf (Zl 11 ZL.nd (ZH (Zq (Zb 9) Ze) (ZD (ZD (Zj C_crossed θ (hr.mono (by decide)) (Za (Zb 8) (Za (Zb 5) Zd))) (Zb 3)) (Zq (Zb 9) Ze))))
  (Zf (Z9 (Zeh (ZbY (Zu ZcN ZcQ (Zb 10) Ze) (Zbh (Zeh (Zeg (Zu ZdX Zha (Zb 6) ZbF) (Zcf (Zu ZcN ZcQ (ZW (ZN (Zb 11) (Zb 10))) (Zb 6)))))))) (Zi (Zl 6 ZL.nd (ZW (ZN (Zb 11) (Zb 10))))) ZG)
  (Zi (Z9 (Zeh (ZbY (Zu ZcM ZcP (Zb 10) Ze) (Zbh (Zeh (Zeg (Zu ZdX Zha (Zb 7) ZbF) (Zcf (Zu ZcM ZcP (ZN (Zb 11) (ZW (Zb 10))) (Zb 7)))))))) (Zi (Zl 7 ZL.nd (ZN (Zb 11) (ZW (Zb 10))))) ZG))))))
  (Zi (ZA (Zbj (ZkH (XN:=["rays","height","ways","given","narrow","wide","low","high","ray","own","across","reach"]) (dn:=(Zh Z2).names) (N:=["other","given","narrow","wide"]) (k:=1) (fr:=[3,4,5]) rfl rfl rfl rfl (by decide +kernel)) (Ziy T.b_range (Za (Zb 6) (Za (ZH (Zb 7) Ze) Zd))) (fun _ _ _ _=>(Zm 0 (show List.Nodup (["other","given","narrow","wide"]:List Str) by decide +kernel))) (fun _ _ _ _=>(Or.inl ⟨rfl,rfl⟩)) (fun _ _ _ _=>(Zx (Za (ZP (ZD (Zb 1) (Zq (Zb 3) Ze)) (ZD (Zb 0) (Zq (Zb 2) Ze))) (Za (ZP (ZD (Zb 0) (Zq (Zb 2) Ze)) (ZD (Zb 1) (Zq (Zb 3) Ze))) Zd))))))))))
noncomputable abbrev ZcL:Stmt:=top 49
noncomputable def Zjm:Sv:=(Zbn (Zff mExt (Zg 7) (Zc (Zk F_dots_across (Zc (Zg 0) (Zc (Zg 1) (Zc (Zg 5) (Zc (Zg 8) aNil))))) aNil)))
noncomputable def Zpy:Sv:=(Zz (ZJ (gNm 2) (Zk F_body (Zc (Zg 0) (Zc (Zg 1) aNil))))
 (Zz sBad
 (Zz (ZJ (gNm 4) (Za3 (iSq (Zg 2)) 2 [3] (gTp (gCs (gNm 0) (gCs (gNm 1) gNl))) (fun _ M=> .ok true M) (Zah (Zc (Zk F_stretched (Zc (Zg 0) (Zc (Zg 2) aNil))) (Zc (Zk F_stretched (Zc (Zg 1) (Zc (Zg 2) aNil))) aNil)))))
 (Zz (sIf (tv (e2 dEq (Zg 4) (ZbZ aNil))) (Zap (ZbZ aNil)) sNil)
 (Zz (ZJ (gNm 5) (Zk F_two_ways (Zc (Zg 4) aNil)))
 (Zz (ZJ (gNm 6) (Za3 (iSq (Zg 4)) 1 [5] (gNm 0) (fun _ M=> .ok true M) (Zk F_product (Zc (Zg 0) (Zc (e2 dIx (Zg 1) (eC (.int 0))) aNil)))))
 (Zz (ZJ (gNm 7) (ZbZ aNil))
 (Zz (Ze6 (gNm 8) (Zc (Zb3 (e2 dDiv (Zb3 (Zk (Zcm List.min?) (Zc (Zg 6) aNil))) (Zg 3))) (Zc (e2 dAdd (e2 dDiv (Zk (Zcm List.max?) (Zc (Zg 6) aNil)) (Zg 3)) (eC (.int 1))) aNil)) Zjm)
 sBad))))))))
noncomputable def F_dots:List D->Sto->Out D:=fnF Zpy 2 7
theorem Zb9:FnScope ["rays","height","points","bottom","wholes","ways","given","found","row"] ["rays","height"] (Zh ZcL):=⟨rfl,rfl,rfl,by decide +kernel,rfl,by decide +kernel,by decide +kernel⟩
theorem Zmz {f:Addr} {fd:FuncData} (F:Fun K "dots" "dots" ZcL f fd) (T:Txt K mg) (C_body:Cal P w K mg base "body" 106 2 F_body) (C_stretched:Cal P w K mg base "stretched" 1 2 F_stretched) (C_two_ways:Cal P w K mg base "two_ways" 103 1 F_two_ways) (C_product:Cal P w K mg base "product" 1 2 F_product) (C_dots_across:Cal P w K mg base "dots_across" 101 4 F_dots_across):FnOk P w K mg base (CXE P w) 107 f fd ["rays","height"] (spD K F_dots):=
 ZO F Zb9 rfl rfl fun cdv A outer s H E hr θ=>(Zf (Zl 2 Zb9.nd (Zj C_body θ (hr.mono (by decide)) (Za (Zb 0) (Za (Zb 1) Zd))))
  (Zf Zde
  (Zf (Zes 4 Zb9.nd (ZkH (XN:=["rays","height","points","bottom","wholes","ways","given","found","row"]) (dn:=(Zh ZcL).names) (N:=["x","y","bottom"]) (k:=2) (fr:=[3]) rfl rfl rfl rfl (by decide +kernel)) (ZbJ (Zb 2)) (fun _ _ _ _=>(Zai (Zw hr (by decide)) (Zp (Zm 0 (show List.Nodup (["x","y","bottom"]:List Str) by decide +kernel)) (Zp (Zm 1 (show List.Nodup (["x","y","bottom"]:List Str) by decide +kernel)) ZR)) (hlen:=(Zv (Zv (fun _ _ _ h=>ZS h)))))) (fun _ _ _ _=>(Or.inl ⟨rfl,rfl⟩)) (fun _ _ _ _=>(Zx (Za (Zj C_stretched Zbx (hr.mono (by decide)) (Za (Zb 0) (Za (Zb 2) Zd))) (Za (Zj C_stretched Zbx (hr.mono (by decide)) (Za (Zb 1) (Za (Zb 2) Zd))) Zd)))))
  (Zf (Z9 (Zu (ZcG hr.units) Ze1 (Zb 4) (ZV Zd)) (Zi (ZA (ZV Zd))) ZG)
  (Zf (Zl 5 Zb9.nd (Zj C_two_ways θ (hr.mono (by decide)) (Za (Zb 4) Zd)))
  (Zf (Zes 6 Zb9.nd (ZkH (XN:=["rays","height","points","bottom","wholes","ways","given","found","row"]) (dn:=(Zh ZcL).names) (N:=["point","ways"]) (k:=1) (fr:=[5]) rfl rfl rfl rfl (by decide +kernel)) (ZbJ (Zb 4)) (fun _ _ _ _=>(Zm 0 (show List.Nodup (["point","ways"]:List Str) by decide +kernel))) (fun _ _ _ _=>(Or.inl ⟨rfl,rfl⟩)) (fun _ _ _ _=>(Zj C_product Zbx (hr.mono (by decide)) (Za (Zb 0) (Za (Zq (Zb 1) Ze) Zd)))))
  (Zf (Zl 7 Zb9.nd (ZV Zd))
  (Zf (ZjX θ.own T.b_range (Za (ZW (ZN (ZW (Zr (Zcl (Zw hr (by decide))) Zeq T.b_min Ze9 (Za (Zb 6) Zd))) (Zb 3))) (Za (ZH (ZN (Zr (Zck (Zw hr (by decide))) Zep T.b_max Ze8 (Za (Zb 6) Zd)) (Zb 3)) Ze) Zd)) (Zm 8 Zb9.nd) (Zi (Zaa (Ziv PySem.F.slot_list_extend PySem.F.type_list_extend ZeY ZkJ (Zb 7) (Za (Zj C_dots_across θ (hr.mono (by decide)) (Za (Zb 0) (Za (Zb 1) (Za (Zb 5) (Za (Zb 8) Zd))))) Zd)))))
  (Zi Zde)))))))))
noncomputable abbrev Zbr:Stmt:=top 51
noncomputable def Zbd:Sv:=(Zz (ZJ (gNm 5) (e2 dDiv (Zg 1) (Zg 2)))
 (Zz (Ze5 1 2 (Zc (Zg 2) (Zc (e2 dSub (Zg 1) (e2 dMul (Zg 5) (Zg 2))) aNil)))
 (Ze5 3 4 (Zc (Zg 4) (Zc (Zah (Zc (e2 dSub (e2 dIx (Zg 3) (eC (.int 0))) (e2 dMul (Zg 5) (e2 dIx (Zg 4) (eC (.int 0))))) (Zc (e2 dSub (e2 dIx (Zg 3) (eC (.int 1))) (e2 dMul (Zg 5) (e2 dIx (Zg 4) (eC (.int 1))))) aNil))) aNil)))))
noncomputable def Zcr:Sv:=(Zz (ZJ (gTp (gCs (gNm 1) (gCs (gNm 2) gNl))) (Zg 0))
 (Zz (ZJ (gTp (gCs (gNm 3) (gCs (gNm 4) gNl))) (Zah (Zc (Zah (Zc (eC (.int 0)) (Zc (eC (.int 1)) aNil))) (Zc (Zah (Zc (Zb3 (eC (.int 1))) (Zc (eC (.int 0)) aNil))) aNil))))
 (Zz (sWh (tv (e2 dNe (Zg 2) (eC (.int 0)))) Zbd)
 (Zap (Zah (Zc (e2 dMul (Zg 1) (e2 dIx (Zg 3) (eC (.int 0)))) (Zc (e2 dMul (Zg 1) (e2 dIx (Zg 3) (eC (.int 1)))) aNil)))))))
noncomputable def F_partner:List D->Sto->Out D:=fnF Zcr 1 5
theorem Zau:FnScope ["ray","high","low","first","second","many"] ["ray"] (Zh Zbr):=⟨rfl,rfl,rfl,by decide +kernel,rfl,by decide +kernel,by decide +kernel⟩
theorem Zhs {f:Addr} {fd:FuncData} (F:Fun K "partner" "partner" Zbr f fd) (T:Txt K mg):FnOk P w K mg base (CXE P w) 101 f fd ["ray"] (spD K F_partner):=
 ZO F Zau rfl rfl fun cdv A outer s H E hr θ=>(Zf (ZdY (Zb 0) (Zai (Zw hr (by decide)) (Zp (Zm 1 Zau.nd) (Zp (Zm 2 Zau.nd) ZR)) (hlen:=(Zv (Zv (fun _ _ _ h=>ZS h))))))
  (Zf (ZdY (Zx (Za (Zx (Za Ze (Za Ze Zd))) (Za (Zx (Za (ZW Ze) (Za Ze Zd))) Zd))) (Zai (Zw hr (by decide)) (Zp (Zm 3 Zau.nd) (Zp (Zm 4 Zau.nd) ZR)) (hlen:=(Zv (Zv (fun _ _ _ h=>ZS h))))))
  (Zf (ZbQ θ.own (Zu (Zb0 hr.units) ZdK (Zb 2) Ze) (Zf (Zl 5 Zau.nd (ZN (Zb 1) (Zb 2)))
  (Zf (ZbH 1 2 (Zw hr (by decide)) Zau.nd (Za (Zb 2) (Za (ZP (Zb 1) (ZD (Zb 5) (Zb 2))) Zd)))
  (Zi (ZbH 3 4 (Zw hr (by decide)) Zau.nd (Za (Zb 4) (Za (Zx (Za (ZP (Zq (Zb 3) Ze) (ZD (Zb 5) (Zq (Zb 4) Ze))) (Za (ZP (Zq (Zb 3) Ze) (ZD (Zb 5) (Zq (Zb 4) Ze))) Zd))) Zd)))))))
  (Zi (ZA (Zx (Za (ZD (Zb 1) (Zq (Zb 3) Ze)) (Za (ZD (Zb 1) (Zq (Zb 3) Ze)) Zd))))))))
noncomputable abbrev Z6:Stmt:=top 52
noncomputable def ZaN:Sv:=(Zz (ZJ (gNm 2) (Zk F_partner (Zc (Zg 0) aNil)))
 (Zz (ZJ (gNm 3) (e2 dDiv (Zk F_crossed (Zc (Zg 2) (Zc (Zg 1) aNil))) (Zk F_crossed (Zc (Zg 0) (Zc (Zg 1) aNil)))))
 (Zap (Zah (Zc (e2 dSub (e2 dIx (Zg 2) (eC (.int 0))) (e2 dMul (Zg 3) (e2 dIx (Zg 0) (eC (.int 0))))) (Zc (e2 dSub (e2 dIx (Zg 2) (eC (.int 1))) (e2 dMul (Zg 3) (e2 dIx (Zg 0) (eC (.int 1))))) aNil))))))
noncomputable def F_first_behind:List D->Sto->Out D:=fnF ZaN 2 2
theorem Zba:FnScope ["u","v","w","many"] ["u","v"] (Zh Z6):=⟨rfl,rfl,rfl,by decide +kernel,rfl,by decide +kernel,by decide +kernel⟩
theorem Zdy {f:Addr} {fd:FuncData} (F:Fun K "first_behind" "first_behind" Z6 f fd) (T:Txt K mg) (C_partner:Cal P w K mg base "partner" 101 1 F_partner) (C_crossed:Cal P w K mg base "crossed" 1 2 F_crossed):FnOk P w K mg base (CXE P w) 102 f fd ["u","v"] (spD K F_first_behind):=
 ZO F Zba rfl rfl fun cdv A outer s H E hr θ=>(Zf (Zl 2 Zba.nd (Zj C_partner θ (hr.mono (by decide)) (Za (Zb 0) Zd)))
  (Zf (Zl 3 Zba.nd (ZN (Zj C_crossed θ (hr.mono (by decide)) (Za (Zb 2) (Za (Zb 1) Zd))) (Zj C_crossed θ (hr.mono (by decide)) (Za (Zb 0) (Za (Zb 1) Zd)))))
  (Zi (ZA (Zx (Za (ZP (Zq (Zb 2) Ze) (ZD (Zb 3) (Zq (Zb 0) Ze))) (Za (ZP (Zq (Zb 2) Ze) (ZD (Zb 3) (Zq (Zb 0) Ze))) Zd)))))))
noncomputable abbrev ZaX:Stmt:=top 53
noncomputable def ZeH:Sv:=(Zz (ZJ (gNm 3) (Zb3 (e2 dDiv (Zb3 (Zg 0)) (Zg 1))))
 (Zz (Zbn (Zff mApp (Zg 2) (Zc (Zg 3) aNil)))
 (Ze5 0 1 (Zc (Zg 1) (Zc (e2 dSub (e2 dMul (Zg 3) (Zg 1)) (Zg 0)) aNil)))))
noncomputable def Zht:Sv:=(Zz (ZJ (gNm 2) (ZbZ aNil))
 (Zz (sWh (tv (e2 dNe (Zg 1) (eC (.int 0)))) ZeH)
 (Zap (Zg 2))))
noncomputable def F_expanded:List D->Sto->Out D:=fnF Zht 2 2
theorem ZbB:FnScope ["top","bottom","numbers","number"] ["top","bottom"] (Zh ZaX):=⟨rfl,rfl,rfl,by decide +kernel,rfl,by decide +kernel,by decide +kernel⟩
theorem Zgj {f:Addr} {fd:FuncData} (F:Fun K "expanded" "expanded" ZaX f fd) (T:Txt K mg):FnOk P w K mg base (CXE P w) 101 f fd ["top","bottom"] (spD K F_expanded):=
 ZO F ZbB rfl rfl fun cdv A outer s H E hr θ=>(Zf (Zl 2 ZbB.nd (ZV Zd))
  (Zf (ZbQ θ.own (Zu (Zb0 hr.units) ZdK (Zb 1) Ze) (Zf (Zl 3 ZbB.nd (ZW (ZN (ZW (Zb 0)) (Zb 1))))
  (Zf (Zaa (ZaP (Zb 2) (Zb 3)))
  (Zi (ZbH 0 1 (Zw hr (by decide)) ZbB.nd (Za (Zb 1) (Za (ZP (ZD (Zb 3) (Zb 1)) (Zb 0)) Zd)))))))
  (Zi (ZA (Zb 2)))))
noncomputable abbrev Zhu:Stmt:=top 54
noncomputable def ZrN:Sv:=(Zz (sIf (tv (e2 dLe (Zk F_crossed (Zc (Zg 0) (Zc (Zg 1) aNil))) (eC (.int 0)))) (ZbL (PySem.Str.ofString "NoWedge") (Zc (eC (.str (PySem.Str.ofString "the two rays of a wedge, crossed, come to more than 0"))) aNil)) sNil)
 (Zap (Zk F_expanded (Zc (Zk F_crossed (Zc (Zg 0) (Zc (Zg 1) aNil))) (Zc (Zk F_crossed (Zc (Zk F_first_behind (Zc (Zg 0) (Zc (Zg 1) aNil))) (Zc (Zg 1) aNil))) aNil)))))
noncomputable def F_row:List D->Sto->Out D:=fnF ZrN 2 0
theorem Zpz:FnScope ["u","v"] ["u","v"] (Zh Zhu):=⟨rfl,rfl,rfl,by decide +kernel,rfl,by decide +kernel,by decide +kernel⟩
theorem ZpA {f:Addr} {fd:FuncData} (F:Fun K "row" "row" Zhu f fd) (T:Txt K mg) (C_crossed:Cal P w K mg base "crossed" 1 2 F_crossed) (C_first_behind:Cal P w K mg base "first_behind" 102 2 F_first_behind) (C_expanded:Cal P w K mg base "expanded" 101 2 F_expanded):FnOk P w K mg base (CXE P w) 103 f fd ["u","v"] (spD K F_row):=
 ZO F Zpz rfl rfl fun cdv A outer s H E hr θ=>(Zf (Z9 (Zu Zg0 Zg9 (Zj C_crossed θ (hr.mono (by decide)) (Za (Zb 0) (Za (Zb 1) Zd))) Ze) (Zi (ZbR θ T.ex_NoWedge T.gl (hr.hd (by decide)) (Za ZU Zd))) ZG)
  (Zi (ZA (Zj C_expanded θ (hr.mono (by decide)) (Za (Zj C_crossed θ (hr.mono (by decide)) (Za (Zb 0) (Za (Zb 1) Zd))) (Za (Zj C_crossed θ (hr.mono (by decide)) (Za (Zj C_first_behind θ (hr.mono (by decide)) (Za (Zb 0) (Za (Zb 1) Zd))) (Za (Zb 1) Zd))) Zd))))))
noncomputable abbrev Zbs:Stmt:=top 55
noncomputable def Zfv:Sv:=(Zz (Zbn (Zff mApp (Zg 3) (Zc (Zg 5) aNil)))
 (Ze5 4 5 (Zc (Zg 5) (Zc (Zah (Zc (e2 dSub (e2 dMul (Zg 6) (e2 dIx (Zg 5) (eC (.int 0)))) (e2 dIx (Zg 4) (eC (.int 0)))) (Zc (e2 dSub (e2 dMul (Zg 6) (e2 dIx (Zg 5) (eC (.int 1)))) (e2 dIx (Zg 4) (eC (.int 1)))) aNil))) aNil))))
noncomputable def Zjn:Sv:=(Zz (ZJ (gNm 2) (Zk F_row (Zc (Zg 0) (Zc (Zg 1) aNil))))
 (Zz (ZJ (gNm 3) (ZbZ aNil))
 (Zz (Ze5 4 5 (Zc (Zg 0) (Zc (Zk F_first_behind (Zc (Zg 0) (Zc (Zg 1) aNil))) aNil)))
 (Zz (ZjV (gNm 6) (Zg 2) Zfv)
 (Zap (Zg 3))))))
noncomputable def F_between:List D->Sto->Out D:=fnF Zjn 2 5
theorem ZaY:FnScope ["u","v","numbers","rays","ahead","ray","number"] ["u","v"] (Zh Zbs):=⟨rfl,rfl,rfl,by decide +kernel,rfl,by decide +kernel,by decide +kernel⟩
theorem Zhv {f:Addr} {fd:FuncData} (F:Fun K "between" "between" Zbs f fd) (T:Txt K mg) (C_row:Cal P w K mg base "row" 103 2 F_row) (C_first_behind:Cal P w K mg base "first_behind" 102 2 F_first_behind):FnOk P w K mg base (CXE P w) 104 f fd ["u","v"] (spD K F_between):=
 ZO F ZaY rfl rfl fun cdv A outer s H E hr θ=>(Zf (Zl 2 ZaY.nd (Zj C_row θ (hr.mono (by decide)) (Za (Zb 0) (Za (Zb 1) Zd))))
  (Zf (Zl 3 ZaY.nd (ZV Zd))
  (Zf (ZbH 4 5 (Zw hr (by decide)) ZaY.nd (Za (Zb 0) (Za (Zj C_first_behind θ (hr.mono (by decide)) (Za (Zb 0) (Za (Zb 1) Zd))) Zd)))
  (Zf (ZdZ θ.own (Zb 2) (Zm 6 ZaY.nd) (Zf (Zaa (ZaP (Zb 3) (Zb 5)))
  (Zi (ZbH 4 5 (Zw hr (by decide)) ZaY.nd (Za (Zb 5) (Za (Zx (Za (ZP (ZD (Zb 6) (Zq (Zb 5) Ze)) (Zq (Zb 4) Ze)) (Za (ZP (ZD (Zb 6) (Zq (Zb 5) Ze)) (Zq (Zb 4) Ze)) Zd))) Zd))))))
  (Zi (ZA (Zb 3)))))))
noncomputable abbrev Zad:Stmt:=top 57
noncomputable def ZcV:Sv:=(Zz (Zbn (Zff mApp (Zg 1) (Zc (Zg 3) aNil)))
 (Zbn (Zff mExt (Zg 1) (Zc (Zk F_between (Zc (Zg 3) (Zc (Zk F_following (Zc (Zg 0) (Zc (Zg 2) aNil))) aNil))) aNil))))
noncomputable def ZeI:Sv:=(Zz (ZJ (gNm 1) (ZbZ aNil))
 (Zz (Zeo (gTp (gCs (gNm 2) (gCs (gNm 3) gNl))) (iEn (Zc (Zg 0) aNil)) ZcV)
 (Zap (Zg 1))))
noncomputable def F_least_round:List D->Sto->Out D:=fnF ZeI 1 3
theorem ZaO:FnScope ["rays","least","at","ray"] ["rays"] (Zh Zad):=⟨rfl,rfl,rfl,by decide +kernel,rfl,by decide +kernel,by decide +kernel⟩
theorem ZdP {f:Addr} {fd:FuncData} (F:Fun K "least_round" "least_round" Zad f fd) (T:Txt K mg) (C_following:Cal P w K mg base "following" 1 2 F_following) (C_between:Cal P w K mg base "between" 104 2 F_between):FnOk P w K mg base (CXE P w) 105 f fd ["rays"] (spD K F_least_round):=
 ZO F ZaO rfl rfl fun cdv A outer s H E hr θ=>(Zf (Zl 1 ZaO.nd (ZV Zd))
  (Zf (Zdj θ.own (ZfW (hr.hd (by decide)) T.b_enumerate (Za (Zb 0) Zd)) (Zai (Zw hr (by decide)) (Zp (Zm 2 ZaO.nd) (Zp (Zm 3 ZaO.nd) ZR)) (hlen:=(Zv (Zv (fun _ _ _ h=>ZS h))))) (Zf (Zaa (ZaP (Zb 1) (Zb 3)))
  (Zi (Zaa (Ziv PySem.F.slot_list_extend PySem.F.type_list_extend ZeY ZkJ (Zb 1) (Za (Zj C_between θ (hr.mono (by decide)) (Za (Zb 3) (Za (Zj C_following θ (hr.mono (by decide)) (Za (Zb 0) (Za (Zb 2) Zd))) Zd))) Zd))))))
  (Zi (ZA (Zb 1)))))
noncomputable abbrev Zab:Stmt:=top 59
theorem Zcv:FnScope ["rays","least","own"] ["rays","least"] (Zh Zab):=⟨rfl,rfl,rfl,by decide +kernel,rfl,by decide +kernel,by decide +kernel⟩
theorem ZeJ {f:Addr} {fd:FuncData} (F:Fun K "marked_row" "marked_row" Zab f fd) (T:Txt K mg) (C_numbers:Cal P w K mg base "numbers" 103 1 F_numbers):FnOk P w K mg base (CXE P w) 104 f fd ["rays","least"] (spD K F_marked_row):=
 ZO F Zcv rfl rfl fun cdv A outer s H E hr θ=>(Zf (Zl 2 Zcv.nd (Zj7 hr.units (Zlx (N:=["ray"]) (k:=1) (by decide +kernel) rfl (by decide +kernel) rfl) (ZbJ (Zb 0)) (fun _ _ _ _=>(Zm 0 (show List.Nodup (["ray"]:List Str) by decide +kernel))) (fun _ _ _ _=>(Or.inl ⟨rfl,rfl⟩)) (fun _ _ _ _=>(Zb 0)) (fun _ _ _ _=>ZfO)))
  (Zi (ZA (Zbj (ZkH (XN:=["rays","least","own"]) (dn:=(Zh Zab).names) (N:=["number","ray","own"]) (k:=2) (fr:=[2]) rfl rfl rfl rfl (by decide +kernel)) (ZiB (hr.hd (by decide)) T.b_zip (Za (Zj C_numbers θ (hr.mono (by decide)) (Za (Zb 1) Zd)) (Za (Zb 1) Zd))) (fun _ _ _ _=>(Zai (Zw hr (by decide)) (Zp (Zm 0 (show List.Nodup (["number","ray","own"]:List Str) by decide +kernel)) (Zp (Zm 1 (show List.Nodup (["number","ray","own"]:List Str) by decide +kernel)) ZR)) (hlen:=(Zv (Zv (fun _ _ _ h=>ZS h)))))) (fun _ _ _ _=>(Or.inl ⟨rfl,rfl⟩)) (fun _ _ _ _=>(Zx (Za (Zb 0) (Za (Zqd (Zu (ZnV hr.units) ZnW (Zb 1) (Zb 2)) Ze Ze) Zd))))))))
noncomputable abbrev ZZ:Stmt:=top 60
noncomputable def Zdz:Sv:=(Zz (ZJ (gNm 1) (Zk F_least_round (Zc (Zg 0) aNil)))
 (Zz (ZJ (gNm 2) (Zk F_marked_row (Zc (Zg 0) (Zc (Zg 1) aNil))))
 (Zz (ZJ (gNm 3) (eC .non))
 (Zz (ZJ (gNm 4) (eC .non))
 (Zz (Zeo (gTp (gCs (gNm 5) (gCs (gNm 6) gNl))) (iEn (Zc (Zg 1) aNil)) Zbf)
 (Zap (Zah (Zc (Zg 3) (Zc (Zg 4) aNil)))))))))
noncomputable def F_first_reading:List D->Sto->Out D:=fnF Zdz 1 10
theorem Zs:FnScope ["rays","least","marked","best","two","at","ray","onward","backward","reading","beside"] ["rays"] (Zh ZZ):=⟨rfl,rfl,rfl,by decide +kernel,rfl,by decide +kernel,by decide +kernel⟩
theorem ZcW {f:Addr} {fd:FuncData} (F:Fun K "first_reading" "first_reading" ZZ f fd) (T:Txt K mg) (C_least_round:Cal P w K mg base "least_round" 105 1 F_least_round) (C_marked_row:Cal P w K mg base "marked_row" 104 2 F_marked_row) (C_following:Cal P w K mg base "following" 1 2 F_following):FnOk P w K mg base (CXE P w) 106 f fd ["rays"] (spD K F_first_reading):=
 ZO F Zs rfl rfl fun cdv A outer s H E hr θ=>(Zf (Zl 1 Zs.nd (Zj C_least_round θ (hr.mono (by decide)) (Za (Zb 0) Zd)))
  (Zf (Zl 2 Zs.nd (Zj C_marked_row θ (hr.mono (by decide)) (Za (Zb 0) (Za (Zb 1) Zd))))
  (Zf (Zl 3 Zs.nd ZbF)
  (Zf (Zl 4 Zs.nd ZbF)
  (Zf (Zdj θ.own (ZfW (hr.hd (by decide)) T.b_enumerate (Za (Zb 1) Zd)) (Zai (Zw hr (by decide)) (Zp (Zm 5 Zs.nd) (Zp (Zm 6 Zs.nd) ZR)) (hlen:=(Zv (Zv (fun _ _ _ h=>ZS h))))) (Zf (Zl 7 Zs.nd (ZH (Zdi (Zb 2) (Zdh (Zb 5)) Zdg) (Zdi (Zb 2) Zdg (Zdh (Zb 5)))))
  (Zf (Zl 8 Zs.nd (ZH (Zdi (Zb 7) Zdg (Zdh Ze)) (Zqp (Zb 7))))
  (Zi (ZdZ θ.own (ZV (Za (Zx (Za (Zb 7) (Za (Zj C_following θ (hr.mono (by decide)) (Za (Zb 1) (Za (Zb 5) Zd))) Zd))) (Za (Zx (Za (Zb 8) (Za (Zq (Zb 1) (ZP (Zb 5) Ze)) Zd))) Zd))) (Zai (Zw hr (by decide)) (Zp (Zm 9 Zs.nd) (Zp (Zm 10 Zs.nd) ZR)) (hlen:=(Zv (Zv (fun _ _ _ h=>ZS h))))) (Zi (Z9 (Zeh (Zeg (Zu ZdX Zha (Zb 3) ZbF) (Zcf (Zu (ZnZ hr.units) Zn0 (Zb 9) (Zb 3))))) (Zf (Zl 3 Zs.nd (Zb 9))
  (Zi (Zl 4 Zs.nd (Zx (Za (Zb 6) (Za (Zb 10) Zd)))))) ZG)))))))
  (Zi (ZA (Zx (Za (Zb 3) (Za (Zb 4) Zd))))))))))
noncomputable abbrev ZaG:Stmt:=top 61
noncomputable def Zgk:Sv:=(Zap (e2 dIx (Zk F_first_reading (Zc (Zg 0) aNil)) (eC (.int 0))))
noncomputable def F_least_row:List D->Sto->Out D:=fnF Zgk 1 0
theorem Zfw:FnScope ["rays"] ["rays"] (Zh ZaG):=⟨rfl,rfl,rfl,by decide +kernel,rfl,by decide +kernel,by decide +kernel⟩
theorem Zfx {f:Addr} {fd:FuncData} (F:Fun K "least_row" "least_row" ZaG f fd) (T:Txt K mg) (C_first_reading:Cal P w K mg base "first_reading" 106 1 F_first_reading):FnOk P w K mg base (CXE P w) 107 f fd ["rays"] (spD K F_least_row):=
 ZO F Zfw rfl rfl fun cdv A outer s H E hr θ=>(Zi (ZA (Zq (Zj C_first_reading θ (hr.mono (by decide)) (Za (Zb 0) Zd)) Ze)))
noncomputable abbrev Zbt:Stmt:=top 64
noncomputable def ZdA:Sv:=(sIf (tv (e2 dLt (Zk (Zcm List.min?) (Zc (Zk F_numbers (Zc (Zg 0) aNil)) aNil)) (Zb3 (eC (.int 2))))) (ZbL (PySem.Str.ofString "NoOne") (Zc (eC (.str (PySem.Str.ofString "a one has no number below -2"))) aNil)) sNil)
noncomputable def F_ask_one:List D->Sto->Out D:=fnF ZdA 1 0
theorem Zhw:FnScope ["rays"] ["rays"] (Zh Zbt):=⟨rfl,rfl,rfl,by decide +kernel,rfl,by decide +kernel,by decide +kernel⟩
theorem Zhx {f:Addr} {fd:FuncData} (F:Fun K "ask_one" "ask_one" Zbt f fd) (T:Txt K mg) (C_numbers:Cal P w K mg base "numbers" 103 1 F_numbers):FnOk P w K mg base (CXE P w) 104 f fd ["rays"] (spD K F_ask_one):=
 ZO F Zhw rfl rfl fun cdv A outer s H E hr θ=>(Zi (Z9 (Zu ZcM ZcP (Zr (Zcl (Zw hr (by decide))) Zeq T.b_min Ze9 (Za (Zj C_numbers θ (hr.mono (by decide)) (Za (Zb 0) Zd)) Zd)) (ZW Ze)) (Zi (ZbR θ T.ex_NoOne T.gl (hr.hd (by decide)) (Za ZU Zd))) ZG))
noncomputable abbrev ZaZ:Stmt:=top 65
noncomputable def ZeK:Sv:=(sIf (Zcy (tv (e2 dGt (Zk F_crossed (Zc (Zg 0) (Zc (Zg 3) aNil))) (eC (.int 0)))) (ZhB (tv (e2 dIs (Zg 2) (eC .non))) (tv (e2 dGt (Zk F_crossed (Zc (Zg 3) (Zc (Zg 2) aNil))) (eC (.int 0)))))) (ZJ (gNm 2) (Zg 3)) sNil)
noncomputable def Zhy:Sv:=(Zz (ZJ (gNm 2) (eC .non))
 (Zz (ZjV (gNm 3) (Zg 1) ZeK)
 (Zap (Zg 2))))
noncomputable def F_next_dot:List D->Sto->Out D:=fnF Zhy 2 2
theorem ZbC:FnScope ["dot","others","best","other"] ["dot","others"] (Zh ZaZ):=⟨rfl,rfl,rfl,by decide +kernel,rfl,by decide +kernel,by decide +kernel⟩
theorem Zgl {f:Addr} {fd:FuncData} (F:Fun K "next_dot" "next_dot" ZaZ f fd) (T:Txt K mg) (C_crossed:Cal P w K mg base "crossed" 1 2 F_crossed):FnOk P w K mg base (CXE P w) 2 f fd ["dot","others"] (spD K F_next_dot):=
 ZO F ZbC rfl rfl fun cdv A outer s H E hr θ=>(Zf (Zl 2 ZbC.nd ZbF)
  (Zf (ZdZ θ.own (Zb 1) (Zm 3 ZbC.nd) (Zi (Z9 (Zeh (ZbY (Zu ZcN ZcQ (Zj C_crossed θ (hr.mono (by decide)) (Za (Zb 0) (Za (Zb 3) Zd))) Ze) (Zbh (Zeh (Zeg (Zu ZdX Zha (Zb 2) ZbF) (Zcf (Zu ZcN ZcQ (Zj C_crossed θ (hr.mono (by decide)) (Za (Zb 3) (Za (Zb 2) Zd))) Ze))))))) (Zi (Zl 2 ZbC.nd (Zb 3))) ZG)))
  (Zi (ZA (Zb 2)))))
noncomputable abbrev Z7:Stmt:=top 66
noncomputable def ZcF:Sv:=(Zbn (Zff mApp (Zg 2) (Zc (Zk F_next_dot (Zc (e2 dIx (Zg 2) (Zb3 (eC (.int 1)))) (Zc (Zg 1) aNil))) aNil)))
noncomputable def Zbm:Sv:=(Zz (Zbn (Zk F_ask_one (Zc (Zg 0) aNil)))
 (Zz (ZJ (gNm 1) (Za3 (iSq (Zk F_dots (Zc (Zg 0) (Zc (Za3 (iSq (Zg 0)) 1 [] (gNm 0) (fun _ M=> .ok true M) (Zah (Zc (eC (.int 1)) (Zc (eC (.int 1)) aNil)))) aNil)))) 1 [] (gNm 0) (tv (e2 dNe (Zg 0) (Zah (Zc (eC (.int 0)) (Zc (eC (.int 0)) aNil))))) (Zg 0)))
 (Zz (ZJ (gNm 2) (ZbZ (Zc (e2 dIx (Zg 1) (eC (.int 0))) aNil)))
 (Zz (sWh (tv (e2 dLt (Zk bLen (Zc (Zg 2) aNil)) (Zk bLen (Zc (Zg 1) aNil)))) ZcF)
 (Zap (Zg 2))))))
noncomputable def F_opposite_one:List D->Sto->Out D:=fnF Zbm 1 2
theorem Zbb:FnScope ["rays","others","told"] ["rays"] (Zh Z7):=⟨rfl,rfl,rfl,by decide +kernel,rfl,by decide +kernel,by decide +kernel⟩
theorem ZdB {f:Addr} {fd:FuncData} (F:Fun K "opposite_one" "opposite_one" Z7 f fd) (T:Txt K mg) (C_ask_one:Cal P w K mg base "ask_one" 104 1 F_ask_one) (C_dots:Cal P w K mg base "dots" 107 2 F_dots) (C_next_dot:Cal P w K mg base "next_dot" 2 2 F_next_dot):FnOk P w K mg base (CXE P w) 108 f fd ["rays"] (spD K F_opposite_one):=
 ZO F Zbb rfl rfl fun cdv A outer s H E hr θ=>(Zf (Zaa (Zj C_ask_one θ (hr.mono (by decide)) (Za (Zb 0) Zd)))
  (Zf (Zes 1 Zbb.nd (Zlx (N:=["dot"]) (k:=1) (by decide +kernel) rfl (by decide +kernel) rfl) (ZbJ (Zj C_dots θ (hr.mono (by decide)) (Za (Zb 0) (Za (Zbj (Zlx (N:=["ray"]) (k:=1) (by decide +kernel) rfl (by decide +kernel) rfl) (ZbJ (Zb 0)) (fun _ _ _ _=>(Zm 0 (show List.Nodup (["ray"]:List Str) by decide +kernel))) (fun _ _ _ _=>(Or.inl ⟨rfl,rfl⟩)) (fun _ _ _ _=>(Zx (Za Ze (Za Ze Zd))))) Zd)))) (fun _ _ _ _=>(Zm 0 (show List.Nodup (["dot"]:List Str) by decide +kernel))) (fun _ _ _ _=>(Or.inr ⟨_,rfl,(Zu (Zb0 hr.units) ZdK (Zb 0) (Zx (Za Ze (Za Ze Zd))))⟩)) (fun _ _ _ _=>(Zb 0)))
  (Zf (Zl 2 Zbb.nd (ZV (Za (Zq (Zb 1) Ze) Zd)))
  (Zf (ZbQ θ.own (Zu ZcM ZcP (Zr Zt Zax T.b_len PySem.boot_len (Za (Zb 2) Zd)) (Zr Zt Zax T.b_len PySem.boot_len (Za (Zb 1) Zd))) (Zi (Zaa (ZaP (Zb 2) (Zj C_next_dot θ (hr.mono (by decide)) (Za (Zq (Zb 2) (ZW Ze)) (Za (Zb 1) Zd)))))))
  (Zi (ZA (Zb 2)))))))
noncomputable abbrev Zbu:Stmt:=top 67
noncomputable def ZdC:Sv:=(Zz (Zbn (Zk F_ask_one (Zc (Zg 0) aNil)))
 (Zap (Zsc ZiU (eC (Zsb Zjh)) (Zc (Zk bTup (Zc (Za3 (iSq (Zk F_least_row (Zc (Zg 0) aNil))) 2 [] (gTp (gCs (gNm 0) (gCs (gNm 1) gNl))) (fun _ M=> .ok true M) (Zg 0)) aNil)) aNil))))
noncomputable def F_kind_of:List D->Sto->Out D:=fnF ZdC 1 0
theorem Zhz:FnScope ["rays"] ["rays"] (Zh Zbu):=⟨rfl,rfl,rfl,by decide +kernel,rfl,by decide +kernel,by decide +kernel⟩
theorem ZhA {f:Addr} {fd:FuncData} (F:Fun K "kind_of" "kind_of" Zbu f fd) (T:Txt K mg) (C_ask_one:Cal P w K mg base "ask_one" 104 1 F_ask_one) (C_least_row:Cal P w K mg base "least_row" 107 1 F_least_row):FnOk P w K mg base (CXE P w) 108 f fd ["rays"] (spD K F_kind_of):=
 ZO F Zhz rfl rfl fun cdv A outer s H E hr θ=>(Zf (Zaa (Zj C_ask_one θ (hr.mono (by decide)) (Za (Zb 0) Zd)))
  (Zi (ZA (ZlN hr.units (Zn2 T.co_ROWS T.gl) (Zch Zed ZnH T.b_tuple ZjY (Za (Zbj (Zlx (N:=["number","mark"]) (k:=2) (by decide +kernel) rfl (by decide +kernel) rfl) (ZbJ (Zj C_least_row θ (hr.mono (by decide)) (Za (Zb 0) Zd))) (fun _ _ _ _=>(Zai (Zw hr (by decide)) (Zp (Zm 0 (show List.Nodup (["number","mark"]:List Str) by decide +kernel)) (Zp (Zm 1 (show List.Nodup (["number","mark"]:List Str) by decide +kernel)) ZR)) (hlen:=(Zv (Zv (fun _ _ _ h=>ZS h)))))) (fun _ _ _ _=>(Or.inl ⟨rfl,rfl⟩)) (fun _ _ _ _=>(Zb 0))) Zd))))))
noncomputable abbrev Zae:Stmt:=top 69
theorem Zak:FnScope ["_law_script","_law_k","_law_cell","_law_one"] ["_law_script","_law_k"] (Zh Zae):=⟨rfl,rfl,rfl,by decide +kernel,rfl,by decide +kernel,by decide +kernel⟩
theorem ZdQ {f:Addr} {fd:FuncData} (F:Fun K "_law_cell_at" "_law_cell_at" Zae f fd) (T:Txt K mg):FnOk P w K mg base (CXE P w) 1 f fd ["_law_script","_law_k"] (spD K F_law_cell_at):=
 ZO F Zak rfl rfl fun cdv A outer s H E hr θ=>(Zf (Zl 2 Zak.nd Ze)
  (Zf (Z9 (Zu ZcM ZcP (Zb 1) (Zr Zt Zax T.b_len PySem.boot_len (Za (Zb 0) Zd))) (Zi (Zl 2 Zak.nd (Z3 (Zq (Zb 0) (Zb 1)) (ZdW Ze Ze)))) ZG)
  (Zf (Z9 (Zu ZcM ZcP (Zb 2) (ZdW Ze Ze)) (Zf (Zl 3 Zak.nd (Z3 (ZD (ZH (Zb 2) (ZD Ze (ZH (Zb 1) Ze))) Ze) (ZdW Ze Ze)))
  (Zi (Zl 2 Zak.nd (Z3 (ZN (ZD (Zb 3) (Zb 3)) (ZdW Ze Ze)) (ZdW Ze Ze))))) ZG)
  (Zi (ZA (Zb 2))))))
noncomputable abbrev ZaH:Stmt:=top 70
theorem Zfy:FnScope ["_law_one","_law_other"] ["_law_one","_law_other"] (Zh ZaH):=⟨rfl,rfl,rfl,by decide +kernel,rfl,by decide +kernel,by decide +kernel⟩
theorem Zfz {f:Addr} {fd:FuncData} (F:Fun K "_law_cross" "_law_cross" ZaH f fd) (T:Txt K mg):FnOk P w K mg base (CXE P w) 1 f fd ["_law_one","_law_other"] (spD K F_law_cross):=
 ZO F Zfy rfl rfl fun cdv A outer s H E hr θ=>(Zi (ZA (ZP (ZD (Zq (Zb 0) Ze) (Zq (Zb 1) Ze)) (ZD (Zq (Zb 0) Ze) (Zq (Zb 1) Ze)))))
noncomputable abbrev Za0:Stmt:=top 71
theorem ZT:FnScope ["_law_rays","_law_cell","_law_k","_law_much","_law_way","_law_new","_law_x","_law_y"] ["_law_rays","_law_cell"] (Zh Za0):=⟨rfl,rfl,rfl,by decide +kernel,rfl,by decide +kernel,by decide +kernel⟩
theorem Zgm {f:Addr} {fd:FuncData} (F:Fun K "_law_turn" "_law_turn" Za0 f fd) (T:Txt K mg):FnOk P w K mg base (CXE P w) 101 f fd ["_law_rays","_law_cell"] (spD K F_law_turn):=
 ZO F ZT rfl rfl fun cdv A outer s H E hr θ=>(Zf (Zbw θ.own T.b_range (Za Ze Zd) (Zm 2 ZT.nd) (Zf (Zl 3 ZT.nd (ZP (Z3 (ZN (Zb 1) Ze) Ze) Ze))
  (Zf (Z9 (Zu (ZcG hr.units) Ze1 (Z3 (ZN (Zb 1) Ze) Ze) Ze) (Zi (Zl 3 ZT.nd (ZP (Z3 (ZN (Zb 1) Ze) Ze) Ze))) ZG)
  (Zf (Zl 4 ZT.nd (Z3 (Zb 1) Ze))
  (Zf (Zl 1 ZT.nd (ZN (Zb 1) Ze))
  (Zf (Zl 5 ZT.nd (ZV Zd))
  (Zf (ZdZ θ.own (Zb 0) (Zai (Zw hr (by decide)) (Zp (Zm 6 ZT.nd) (Zp (Zm 7 ZT.nd) ZR)) (hlen:=(Zv (Zv (fun _ _ _ h=>ZS h))))) (Zi (Z9 (Zu (ZcG hr.units) Ze1 (Zb 4) Ze) (Zi (Zaa (ZaP (Zb 5) (Zx (Za (ZH (Zb 6) (ZD (Zb 3) (Zb 7))) (Za (Zb 7) Zd)))))) (Zi (Z9 (Zu (ZcG hr.units) Ze1 (Zb 4) Ze) (Zi (Zaa (ZaP (Zb 5) (Zx (Za (Zb 6) (Za (ZH (Zb 7) (ZD (Zb 3) (Zb 6))) Zd)))))) (Zi (Z9 (Zu (ZcG hr.units) Ze1 (Zb 4) Ze) (Zi (Zaa (ZaP (Zb 5) (Zx (Za (ZP Ze (Zb 7)) (Za (Zb 6) Zd)))))) (Zi (Zaa (ZaP (Zb 5) (Zx (Za (Zb 6) (Za (Zb 7) Zd)))))))))))))
  (Zi (Z9 (Zu Zg0 Zg9 (Zr (Zck (Zw hr (by decide))) Zep T.b_max Ze8 (Za (ZH (Zbj (Zlx (N:=["_law_x","_law_y"]) (k:=2) (by decide +kernel) rfl (by decide +kernel) rfl) (ZbJ (Zb 5)) (fun _ _ _ _=>(Zai (Zw hr (by decide)) (Zp (Zm 0 (show List.Nodup (["_law_x","_law_y"]:List Str) by decide +kernel)) (Zp (Zm 1 (show List.Nodup (["_law_x","_law_y"]:List Str) by decide +kernel)) ZR)) (hlen:=(Zv (Zv (fun _ _ _ h=>ZS h)))))) (fun _ _ _ _=>(Or.inl ⟨rfl,rfl⟩)) (fun _ _ _ _=>(Zr Zbv Zda T.b_abs Zdf (Za (Zb 0) Zd)))) (Zbj (Zlx (N:=["_law_x","_law_y"]) (k:=2) (by decide +kernel) rfl (by decide +kernel) rfl) (ZbJ (Zb 5)) (fun _ _ _ _=>(Zai (Zw hr (by decide)) (Zp (Zm 0 (show List.Nodup (["_law_x","_law_y"]:List Str) by decide +kernel)) (Zp (Zm 1 (show List.Nodup (["_law_x","_law_y"]:List Str) by decide +kernel)) ZR)) (hlen:=(Zv (Zv (fun _ _ _ h=>ZS h)))))) (fun _ _ _ _=>(Or.inl ⟨rfl,rfl⟩)) (fun _ _ _ _=>(Zr Zbv Zda T.b_abs Zdf (Za (Zb 1) Zd))))) Zd)) Ze) (Zi (Zl 0 ZT.nd (Zb 5))) ZG)))))))))
  (Zi (ZA (Zb 0))))
noncomputable abbrev Zav:Stmt:=top 72
theorem Zy:FnScope ["_law_cell","_law_most","_law_count","_law_rays","_law_far","_law_k","_law_at","_law_one","_law_other","_law_more"] ["_law_cell","_law_most"] (Zh Zav):=⟨rfl,rfl,rfl,by decide +kernel,rfl,by decide +kernel,by decide +kernel⟩
theorem ZeL {f:Addr} {fd:FuncData} (F:Fun K "_law_smooth" "_law_smooth" Zav f fd) (T:Txt K mg) (C_law_turn:Cal P w K mg base "_law_turn" 101 2 F_law_turn):FnOk P w K mg base (CXE P w) 102 f fd ["_law_cell","_law_most"] (spD K F_law_smooth):=
 ZO F Zy rfl rfl fun cdv A outer s H E hr θ=>(Zf (Zl 2 Zy.nd (ZH Ze (Z3 (Zb 0) (ZP (Zb 1) Ze))))
  (Zf (Zl 0 Zy.nd (ZN (Zb 0) (ZP (Zb 1) Ze)))
  (Zf (Zl 3 Zy.nd (ZV (Za (Zx (Za Ze (Za Ze Zd))) (Za (Zx (Za Ze (Za Ze Zd))) (Za (Zx (Za (ZW Ze) (Za (ZW Ze) Zd))) Zd)))))
  (Zf (Z9 (Zeh (ZbY (Zu ZcN ZcQ (Zb 2) Ze) (Zbh (Zu ZcN ZcQ (Z3 (Zb 0) Ze) Ze)))) (Zf (Zl 4 Zy.nd (Z3 (ZN (Zb 0) Ze) (Zq (ZV (Za Ze (Za Ze (Za Ze (Za Ze Zd))))) (Z3 (ZN (Zb 0) Ze) Ze))))
  (Zi (Zl 3 Zy.nd (ZV (Za (Zx (Za Ze (Za Ze Zd))) (Za (Zx (Za Ze (Za Ze Zd))) (Za (Zx (Za (ZW Ze) (Za (Zb 4) Zd))) (Za (Zx (Za Ze (Za (ZW Ze) Zd))) Zd)))))))) ZG)
  (Zf (Zl 0 Zy.nd (ZN (Zb 0) Ze))
  (Zf (Zbw θ.own T.b_range (Za (ZP (Zb 2) (Zr Zt Zax T.b_len PySem.boot_len (Za (Zb 3) Zd))) Zd) (Zm 5 Zy.nd) (Zf (Zl 6 Zy.nd (Z3 (Zb 0) (Zr Zt Zax T.b_len PySem.boot_len (Za (Zb 3) Zd))))
  (Zf (Zl 0 Zy.nd (ZN (Zb 0) Ze))
  (Zf (Zl 7 Zy.nd (Zq (Zb 3) (Zb 6)))
  (Zf (Zl 8 Zy.nd (Zq (Zb 3) (Z3 (ZH (Zb 6) Ze) (Zr Zt Zax T.b_len PySem.boot_len (Za (Zb 3) Zd)))))
  (Zf (Zl 9 Zy.nd (Zx (Za (ZH (Zq (Zb 7) Ze) (Zq (Zb 8) Ze)) (Za (ZH (Zq (Zb 7) Ze) (Zq (Zb 8) Ze)) Zd))))
  (Zi (Z9 (Zeh (ZbY (Zu Zg0 Zg9 (Zr Zbv Zda T.b_abs Zdf (Za (Zq (Zb 9) Ze) Zd)) Ze) (Zbh (Zu Zg0 Zg9 (Zr Zbv Zda T.b_abs Zdf (Za (Zq (Zb 9) Ze) Zd)) Ze)))) (Zi (Zl 3 Zy.nd (ZH (ZH (Zdi (Zb 3) Zdg (Zdh (ZH (Zb 6) Ze))) (ZV (Za (Zb 9) Zd))) (Zdi (Zb 3) (Zdh (ZH (Zb 6) Ze)) Zdg)))) ZG))))))))
  (Zf (Zl 3 Zy.nd (Zj C_law_turn θ (hr.mono (by decide)) (Za (Zb 3) (Za (Zb 0) Zd))))
  (Zf (Zl 6 Zy.nd (Z3 (ZN (Zb 0) (ZdW Ze Ze)) (Zr Zt Zax T.b_len PySem.boot_len (Za (Zb 3) Zd))))
  (Zi (ZA (ZH (Zdi (Zb 3) (Zdh (Zb 6)) Zdg) (Zdi (Zb 3) Zdg (Zdh (Zb 6))))))))))))))
noncomputable abbrev ZaI:Stmt:=top 73
theorem ZdD:FnScope ["_law_rays","_law_many"] ["_law_rays"] (Zh ZaI):=⟨rfl,rfl,rfl,by decide +kernel,rfl,by decide +kernel,by decide +kernel⟩
theorem Zgn {f:Addr} {fd:FuncData} (F:Fun K "_law_tags" "_law_tags" ZaI f fd) (T:Txt K mg) (C_law_cross:Cal P w K mg base "_law_cross" 1 2 F_law_cross):FnOk P w K mg base (CXE P w) 2 f fd ["_law_rays"] (spD K F_law_tags):=
 ZO F ZdD rfl rfl fun cdv A outer s H E hr θ=>(Zf (Zl 1 ZdD.nd (Zr Zt Zax T.b_len PySem.boot_len (Za (Zb 0) Zd)))
  (Zi (ZA (Zbj (ZkH (XN:=["_law_rays","_law_many"]) (dn:=(Zh ZaI).names) (N:=["_law_k","_law_rays","_law_many"]) (k:=1) (fr:=[0,1]) rfl rfl rfl rfl (by decide +kernel)) (Zfa T.b_range (Za (Zb 1) Zd)) (fun _ _ _ _=>(Zm 0 (show List.Nodup (["_law_k","_law_rays","_law_many"]:List Str) by decide +kernel))) (fun _ _ _ _=>(Or.inl ⟨rfl,rfl⟩)) (fun _ _ _ _=>(ZP Ze (Zj C_law_cross Zbx (hr.mono (by decide)) (Za (Zq (Zb 1) (ZP (Zb 0) Ze)) (Za (Zq (Zb 1) (Z3 (ZH (Zb 0) Ze) (Zb 2))) Zd)))))))))
noncomputable abbrev ZaJ:Stmt:=top 74
theorem Zaw:FnScope ["_law_cell","_law_rays","_law_many","_law_k","_law_rest","_law_ends"] ["_law_cell"] (Zh ZaJ):=⟨rfl,rfl,rfl,by decide +kernel,rfl,by decide +kernel,by decide +kernel⟩
theorem ZfA {f:Addr} {fd:FuncData} (F:Fun K "_law_rough" "_law_rough" ZaJ f fd) (T:Txt K mg) (C_law_smooth:Cal P w K mg base "_law_smooth" 102 2 F_law_smooth) (C_law_cross:Cal P w K mg base "_law_cross" 1 2 F_law_cross):FnOk P w K mg base (CXE P w) 103 f fd ["_law_cell"] (spD K F_law_rough):=
 ZO F Zaw rfl rfl fun cdv A outer s H E hr θ=>(Zf (Zl 1 Zaw.nd (Zj C_law_smooth θ (hr.mono (by decide)) (Za (ZN (Zb 0) Ze) (Za Ze Zd))))
  (Zf (Zl 2 Zaw.nd (Zr Zt Zax T.b_len PySem.boot_len (Za (Zb 1) Zd)))
  (Zf (Z9 (Zu ZcN ZcQ (Z3 (Zb 0) Ze) Ze) (Zi (Zbw θ.own T.b_range (Za (Zb 2) Zd) (Zm 3 Zaw.nd) (Zf (Zl 4 Zaw.nd (ZH (Zdi (Zb 1) Zdg (Zdh (Zb 3))) (Zdi (Zb 1) (Zdh (ZH (Zb 3) Ze)) Zdg)))
  (Zf (Zl 5 Zaw.nd (Zj C_law_cross θ (hr.mono (by decide)) (Za (Zq (Zb 1) (ZP (Zb 3) Ze)) (Za (Zq (Zb 1) (Z3 (ZH (Zb 3) Ze) (Zb 2))) Zd))))
  (Zi (Z9 (Zeh (ZbY (Zu ZcN ZcQ (Zb 2) Ze) (Zbh (Zu ZcN ZcQ (Zb 5) Ze)))) (Zi (ZA (Zb 4))) ZG)))))) ZG)
  (Zi (ZA (ZV (Za (Zx (Za Ze (Za Ze Zd))) (Za (Zx (Za Ze (Za Ze Zd))) (Za (Zx (Za (ZP (ZW Ze) (Z3 (ZN (Zb 0) Ze) Ze)) (Za (ZP (ZW Ze) (Z3 (ZN (Zb 0) Ze) Ze)) Zd))) Zd)))))))))
noncomputable abbrev ZaK:Stmt:=top 75
noncomputable def Zca:Sv:=(Zz (ZJ (gNm 1) (ZbZ (Zc (eC (.str (PySem.Str.ofString "NoRatio"))) (Zc (eC (.str (PySem.Str.ofString "NoTurning"))) (Zc (eC (.str (PySem.Str.ofString "NoRound"))) (Zc (eC (.str (PySem.Str.ofString "NotSmooth"))) (Zc (eC (.str (PySem.Str.ofString "NoWedge"))) (Zc (eC (.str (PySem.Str.ofString "NoRow"))) (Zc (eC (.str (PySem.Str.ofString "NoPlace"))) (Zc (eC (.str (PySem.Str.ofString "NoMinus"))) (Zc (eC (.str (PySem.Str.ofString "NoFour"))) aNil)))))))))))
 (Zz (ZJ (gNm 1) (e2 dAdd (Zg 1) (ZbZ (Zc (eC (.str (PySem.Str.ofString "NoHeight"))) (Zc (eC (.str (PySem.Str.ofString "NoBend"))) (Zc (eC (.str (PySem.Str.ofString "NoBody"))) (Zc (eC (.str (PySem.Str.ofString "NoOne"))) (Zc (eC (.str (PySem.Str.ofString "NoText"))) (Zc (eC (.str (PySem.Str.ofString "Unknown"))) aNil)))))))))
 (Zz (ZJ (gNm 2) (ZbZ (Zc (ZdL [(PySem.Str.ofString "NotSmooth",false),(PySem.Str.ofString "NoRatio",true),(PySem.Str.ofString "NoHeight",false),(PySem.Str.ofString "NoWedge",false),(PySem.Str.ofString "NoOne",false)] (Zg 0)) (Zc (ZdL [(PySem.Str.ofString "NotSmooth",false),(PySem.Str.ofString "NoRatio",false),(PySem.Str.ofString "NoHeight",false),(PySem.Str.ofString "NoWedge",false),(PySem.Str.ofString "NoOne",false)] (Zg 0)) (Zc (ZdL [(PySem.Str.ofString "NotSmooth",false),(PySem.Str.ofString "NoRatio",false),(PySem.Str.ofString "NoHeight",false),(PySem.Str.ofString "NoWedge",false),(PySem.Str.ofString "NoOne",false)] (Zg 0)) (Zc (ZdL [(PySem.Str.ofString "NotSmooth",true),(PySem.Str.ofString "NoRatio",false),(PySem.Str.ofString "NoHeight",false),(PySem.Str.ofString "NoWedge",false),(PySem.Str.ofString "NoOne",false)] (Zg 0)) aNil))))))
 (Zz (ZJ (gNm 2) (e2 dAdd (Zg 2) (ZbZ (Zc (ZdL [(PySem.Str.ofString "NotSmooth",false),(PySem.Str.ofString "NoRatio",false),(PySem.Str.ofString "NoHeight",false),(PySem.Str.ofString "NoWedge",true),(PySem.Str.ofString "NoOne",false)] (Zg 0)) (Zc (ZdL [(PySem.Str.ofString "NotSmooth",false),(PySem.Str.ofString "NoRatio",false),(PySem.Str.ofString "NoHeight",false),(PySem.Str.ofString "NoWedge",false),(PySem.Str.ofString "NoOne",false)] (Zg 0)) (Zc (ZdL [(PySem.Str.ofString "NotSmooth",false),(PySem.Str.ofString "NoRatio",false),(PySem.Str.ofString "NoHeight",false),(PySem.Str.ofString "NoWedge",false),(PySem.Str.ofString "NoOne",false)] (Zg 0)) (Zc (ZdL [(PySem.Str.ofString "NotSmooth",false),(PySem.Str.ofString "NoRatio",false),(PySem.Str.ofString "NoHeight",false),(PySem.Str.ofString "NoWedge",false),(PySem.Str.ofString "NoOne",false)] (Zg 0)) aNil)))))))
 (Zz (ZJ (gNm 2) (e2 dAdd (Zg 2) (ZbZ (Zc (ZdL [(PySem.Str.ofString "NotSmooth",false),(PySem.Str.ofString "NoRatio",false),(PySem.Str.ofString "NoHeight",false),(PySem.Str.ofString "NoWedge",false),(PySem.Str.ofString "NoOne",false)] (Zg 0)) (Zc (ZdL [(PySem.Str.ofString "NotSmooth",false),(PySem.Str.ofString "NoRatio",false),(PySem.Str.ofString "NoHeight",true),(PySem.Str.ofString "NoWedge",false),(PySem.Str.ofString "NoOne",false)] (Zg 0)) (Zc (ZdL [(PySem.Str.ofString "NotSmooth",false),(PySem.Str.ofString "NoRatio",false),(PySem.Str.ofString "NoHeight",false),(PySem.Str.ofString "NoWedge",false),(PySem.Str.ofString "NoOne",false)] (Zg 0)) (Zc (ZdL [(PySem.Str.ofString "NotSmooth",false),(PySem.Str.ofString "NoRatio",false),(PySem.Str.ofString "NoHeight",false),(PySem.Str.ofString "NoWedge",false),(PySem.Str.ofString "NoOne",false)] (Zg 0)) aNil)))))))
 (Zz (ZJ (gNm 2) (e2 dAdd (Zg 2) (ZbZ (Zc (ZdL [(PySem.Str.ofString "NotSmooth",false),(PySem.Str.ofString "NoRatio",false),(PySem.Str.ofString "NoHeight",false),(PySem.Str.ofString "NoWedge",false),(PySem.Str.ofString "NoOne",true)] (Zg 0)) (Zc (ZdL [(PySem.Str.ofString "NotSmooth",false),(PySem.Str.ofString "NoRatio",false),(PySem.Str.ofString "NoHeight",false),(PySem.Str.ofString "NoWedge",false),(PySem.Str.ofString "NoOne",false)] (Zg 0)) (Zc (ZdL [(PySem.Str.ofString "NotSmooth",false),(PySem.Str.ofString "NoRatio",false),(PySem.Str.ofString "NoHeight",false),(PySem.Str.ofString "NoWedge",false),(PySem.Str.ofString "NoOne",false)] (Zg 0)) aNil))))))
 (Zz (sIf (ZhB (tv (e2 dNe (Zff mCnt (Zg 2) (Zc (eC (.bl true)) aNil)) (eC (.int 1)))) (ZfP (tv (ZdL [(PySem.Str.ofString "NotSmooth",true),(PySem.Str.ofString "NoRatio",true),(PySem.Str.ofString "NoHeight",true),(PySem.Str.ofString "NoWedge",true),(PySem.Str.ofString "NoOne",true)] (Zg 0))))) (Zap (eC (.str (PySem.Str.ofString "other")))) sNil)
 (Zap (e2 dIx (Zg 1) (Zff mIdx (Zg 2) (Zc (eC (.bl true)) aNil)))))))))))
noncomputable def F_law_kinds:List D->Sto->Out D:=fnF Zca 1 2
theorem Zac:FnScope ["_law_e","_law_names","_law_kinds_here"] ["_law_e"] (Zh ZaK):=⟨rfl,rfl,rfl,by decide +kernel,rfl,by decide +kernel,by decide +kernel⟩
theorem ZfB {f:Addr} {fd:FuncData} (F:Fun K "_law_kinds" "_law_kinds" ZaK f fd) (T:Txt K mg):FnOk P w K mg base (CXE P w) 1 f fd ["_law_e"] (spD K F_law_kinds):=
 ZO F Zac rfl rfl fun cdv A outer s H E hr θ=>(Zf (Zl 1 Zac.nd (ZV (Za ZU (Za ZU (Za ZU (Za ZU (Za ZU (Za ZU (Za ZU (Za ZU (Za ZU Zd)))))))))))
  (Zf (Zl 1 Zac.nd (ZH (Zb 1) (ZV (Za ZU (Za ZU (Za ZU (Za ZU (Za ZU (Za ZU Zd)))))))))
  (Zf (Zl 2 Zac.nd (ZV (Za (Za4 T.it_NoRatio T.gl T.b_isinstance (Zb 0)) (Za (Za4 T.it_NoTurning T.gl T.b_isinstance (Zb 0)) (Za (Za4 T.it_NoRound T.gl T.b_isinstance (Zb 0)) (Za (Za4 T.it_NotSmooth T.gl T.b_isinstance (Zb 0)) Zd))))))
  (Zf (Zl 2 Zac.nd (ZH (Zb 2) (ZV (Za (Za4 T.it_NoWedge T.gl T.b_isinstance (Zb 0)) (Za (Za4 T.it_NoRow T.gl T.b_isinstance (Zb 0)) (Za (Za4 T.it_NoPlace T.gl T.b_isinstance (Zb 0)) (Za (Za4 T.it_NoMinus T.gl T.b_isinstance (Zb 0)) Zd)))))))
  (Zf (Zl 2 Zac.nd (ZH (Zb 2) (ZV (Za (Za4 T.it_NoFour T.gl T.b_isinstance (Zb 0)) (Za (Za4 T.it_NoHeight T.gl T.b_isinstance (Zb 0)) (Za (Za4 T.it_NoBend T.gl T.b_isinstance (Zb 0)) (Za (Za4 T.it_NoBody T.gl T.b_isinstance (Zb 0)) Zd)))))))
  (Zf (Zl 2 Zac.nd (ZH (Zb 2) (ZV (Za (Za4 T.it_NoOne T.gl T.b_isinstance (Zb 0)) (Za (Za4 T.it_NoText T.gl T.b_isinstance (Zb 0)) (Za (Za4 T.it_Unknown T.gl T.b_isinstance (Zb 0)) Zd))))))
  (Zf (Z9 (Zeh (Zeg (Zu (Zb0 hr.units) ZdK (Ziv PySem.F.slot_list_count PySem.F.type_list_count (ZnP hr.units) ZnR (Zb 2) (Za ZfO Zd)) Ze) (Zcf (Zie (ZdV (ZnC T.ib_ValueError T.b_isinstance T.b_ValueError Zen (Zb 0))))))) (Zi (ZA ZU)) ZG)
  (Zi (ZA (Zq (Zb 1) (Ziv PySem.F.slot_list_index PySem.F.type_list_index (ZnO hr.units) ZnQ (Zb 2) (Za ZfO Zd))))))))))))
noncomputable abbrev ZaL:Stmt:=top 76
noncomputable def Zb1:Sv:=(Zz (ZJ (gNm 0) (e2 dDiv (Zg 0) (eC (.int 11))))
 (Zz (ZJ (gNm 4) (e2 dMod (Zg 0) (Zk bLen (Zc (Zg 2) aNil))))
 (Zz (ZJ (gNm 5) (e2 dIx (Zg 2) (Zg 4)))
 (Zz (ZJ (gNm 6) (e2 dIx (Zg 2) (e2 dMod (e2 dAdd (Zg 4) (eC (.int 1))) (Zk bLen (Zc (Zg 2) aNil)))))
 (Zz (ZJ (gNm 7) (Zah (Zc (e2 dAdd (e2 dIx (Zg 5) (eC (.int 0))) (e2 dIx (Zg 6) (eC (.int 0)))) (Zc (e2 dAdd (e2 dIx (Zg 5) (eC (.int 1))) (e2 dIx (Zg 6) (eC (.int 1)))) aNil))))
 (Zz (ZJ (gNm 8) (e2 dAdd (e2 dAdd (eSl (Zg 2) oNo (oSo (e2 dAdd (Zg 4) (eC (.int 1))))) (ZbZ (Zc (Zg 7) aNil))) (eSl (Zg 2) (oSo (e2 dAdd (Zg 4) (eC (.int 1)))) oNo)))
 (sIf (Zcy (tv (e2 dLt (Zk (Zcm List.min?) (Zc (Zk F_law_tags (Zc (Zg 8) aNil)) aNil)) (Zb3 (eC (.int 2))))) (tv (e2 dLe (Zk (Zcm List.max?) (Zc (Za3 (iSq (Zg 8)) 2 [] (gTp (gCs (gNm 0) (gCs (gNm 1) gNl))) (fun _ M=> .ok true M) (Zk bAbs (Zc (Zg 1) aNil))) aNil)) (eC (.int 200))))) (ZJ (gNm 2) (Zg 8)) sNil)))))))
noncomputable def ZdE:Sv:=(Zz (ZJ (gNm 1) (e2 dAdd (eC (.int 3)) (e2 dMod (Zg 0) (eC (.int 40)))))
 (Zz (ZJ (gNm 0) (e2 dDiv (Zg 0) (eC (.int 40))))
 (Zz (ZJ (gNm 2) (ZbZ (Zc (Zah (Zc (eC (.int 1)) (Zc (eC (.int 0)) aNil))) (Zc (Zah (Zc (eC (.int 0)) (Zc (eC (.int 1)) aNil))) (Zc (Zah (Zc (Zb3 (eC (.int 1))) (Zc (Zg 1) aNil))) (Zc (Zah (Zc (eC (.int 0)) (Zc (Zb3 (eC (.int 1))) aNil))) aNil))))))
 (Zz (ZbI (gNm 3) (Zc (e2 dMod (Zg 0) (eC (.int 11))) aNil) Zb1)
 (Zap (Zk F_law_turn (Zc (Zg 2) (Zc (Zg 0) aNil))))))))
noncomputable def F_law_steep:List D->Sto->Out D:=fnF ZdE 1 8
theorem ZK:FnScope ["_law_cell","_law_far","_law_rays","_law_k","_law_at","_law_one","_law_other","_law_new","_law_more"] ["_law_cell"] (Zh ZaL):=⟨rfl,rfl,rfl,by decide +kernel,rfl,by decide +kernel,by decide +kernel⟩
theorem ZfC {f:Addr} {fd:FuncData} (F:Fun K "_law_steep" "_law_steep" ZaL f fd) (T:Txt K mg) (C_law_tags:Cal P w K mg base "_law_tags" 2 1 F_law_tags) (C_law_turn:Cal P w K mg base "_law_turn" 101 2 F_law_turn):FnOk P w K mg base (CXE P w) 102 f fd ["_law_cell"] (spD K F_law_steep):=
 ZO F ZK rfl rfl fun cdv A outer s H E hr θ=>(Zf (Zl 1 ZK.nd (ZH Ze (Z3 (Zb 0) Ze)))
  (Zf (Zl 0 ZK.nd (ZN (Zb 0) Ze))
  (Zf (Zl 2 ZK.nd (ZV (Za (Zx (Za Ze (Za Ze Zd))) (Za (Zx (Za Ze (Za Ze Zd))) (Za (Zx (Za (ZW Ze) (Za (Zb 1) Zd))) (Za (Zx (Za Ze (Za (ZW Ze) Zd))) Zd))))))
  (Zf (Zbw θ.own T.b_range (Za (Z3 (Zb 0) Ze) Zd) (Zm 3 ZK.nd) (Zf (Zl 0 ZK.nd (ZN (Zb 0) Ze))
  (Zf (Zl 4 ZK.nd (Z3 (Zb 0) (Zr Zt Zax T.b_len PySem.boot_len (Za (Zb 2) Zd))))
  (Zf (Zl 5 ZK.nd (Zq (Zb 2) (Zb 4)))
  (Zf (Zl 6 ZK.nd (Zq (Zb 2) (Z3 (ZH (Zb 4) Ze) (Zr Zt Zax T.b_len PySem.boot_len (Za (Zb 2) Zd)))))
  (Zf (Zl 7 ZK.nd (Zx (Za (ZH (Zq (Zb 5) Ze) (Zq (Zb 6) Ze)) (Za (ZH (Zq (Zb 5) Ze) (Zq (Zb 6) Ze)) Zd))))
  (Zf (Zl 8 ZK.nd (ZH (ZH (Zdi (Zb 2) Zdg (Zdh (ZH (Zb 4) Ze))) (ZV (Za (Zb 7) Zd))) (Zdi (Zb 2) (Zdh (ZH (Zb 4) Ze)) Zdg)))
  (Zi (Z9 (Zeh (ZbY (Zu ZcM ZcP (Zr (Zcl (Zw hr (by decide))) Zeq T.b_min Ze9 (Za (Zj C_law_tags θ (hr.mono (by decide)) (Za (Zb 8) Zd)) Zd)) (ZW Ze)) (Zbh (Zu Zg0 Zg9 (Zr (Zck (Zw hr (by decide))) Zep T.b_max Ze8 (Za (Zbj (Zlx (N:=["_law_x","_law_y"]) (k:=2) (by decide +kernel) rfl (by decide +kernel) rfl) (ZbJ (Zb 8)) (fun _ _ _ _=>(Zai (Zw hr (by decide)) (Zp (Zm 0 (show List.Nodup (["_law_x","_law_y"]:List Str) by decide +kernel)) (Zp (Zm 1 (show List.Nodup (["_law_x","_law_y"]:List Str) by decide +kernel)) ZR)) (hlen:=(Zv (Zv (fun _ _ _ h=>ZS h)))))) (fun _ _ _ _=>(Or.inl ⟨rfl,rfl⟩)) (fun _ _ _ _=>(Zr Zbv Zda T.b_abs Zdf (Za (Zb 1) Zd)))) Zd)) Ze)))) (Zi (Zl 2 ZK.nd (Zb 8))) ZG)))))))))
  (Zi (ZA (Zj C_law_turn θ (hr.mono (by decide)) (Za (Zb 2) (Za (Zb 0) Zd)))))))))
noncomputable abbrev Zaf:Stmt:=top 77
noncomputable def ZaA:Sv:=(Zz (ZlF (sIf (tv (e2 dEq (Zg 0) (eC (.int 0)))) (Zbn (Zk F_opposite_one (Zc (Zg 1) aNil))) (Zbn (Zk F_kind_of (Zc (Zg 1) aNil)))) [PySem.Str.ofString "NotSmooth",PySem.Str.ofString "NoRatio",PySem.Str.ofString "NoHeight",PySem.Str.ofString "NoWedge",PySem.Str.ofString "NoOne"] [false,false,false] 2 (Zap (Zk F_law_kinds (Zc (Zg 2) aNil))))
 (Zap (eC (.str (PySem.Str.ofString "told")))))
noncomputable def F_law_kind_of:List D->Sto->Out D:=fnF ZaA 2 1
theorem Zb2:FnScope ["_law_way","_law_rays","_law_e"] ["_law_way","_law_rays"] (Zh Zaf):=⟨rfl,rfl,rfl,by decide +kernel,rfl,by decide +kernel,by decide +kernel⟩
theorem ZdR {f:Addr} {fd:FuncData} (F:Fun K "_law_kind_of" "_law_kind_of" Zaf f fd) (T:Txt K mg) (C_opposite_one:Cal P w K mg base "opposite_one" 108 1 F_opposite_one) (C_kind_of:Cal P w K mg base "kind_of" 108 1 F_kind_of) (C_law_kinds:Cal P w K mg base "_law_kinds" 1 1 F_law_kinds):FnOk P w K mg base (CXE P w) 109 f fd ["_law_way","_law_rays"] (spD K F_law_kind_of):=
 ZO F Zb2 rfl rfl fun cdv A outer s H E hr θ=>(Zf (ZnF T.ct_RayError T.gl (hr.hd (by decide)) rfl rfl rfl Zb2.nd [false,false,false] (fun pn xe σ ξ' θ'=>(Zi (Z9 (Zu (ZcG hr.units) Ze1 (Zb 0) Ze) (Zi (Zaa (Zj C_opposite_one θ' (hr.mono (by decide)) (Za (Zb 1) Zd)))) (Zi (Zaa (Zj C_kind_of θ' (hr.mono (by decide)) (Za (Zb 1) Zd))))))) (fun ea=>(Zi (ZA (Zj C_law_kinds ZlB (Zis hr (by decide) (by decide)) (Za (Zb 2) Zd))))))
  (Zi (ZA ZU)))
noncomputable abbrev ZeM:Stmt:=top 78
noncomputable def ZgV:Sv:=(sIf (ZhB (tv (e2 dNe (Zk F_law_kind_of (Zc (Zg 6) (Zc (e2 dIx (Zg 5) (eC (.int 0))) aNil))) (eC (.str (PySem.Str.ofString "NoOne"))))) (tv (e2 dNe (Zk F_law_kind_of (Zc (Zg 6) (Zc (e2 dIx (Zg 5) (eC (.int 1))) aNil))) (eC (.str (PySem.Str.ofString "NotSmooth")))))) (Zap (eC (.bl false))) sNil)
noncomputable def ZeN:Sv:=(Zz (ZJ (gNm 2) (Zk F_law_cell_at (Zc (Zg 0) (Zc (Zg 1) aNil))))
 (Zz (ZJ (gNm 3) (Zk F_law_steep (Zc (Zg 2) aNil)))
 (Zz (ZJ (gNm 4) (Zk F_law_rough (Zc (e2 dDiv (Zg 2) (eC (.int 3))) aNil)))
 (Zz (ZJ (gNm 5) (ZbZ (Zc (Zk bList (Zc (Zg 3) aNil)) (Zc (Zk bList (Zc (Zg 4) aNil)) aNil))))
 (Zz (ZbI (gNm 6) (Zc (eC (.int 2)) aNil) ZgV)
 (sIf (tv (e2 dNe (Zg 5) (ZbZ (Zc (Zg 3) (Zc (Zg 4) aNil))))) (Zap (eC (.bl false))) sNil))))))
noncomputable def ZpB:Sv:=(Zz (ZbI (gNm 1) (Zc (Zk bMax (Zc (eC (.int 2)) (Zc (Zk bMin (Zc (Zk bLen (Zc (Zg 0) aNil)) (Zc (eC (.int 20)) aNil))) aNil))) aNil) ZeN)
 (Zap (eC (.bl true))))
noncomputable def Zgo:List D->Sto->Out D:=fnF ZpB 1 6
theorem ZdF:FnScope ["_law_script","_law_place","_law_cell","_law_steep_here","_law_rough_here","_law_lent","_law_way"] ["_law_script"] (Zh ZeM):=⟨rfl,rfl,rfl,by decide +kernel,rfl,by decide +kernel,by decide +kernel⟩
theorem ZpC {f:Addr} {fd:FuncData} (F:Fun K "law" "law" ZeM f fd) (T:Txt K mg) (C_law_cell_at:Cal P w K mg base "_law_cell_at" 1 2 F_law_cell_at) (C_law_steep:Cal P w K mg base "_law_steep" 102 1 F_law_steep) (C_law_rough:Cal P w K mg base "_law_rough" 103 1 F_law_rough) (C_law_kind_of:Cal P w K mg base "_law_kind_of" 109 2 F_law_kind_of):FnOk P w K mg base (CXE P w) 110 f fd ["_law_script"] (spD K Zgo):=
 ZO F ZdF rfl rfl fun cdv A outer s H E hr θ=>(Zf (Zbw θ.own T.b_range (Za (Zr (ZhT (Zw hr (by decide))) Zns T.b_max Ze8 (Za Ze (Za (Zr (ZhU (Zw hr (by decide))) Znt T.b_min Ze9 (Za (Zr Zt Zax T.b_len PySem.boot_len (Za (Zb 0) Zd)) (Za Ze Zd))) Zd))) Zd) (Zm 1 ZdF.nd) (Zf (Zl 2 ZdF.nd (Zj C_law_cell_at θ (hr.mono (by decide)) (Za (Zb 0) (Za (Zb 1) Zd))))
  (Zf (Zl 3 ZdF.nd (Zj C_law_steep θ (hr.mono (by decide)) (Za (Zb 2) Zd)))
  (Zf (Zl 4 ZdF.nd (Zj C_law_rough θ (hr.mono (by decide)) (Za (ZN (Zb 2) Ze) Zd)))
  (Zf (Zl 5 ZdF.nd (ZV (Za (Zch ZbE ZfQ T.b_list ZfR (Za (Zb 3) Zd)) (Za (Zch ZbE ZfQ T.b_list ZfR (Za (Zb 4) Zd)) Zd))))
  (Zf (Zbw θ.own T.b_range (Za Ze Zd) (Zm 6 ZdF.nd) (Zi (Z9 (Zeh (Zeg (Zu (Zb0 hr.units) ZdK (Zj C_law_kind_of θ (hr.mono (by decide)) (Za (Zb 6) (Za (Zq (Zb 5) Ze) Zd))) ZU) (Zcf (Zu (Zb0 hr.units) ZdK (Zj C_law_kind_of θ (hr.mono (by decide)) (Za (Zb 6) (Za (Zq (Zb 5) Ze) Zd))) ZU)))) (Zi (ZA ZfO)) ZG)))
  (Zi (Z9 (Zu (Zb0 hr.units) ZdK (Zb 5) (ZV (Za (Zb 3) (Za (Zb 4) Zd)))) (Zi (ZA ZfO)) ZG))))))))
  (Zi (ZA ZfO)))
end
theorem ZeO {α:Type} {P:List α->Prop} (h: ∀ x0,P [x0]): ∀ us:List α,us.length=1->P us
 | [x0],_=>h x0
theorem ZcX {α:Type} {P:List α->Prop} (h: ∀ x0 x1,P [x0,x1]): ∀ us:List α,us.length=2->P us
 | [x0,x1],_=>h x0 x1
theorem ZrO {α:Type} {P:List α->Prop} (h: ∀ x0 x1 x2,P [x0,x1,x2]): ∀ us:List α,us.length=3->P us
 | [x0,x1,x2],_=>h x0 x1 x2
theorem Zum {α:Type} {P:List α->Prop} (h: ∀ x0 x1 x2 x3,P [x0,x1,x2,x3]): ∀ us:List α,us.length=4->P us
 | [x0,x1,x2,x3],_=>h x0 x1 x2 x3
theorem ZpD {l:PySem.W.OpenLaw} {w:World} {K:PySem.W.Frag} {h:Heap} {mg:Str->Option Value} {fa f1 f2 f3 f4 f5 f6 f7 f8 f9 f10 f11 f12 f13 f14 f15 f16 f17 f18 f19 f20 f21 f22 f23 f24 f25 f26 f27 f28 f29 f30 f31 f32 f33 f34 f35 f36 f37 f38 f39 f40 f41 f42 f43 f44 f45 f46 f47 f48:Addr} (X:K.In h) (G:h.Ns mainGlobals mg) (hfa:mg "law"=some (.ref fa))
  {od1 an1 od2 an2 od3 an3 od4 an4 od5 an5 od6 an6 od7 an7 od8 an8 od9 an9 od10 an10 od11 an11 od12 an12 od13 an13 od14 an14 od15 an15 od16 an16 od17 an17 od18 an18 od19 an19 od20 an20 od21 an21 od22 an22 od23 an23 od24 an24 od25 an25 od26 an26 od27 an27 od28 an28 od29 an29 od30 an30 od31 an31 od32 an32 od33 an33 od34 an34 od35 an35 od36 an36 od37 an37 od38 an38 od39 an39 od40 an40 od41 an41 od42 an42 od43 an43 od44 an44 od45 an45 od46 an46 od47 an47 od48 an48:Option Addr} {sl1 sl2 sl3 sl4 sl5 sl6 sl7 sl8 sl9 sl10 sl11 sl12 sl13 sl14 sl15 sl16 sl17 sl18 sl19 sl20 sl21 sl22 sl23 sl24 sl25 sl26 sl27 sl28 sl29 sl30 sl31 sl32 sl33 sl34 sl35 sl36 sl37 sl38 sl39 sl40 sl41 sl42 sl43 sl44 sl45 sl46 sl47 sl48:Array (Option Value)} {oc1 kV1 dc1 pm1 cd1 ct1 oc2 kV2 dc2 pm2 cd2 ct2 oc3 kV3 dc3 pm3 cd3 ct3 oc4 kV4 dc4 pm4 cd4 ct4 oc5 kV5 dc5 pm5 cd5 ct5 oc6 kV6 dc6 pm6 cd6 ct6 oc7 kV7 dc7 pm7 cd7 ct7 oc8 kV8 dc8 pm8 cd8 ct8 oc9 kV9 dc9 pm9 cd9 ct9 oc10 kV10 dc10 pm10 cd10 ct10 oc11 kV11 dc11 pm11 cd11 ct11 oc12 kV12 dc12 pm12 cd12 ct12 oc13 kV13 dc13 pm13 cd13 ct13 oc14 kV14 dc14 pm14 cd14 ct14 oc15 kV15 dc15 pm15 cd15 ct15 oc16 kV16 dc16 pm16 cd16 ct16 oc17 kV17 dc17 pm17 cd17 ct17 oc18 kV18 dc18 pm18 cd18 ct18 oc19 kV19 dc19 pm19 cd19 ct19 oc20 kV20 dc20 pm20 cd20 ct20 oc21 kV21 dc21 pm21 cd21 ct21 oc22 kV22 dc22 pm22 cd22 ct22 oc23 kV23 dc23 pm23 cd23 ct23 oc24 kV24 dc24 pm24 cd24 ct24 oc25 kV25 dc25 pm25 cd25 ct25 oc26 kV26 dc26 pm26 cd26 ct26 oc27 kV27 dc27 pm27 cd27 ct27 oc28 kV28 dc28 pm28 cd28 ct28 oc29 kV29 dc29 pm29 cd29 ct29 oc30 kV30 dc30 pm30 cd30 ct30 oc31 kV31 dc31 pm31 cd31 ct31 oc32 kV32 dc32 pm32 cd32 ct32 oc33 kV33 dc33 pm33 cd33 ct33 oc34 kV34 dc34 pm34 cd34 ct34 oc35 kV35 dc35 pm35 cd35 ct35 oc36 kV36 dc36 pm36 cd36 ct36 oc37 kV37 dc37 pm37 cd37 ct37 oc38 kV38 dc38 pm38 cd38 ct38 oc39 kV39 dc39 pm39 cd39 ct39 oc40 kV40 dc40 pm40 cd40 ct40 oc41 kV41 dc41 pm41 cd41 ct41 oc42 kV42 dc42 pm42 cd42 ct42 oc43 kV43 dc43 pm43 cd43 ct43 oc44 kV44 dc44 pm44 cd44 ct44 oc45 kV45 dc45 pm45 cd45 ct45 oc46 kV46 dc46 pm46 cd46 ct46 oc47 kV47 dc47 pm47 cd47 ct47 oc48 kV48 dc48 pm48 cd48 ct48:Value}
  (a1:PySem.W.nsIn K mainGlobals "is_whole"=some (some (.ref f1))) (l1:K.lookup f1=some ⟨oc1,od1,.func (PySem.W.fnOf "is_whole" "is_whole" (Zo ZaT) (Zn ZaT) (Zh ZaT) .none kV1 dc1 pm1 an1 cd1 ct1),sl1⟩) (c1:PySem.W.codeIn K cd1 "is_whole"=true) (k1:PySem.W.keepIn K (.ref f1)=true)
  (a2:PySem.W.nsIn K mainGlobals "greatest_divisor"=some (some (.ref f2))) (l2:K.lookup f2=some ⟨oc2,od2,.func (PySem.W.fnOf "greatest_divisor" "greatest_divisor" (Zo ZM) (Zn ZM) (Zh ZM) .none kV2 dc2 pm2 an2 cd2 ct2),sl2⟩) (c2:PySem.W.codeIn K cd2 "greatest_divisor"=true) (k2:PySem.W.keepIn K (.ref f2)=true)
  (a3:PySem.W.nsIn K mainGlobals "crossed"=some (some (.ref f3))) (l3:K.lookup f3=some ⟨oc3,od3,.func (PySem.W.fnOf "crossed" "crossed" (Zo Zbp) (Zn Zbp) (Zh Zbp) .none kV3 dc3 pm3 an3 cd3 ct3),sl3⟩) (c3:PySem.W.codeIn K cd3 "crossed"=true) (k3:PySem.W.keepIn K (.ref f3)=true)
  (a4:PySem.W.nsIn K mainGlobals "product"=some (some (.ref f4))) (l4:K.lookup f4=some ⟨oc4,od4,.func (PySem.W.fnOf "product" "product" (Zo Zbq) (Zn Zbq) (Zh Zbq) .none kV4 dc4 pm4 an4 cd4 ct4),sl4⟩) (c4:PySem.W.codeIn K cd4 "product"=true) (k4:PySem.W.keepIn K (.ref f4)=true)
  (a5:PySem.W.nsIn K mainGlobals "following"=some (some (.ref f5))) (l5:K.lookup f5=some ⟨oc5,od5,.func (PySem.W.fnOf "following" "following" (Zo ZaD) (Zn ZaD) (Zh ZaD) .none kV5 dc5 pm5 an5 cd5 ct5),sl5⟩) (c5:PySem.W.codeIn K cd5 "following"=true) (k5:PySem.W.keepIn K (.ref f5)=true)
  (a6:PySem.W.nsIn K mainGlobals "unspanned"=some (some (.ref f6))) (l6:K.lookup f6=some ⟨oc6,od6,.func (PySem.W.fnOf "unspanned" "unspanned" (Zo ZaE) (Zn ZaE) (Zh ZaE) .none kV6 dc6 pm6 an6 cd6 ct6),sl6⟩) (c6:PySem.W.codeIn K cd6 "unspanned"=true) (k6:PySem.W.keepIn K (.ref f6)=true)
  (a7:PySem.W.nsIn K mainGlobals "ask_smooth"=some (some (.ref f7))) (l7:K.lookup f7=some ⟨oc7,od7,.func (PySem.W.fnOf "ask_smooth" "ask_smooth" (Zo Zar) (Zn Zar) (Zh Zar) .none kV7 dc7 pm7 an7 cd7 ct7),sl7⟩) (c7:PySem.W.codeIn K cd7 "ask_smooth"=true) (k7:PySem.W.keepIn K (.ref f7)=true)
  (a8:PySem.W.nsIn K mainGlobals "numbers"=some (some (.ref f8))) (l8:K.lookup f8=some ⟨oc8,od8,.func (PySem.W.fnOf "numbers" "numbers" (Zo Za8) (Zn Za8) (Zh Za8) .none kV8 dc8 pm8 an8 cd8 ct8),sl8⟩) (c8:PySem.W.codeIn K cd8 "numbers"=true) (k8:PySem.W.keepIn K (.ref f8)=true)
  (a9:PySem.W.nsIn K mainGlobals "ratio"=some (some (.ref f9))) (l9:K.lookup f9=some ⟨oc9,od9,.func (PySem.W.fnOf "ratio" "ratio" (Zo ZcC) (Zn ZcC) (Zh ZcC) .none kV9 dc9 pm9 an9 cd9 ct9),sl9⟩) (c9:PySem.W.codeIn K cd9 "ratio"=true) (k9:PySem.W.keepIn K (.ref f9)=true)
  (a10:PySem.W.nsIn K mainGlobals "minus"=some (some (.ref f10))) (l10:K.lookup f10=some ⟨oc10,od10,.func (PySem.W.fnOf "minus" "minus" (Zo ZcD) (Zn ZcD) (Zh ZcD) .none kV10 dc10 pm10 an10 cd10 ct10),sl10⟩) (c10:PySem.W.codeIn K cd10 "minus"=true) (k10:PySem.W.keepIn K (.ref f10)=true)
  (a11:PySem.W.nsIn K mainGlobals "times"=some (some (.ref f11))) (l11:K.lookup f11=some ⟨oc11,od11,.func (PySem.W.fnOf "times" "times" (Zo ZcE) (Zn ZcE) (Zh ZcE) .none kV11 dc11 pm11 an11 cd11 ct11),sl11⟩) (c11:PySem.W.codeIn K cd11 "times"=true) (k11:PySem.W.keepIn K (.ref f11)=true)
  (a12:PySem.W.nsIn K mainGlobals "less"=some (some (.ref f12))) (l12:K.lookup f12=some ⟨oc12,od12,.func (PySem.W.fnOf "less" "less" (Zo Zd6) (Zn Zd6) (Zh Zd6) .none kV12 dc12 pm12 an12 cd12 ct12),sl12⟩) (c12:PySem.W.codeIn K cd12 "less"=true) (k12:PySem.W.keepIn K (.ref f12)=true)
  (a13:PySem.W.nsIn K mainGlobals "common_bottom"=some (some (.ref f13))) (l13:K.lookup f13=some ⟨oc13,od13,.func (PySem.W.fnOf "common_bottom" "common_bottom" (Zo ZX) (Zn ZX) (Zh ZX) .none kV13 dc13 pm13 an13 cd13 ct13),sl13⟩) (c13:PySem.W.codeIn K cd13 "common_bottom"=true) (k13:PySem.W.keepIn K (.ref f13)=true)
  (a14:PySem.W.nsIn K mainGlobals "stretched"=some (some (.ref f14))) (l14:K.lookup f14=some ⟨oc14,od14,.func (PySem.W.fnOf "stretched" "stretched" (Zo ZaF) (Zn ZaF) (Zh ZaF) .none kV14 dc14 pm14 an14 cd14 ct14),sl14⟩) (c14:PySem.W.codeIn K cd14 "stretched"=true) (k14:PySem.W.keepIn K (.ref f14)=true)
  (a15:PySem.W.nsIn K mainGlobals "ask_height"=some (some (.ref f15))) (l15:K.lookup f15=some ⟨oc15,od15,.func (PySem.W.fnOf "ask_height" "ask_height" (Zo Zas) (Zn Zas) (Zh Zas) .none kV15 dc15 pm15 an15 cd15 ct15),sl15⟩) (c15:PySem.W.codeIn K cd15 "ask_height"=true) (k15:PySem.W.keepIn K (.ref f15)=true)
  (a16:PySem.W.nsIn K mainGlobals "slope_through"=some (some (.ref f16))) (l16:K.lookup f16=some ⟨oc16,od16,.func (PySem.W.fnOf "slope_through" "slope_through" (Zo ZY) (Zn ZY) (Zh ZY) .none kV16 dc16 pm16 an16 cd16 ct16),sl16⟩) (c16:PySem.W.codeIn K cd16 "slope_through"=true) (k16:PySem.W.keepIn K (.ref f16)=true)
  (a17:PySem.W.nsIn K mainGlobals "edge"=some (some (.ref f17))) (l17:K.lookup f17=some ⟨oc17,od17,.func (PySem.W.fnOf "edge" "edge" (Zo Zdw) (Zn Zdw) (Zh Zdw) .none kV17 dc17 pm17 an17 cd17 ct17),sl17⟩) (c17:PySem.W.codeIn K cd17 "edge"=true) (k17:PySem.W.keepIn K (.ref f17)=true)
  (a18:PySem.W.nsIn K mainGlobals "in_order"=some (some (.ref f18))) (l18:K.lookup f18=some ⟨oc18,od18,.func (PySem.W.fnOf "in_order" "in_order" (Zo ZaU) (Zn ZaU) (Zh ZaU) .none kV18 dc18 pm18 an18 cd18 ct18),sl18⟩) (c18:PySem.W.codeIn K cd18 "in_order"=true) (k18:PySem.W.keepIn K (.ref f18)=true)
  (a19:PySem.W.nsIn K mainGlobals "body"=some (some (.ref f19))) (l19:K.lookup f19=some ⟨oc19,od19,.func (PySem.W.fnOf "body" "body" (Zo Zd7) (Zn Zd7) (Zh Zd7) .none kV19 dc19 pm19 an19 cd19 ct19),sl19⟩) (c19:PySem.W.codeIn K cd19 "body"=true) (k19:PySem.W.keepIn K (.ref f19)=true)
  (a20:PySem.W.nsIn K mainGlobals "width"=some (some (.ref f20))) (l20:K.lookup f20=some ⟨oc20,od20,.func (PySem.W.fnOf "width" "width" (Zo Zb8) (Zn Zb8) (Zh Zb8) .none kV20 dc20 pm20 an20 cd20 ct20),sl20⟩) (c20:PySem.W.codeIn K cd20 "width"=true) (k20:PySem.W.keepIn K (.ref f20)=true)
  (a21:PySem.W.nsIn K mainGlobals "lessened"=some (some (.ref f21))) (l21:K.lookup f21=some ⟨oc21,od21,.func (PySem.W.fnOf "lessened" "lessened" (Zo ZaV) (Zn ZaV) (Zh ZaV) .none kV21 dc21 pm21 an21 cd21 ct21),sl21⟩) (c21:PySem.W.codeIn K cd21 "lessened"=true) (k21:PySem.W.keepIn K (.ref f21)=true)
  (a22:PySem.W.nsIn K mainGlobals "least_wide"=some (some (.ref f22))) (l22:K.lookup f22=some ⟨oc22,od22,.func (PySem.W.fnOf "least_wide" "least_wide" (Zo Zat) (Zn Zat) (Zh Zat) .none kV22 dc22 pm22 an22 cd22 ct22),sl22⟩) (c22:PySem.W.codeIn K cd22 "least_wide"=true) (k22:PySem.W.keepIn K (.ref f22)=true)
  (a23:PySem.W.nsIn K mainGlobals "two_ways"=some (some (.ref f23))) (l23:K.lookup f23=some ⟨oc23,od23,.func (PySem.W.fnOf "two_ways" "two_ways" (Zo ZaW) (Zn ZaW) (Zh ZaW) .none kV23 dc23 pm23 an23 cd23 ct23),sl23⟩) (c23:PySem.W.codeIn K cd23 "two_ways"=true) (k23:PySem.W.keepIn K (.ref f23)=true)
  (a24:PySem.W.nsIn K mainGlobals "dots_across"=some (some (.ref f24))) (l24:K.lookup f24=some ⟨oc24,od24,.func (PySem.W.fnOf "dots_across" "dots_across" (Zo Z2) (Zn Z2) (Zh Z2) .none kV24 dc24 pm24 an24 cd24 ct24),sl24⟩) (c24:PySem.W.codeIn K cd24 "dots_across"=true) (k24:PySem.W.keepIn K (.ref f24)=true)
  (a25:PySem.W.nsIn K mainGlobals "dots"=some (some (.ref f25))) (l25:K.lookup f25=some ⟨oc25,od25,.func (PySem.W.fnOf "dots" "dots" (Zo ZcL) (Zn ZcL) (Zh ZcL) .none kV25 dc25 pm25 an25 cd25 ct25),sl25⟩) (c25:PySem.W.codeIn K cd25 "dots"=true) (k25:PySem.W.keepIn K (.ref f25)=true)
  (a26:PySem.W.nsIn K mainGlobals "partner"=some (some (.ref f26))) (l26:K.lookup f26=some ⟨oc26,od26,.func (PySem.W.fnOf "partner" "partner" (Zo Zbr) (Zn Zbr) (Zh Zbr) .none kV26 dc26 pm26 an26 cd26 ct26),sl26⟩) (c26:PySem.W.codeIn K cd26 "partner"=true) (k26:PySem.W.keepIn K (.ref f26)=true)
  (a27:PySem.W.nsIn K mainGlobals "first_behind"=some (some (.ref f27))) (l27:K.lookup f27=some ⟨oc27,od27,.func (PySem.W.fnOf "first_behind" "first_behind" (Zo Z6) (Zn Z6) (Zh Z6) .none kV27 dc27 pm27 an27 cd27 ct27),sl27⟩) (c27:PySem.W.codeIn K cd27 "first_behind"=true) (k27:PySem.W.keepIn K (.ref f27)=true)
  (a28:PySem.W.nsIn K mainGlobals "expanded"=some (some (.ref f28))) (l28:K.lookup f28=some ⟨oc28,od28,.func (PySem.W.fnOf "expanded" "expanded" (Zo ZaX) (Zn ZaX) (Zh ZaX) .none kV28 dc28 pm28 an28 cd28 ct28),sl28⟩) (c28:PySem.W.codeIn K cd28 "expanded"=true) (k28:PySem.W.keepIn K (.ref f28)=true)
  (a29:PySem.W.nsIn K mainGlobals "row"=some (some (.ref f29))) (l29:K.lookup f29=some ⟨oc29,od29,.func (PySem.W.fnOf "row" "row" (Zo Zhu) (Zn Zhu) (Zh Zhu) .none kV29 dc29 pm29 an29 cd29 ct29),sl29⟩) (c29:PySem.W.codeIn K cd29 "row"=true) (k29:PySem.W.keepIn K (.ref f29)=true)
  (a30:PySem.W.nsIn K mainGlobals "between"=some (some (.ref f30))) (l30:K.lookup f30=some ⟨oc30,od30,.func (PySem.W.fnOf "between" "between" (Zo Zbs) (Zn Zbs) (Zh Zbs) .none kV30 dc30 pm30 an30 cd30 ct30),sl30⟩) (c30:PySem.W.codeIn K cd30 "between"=true) (k30:PySem.W.keepIn K (.ref f30)=true)
  (a31:PySem.W.nsIn K mainGlobals "least_round"=some (some (.ref f31))) (l31:K.lookup f31=some ⟨oc31,od31,.func (PySem.W.fnOf "least_round" "least_round" (Zo Zad) (Zn Zad) (Zh Zad) .none kV31 dc31 pm31 an31 cd31 ct31),sl31⟩) (c31:PySem.W.codeIn K cd31 "least_round"=true) (k31:PySem.W.keepIn K (.ref f31)=true)
  (a32:PySem.W.nsIn K mainGlobals "marked_row"=some (some (.ref f32))) (l32:K.lookup f32=some ⟨oc32,od32,.func (PySem.W.fnOf "marked_row" "marked_row" (Zo Zab) (Zn Zab) (Zh Zab) .none kV32 dc32 pm32 an32 cd32 ct32),sl32⟩) (c32:PySem.W.codeIn K cd32 "marked_row"=true) (k32:PySem.W.keepIn K (.ref f32)=true)
  (a33:PySem.W.nsIn K mainGlobals "first_reading"=some (some (.ref f33))) (l33:K.lookup f33=some ⟨oc33,od33,.func (PySem.W.fnOf "first_reading" "first_reading" (Zo ZZ) (Zn ZZ) (Zh ZZ) .none kV33 dc33 pm33 an33 cd33 ct33),sl33⟩) (c33:PySem.W.codeIn K cd33 "first_reading"=true) (k33:PySem.W.keepIn K (.ref f33)=true)
  (a34:PySem.W.nsIn K mainGlobals "least_row"=some (some (.ref f34))) (l34:K.lookup f34=some ⟨oc34,od34,.func (PySem.W.fnOf "least_row" "least_row" (Zo ZaG) (Zn ZaG) (Zh ZaG) .none kV34 dc34 pm34 an34 cd34 ct34),sl34⟩) (c34:PySem.W.codeIn K cd34 "least_row"=true) (k34:PySem.W.keepIn K (.ref f34)=true)
  (a35:PySem.W.nsIn K mainGlobals "ask_one"=some (some (.ref f35))) (l35:K.lookup f35=some ⟨oc35,od35,.func (PySem.W.fnOf "ask_one" "ask_one" (Zo Zbt) (Zn Zbt) (Zh Zbt) .none kV35 dc35 pm35 an35 cd35 ct35),sl35⟩) (c35:PySem.W.codeIn K cd35 "ask_one"=true) (k35:PySem.W.keepIn K (.ref f35)=true)
  (a36:PySem.W.nsIn K mainGlobals "next_dot"=some (some (.ref f36))) (l36:K.lookup f36=some ⟨oc36,od36,.func (PySem.W.fnOf "next_dot" "next_dot" (Zo ZaZ) (Zn ZaZ) (Zh ZaZ) .none kV36 dc36 pm36 an36 cd36 ct36),sl36⟩) (c36:PySem.W.codeIn K cd36 "next_dot"=true) (k36:PySem.W.keepIn K (.ref f36)=true)
  (a37:PySem.W.nsIn K mainGlobals "opposite_one"=some (some (.ref f37))) (l37:K.lookup f37=some ⟨oc37,od37,.func (PySem.W.fnOf "opposite_one" "opposite_one" (Zo Z7) (Zn Z7) (Zh Z7) .none kV37 dc37 pm37 an37 cd37 ct37),sl37⟩) (c37:PySem.W.codeIn K cd37 "opposite_one"=true) (k37:PySem.W.keepIn K (.ref f37)=true)
  (a38:PySem.W.nsIn K mainGlobals "kind_of"=some (some (.ref f38))) (l38:K.lookup f38=some ⟨oc38,od38,.func (PySem.W.fnOf "kind_of" "kind_of" (Zo Zbu) (Zn Zbu) (Zh Zbu) .none kV38 dc38 pm38 an38 cd38 ct38),sl38⟩) (c38:PySem.W.codeIn K cd38 "kind_of"=true) (k38:PySem.W.keepIn K (.ref f38)=true)
  (a39:PySem.W.nsIn K mainGlobals "_law_cell_at"=some (some (.ref f39))) (l39:K.lookup f39=some ⟨oc39,od39,.func (PySem.W.fnOf "_law_cell_at" "_law_cell_at" (Zo Zae) (Zn Zae) (Zh Zae) .none kV39 dc39 pm39 an39 cd39 ct39),sl39⟩) (c39:PySem.W.codeIn K cd39 "_law_cell_at"=true) (k39:PySem.W.keepIn K (.ref f39)=true)
  (a40:PySem.W.nsIn K mainGlobals "_law_cross"=some (some (.ref f40))) (l40:K.lookup f40=some ⟨oc40,od40,.func (PySem.W.fnOf "_law_cross" "_law_cross" (Zo ZaH) (Zn ZaH) (Zh ZaH) .none kV40 dc40 pm40 an40 cd40 ct40),sl40⟩) (c40:PySem.W.codeIn K cd40 "_law_cross"=true) (k40:PySem.W.keepIn K (.ref f40)=true)
  (a41:PySem.W.nsIn K mainGlobals "_law_turn"=some (some (.ref f41))) (l41:K.lookup f41=some ⟨oc41,od41,.func (PySem.W.fnOf "_law_turn" "_law_turn" (Zo Za0) (Zn Za0) (Zh Za0) .none kV41 dc41 pm41 an41 cd41 ct41),sl41⟩) (c41:PySem.W.codeIn K cd41 "_law_turn"=true) (k41:PySem.W.keepIn K (.ref f41)=true)
  (a42:PySem.W.nsIn K mainGlobals "_law_smooth"=some (some (.ref f42))) (l42:K.lookup f42=some ⟨oc42,od42,.func (PySem.W.fnOf "_law_smooth" "_law_smooth" (Zo Zav) (Zn Zav) (Zh Zav) .none kV42 dc42 pm42 an42 cd42 ct42),sl42⟩) (c42:PySem.W.codeIn K cd42 "_law_smooth"=true) (k42:PySem.W.keepIn K (.ref f42)=true)
  (a43:PySem.W.nsIn K mainGlobals "_law_tags"=some (some (.ref f43))) (l43:K.lookup f43=some ⟨oc43,od43,.func (PySem.W.fnOf "_law_tags" "_law_tags" (Zo ZaI) (Zn ZaI) (Zh ZaI) .none kV43 dc43 pm43 an43 cd43 ct43),sl43⟩) (c43:PySem.W.codeIn K cd43 "_law_tags"=true) (k43:PySem.W.keepIn K (.ref f43)=true)
  (a44:PySem.W.nsIn K mainGlobals "_law_rough"=some (some (.ref f44))) (l44:K.lookup f44=some ⟨oc44,od44,.func (PySem.W.fnOf "_law_rough" "_law_rough" (Zo ZaJ) (Zn ZaJ) (Zh ZaJ) .none kV44 dc44 pm44 an44 cd44 ct44),sl44⟩) (c44:PySem.W.codeIn K cd44 "_law_rough"=true) (k44:PySem.W.keepIn K (.ref f44)=true)
  (a45:PySem.W.nsIn K mainGlobals "_law_kinds"=some (some (.ref f45))) (l45:K.lookup f45=some ⟨oc45,od45,.func (PySem.W.fnOf "_law_kinds" "_law_kinds" (Zo ZaK) (Zn ZaK) (Zh ZaK) .none kV45 dc45 pm45 an45 cd45 ct45),sl45⟩) (c45:PySem.W.codeIn K cd45 "_law_kinds"=true) (k45:PySem.W.keepIn K (.ref f45)=true)
  (a46:PySem.W.nsIn K mainGlobals "_law_steep"=some (some (.ref f46))) (l46:K.lookup f46=some ⟨oc46,od46,.func (PySem.W.fnOf "_law_steep" "_law_steep" (Zo ZaL) (Zn ZaL) (Zh ZaL) .none kV46 dc46 pm46 an46 cd46 ct46),sl46⟩) (c46:PySem.W.codeIn K cd46 "_law_steep"=true) (k46:PySem.W.keepIn K (.ref f46)=true)
  (a47:PySem.W.nsIn K mainGlobals "_law_kind_of"=some (some (.ref f47))) (l47:K.lookup f47=some ⟨oc47,od47,.func (PySem.W.fnOf "_law_kind_of" "_law_kind_of" (Zo Zaf) (Zn Zaf) (Zh Zaf) .none kV47 dc47 pm47 an47 cd47 ct47),sl47⟩) (c47:PySem.W.codeIn K cd47 "_law_kind_of"=true) (k47:PySem.W.keepIn K (.ref f47)=true)
  (a48:PySem.W.nsIn K mainGlobals "law"=some (some (.ref f48))) (l48:K.lookup f48=some ⟨oc48,od48,.func (PySem.W.fnOf "law" "law" (Zo ZeM) (Zn ZeM) (Zh ZeM) .none kV48 dc48 pm48 an48 cd48 ct48),sl48⟩) (c48:PySem.W.codeIn K cd48 "law"=true) (k48:PySem.W.keepIn K (.ref f48)=true)
  (z_isinstance:PySem.W.nsIn K mainGlobals "isinstance"=some none)
  (z_int:PySem.W.nsIn K mainGlobals "int"=some none)
  (z_bool:PySem.W.nsIn K mainGlobals "bool"=some none)
  (z_abs:PySem.W.nsIn K mainGlobals "abs"=some none)
  (z_len:PySem.W.nsIn K mainGlobals "len"=some none)
  (z_enumerate:PySem.W.nsIn K mainGlobals "enumerate"=some none)
  (z_range:PySem.W.nsIn K mainGlobals "range"=some none)
  (z_zip:PySem.W.nsIn K mainGlobals "zip"=some none)
  (z_list:PySem.W.nsIn K mainGlobals "list"=some none)
  (z_max:PySem.W.nsIn K mainGlobals "max"=some none)
  (z_min:PySem.W.nsIn K mainGlobals "min"=some none)
  (z_tuple:PySem.W.nsIn K mainGlobals "tuple"=some none)
  (z_ValueError:PySem.W.nsIn K mainGlobals "ValueError"=some none)
  (q_ex_NotSmooth:Zfc K "NotSmooth"=true)
  (q_ex_NoRatio:Zfc K "NoRatio"=true)
  (q_ex_NoHeight:Zfc K "NoHeight"=true)
  (q_ex_NoWedge:Zfc K "NoWedge"=true)
  (q_ex_NoOne:Zfc K "NoOne"=true)
  (q_co_ROWS:Zj8 K "ROWS" Zjh=true)
  (q_it_NotSmooth:Zaj K "NotSmooth" [(PySem.Str.ofString "NotSmooth",true),(PySem.Str.ofString "NoRatio",false),(PySem.Str.ofString "NoHeight",false),(PySem.Str.ofString "NoWedge",false),(PySem.Str.ofString "NoOne",false)]=true)
  (q_it_NoRound:Zaj K "NoRound" [(PySem.Str.ofString "NotSmooth",false),(PySem.Str.ofString "NoRatio",false),(PySem.Str.ofString "NoHeight",false),(PySem.Str.ofString "NoWedge",false),(PySem.Str.ofString "NoOne",false)]=true)
  (q_it_NoTurning:Zaj K "NoTurning" [(PySem.Str.ofString "NotSmooth",false),(PySem.Str.ofString "NoRatio",false),(PySem.Str.ofString "NoHeight",false),(PySem.Str.ofString "NoWedge",false),(PySem.Str.ofString "NoOne",false)]=true)
  (q_it_NoRatio:Zaj K "NoRatio" [(PySem.Str.ofString "NotSmooth",false),(PySem.Str.ofString "NoRatio",true),(PySem.Str.ofString "NoHeight",false),(PySem.Str.ofString "NoWedge",false),(PySem.Str.ofString "NoOne",false)]=true)
  (q_it_NoMinus:Zaj K "NoMinus" [(PySem.Str.ofString "NotSmooth",false),(PySem.Str.ofString "NoRatio",false),(PySem.Str.ofString "NoHeight",false),(PySem.Str.ofString "NoWedge",false),(PySem.Str.ofString "NoOne",false)]=true)
  (q_it_NoPlace:Zaj K "NoPlace" [(PySem.Str.ofString "NotSmooth",false),(PySem.Str.ofString "NoRatio",false),(PySem.Str.ofString "NoHeight",false),(PySem.Str.ofString "NoWedge",false),(PySem.Str.ofString "NoOne",false)]=true)
  (q_it_NoRow:Zaj K "NoRow" [(PySem.Str.ofString "NotSmooth",false),(PySem.Str.ofString "NoRatio",false),(PySem.Str.ofString "NoHeight",false),(PySem.Str.ofString "NoWedge",false),(PySem.Str.ofString "NoOne",false)]=true)
  (q_it_NoWedge:Zaj K "NoWedge" [(PySem.Str.ofString "NotSmooth",false),(PySem.Str.ofString "NoRatio",false),(PySem.Str.ofString "NoHeight",false),(PySem.Str.ofString "NoWedge",true),(PySem.Str.ofString "NoOne",false)]=true)
  (q_it_NoBody:Zaj K "NoBody" [(PySem.Str.ofString "NotSmooth",false),(PySem.Str.ofString "NoRatio",false),(PySem.Str.ofString "NoHeight",false),(PySem.Str.ofString "NoWedge",false),(PySem.Str.ofString "NoOne",false)]=true)
  (q_it_NoBend:Zaj K "NoBend" [(PySem.Str.ofString "NotSmooth",false),(PySem.Str.ofString "NoRatio",false),(PySem.Str.ofString "NoHeight",false),(PySem.Str.ofString "NoWedge",false),(PySem.Str.ofString "NoOne",false)]=true)
  (q_it_NoHeight:Zaj K "NoHeight" [(PySem.Str.ofString "NotSmooth",false),(PySem.Str.ofString "NoRatio",false),(PySem.Str.ofString "NoHeight",true),(PySem.Str.ofString "NoWedge",false),(PySem.Str.ofString "NoOne",false)]=true)
  (q_it_NoFour:Zaj K "NoFour" [(PySem.Str.ofString "NotSmooth",false),(PySem.Str.ofString "NoRatio",false),(PySem.Str.ofString "NoHeight",false),(PySem.Str.ofString "NoWedge",false),(PySem.Str.ofString "NoOne",false)]=true)
  (q_it_Unknown:Zaj K "Unknown" [(PySem.Str.ofString "NotSmooth",false),(PySem.Str.ofString "NoRatio",false),(PySem.Str.ofString "NoHeight",false),(PySem.Str.ofString "NoWedge",false),(PySem.Str.ofString "NoOne",false)]=true)
  (q_it_NoText:Zaj K "NoText" [(PySem.Str.ofString "NotSmooth",false),(PySem.Str.ofString "NoRatio",false),(PySem.Str.ofString "NoHeight",false),(PySem.Str.ofString "NoWedge",false),(PySem.Str.ofString "NoOne",false)]=true)
  (q_it_NoOne:Zaj K "NoOne" [(PySem.Str.ofString "NotSmooth",false),(PySem.Str.ofString "NoRatio",false),(PySem.Str.ofString "NoHeight",false),(PySem.Str.ofString "NoWedge",false),(PySem.Str.ofString "NoOne",true)]=true)
  (q_ib_ValueError:Zip K "ValueError" [(PySem.Str.ofString "NotSmooth",true),(PySem.Str.ofString "NoRatio",true),(PySem.Str.ofString "NoHeight",true),(PySem.Str.ofString "NoWedge",true),(PySem.Str.ofString "NoOne",true)]=true)
  (q_ct_RayError:ZgB K "RayError" [PySem.Str.ofString "NotSmooth",PySem.Str.ofString "NoRatio",PySem.Str.ofString "NoHeight",PySem.Str.ofString "NoWedge",PySem.Str.ofString "NoOne"]=true)
  : ∃ fd:FuncData,(∀ (s:Shared) (v:Value),BindsTo s fd ⟨[v],[]⟩ [("_law_script",v)])/\ ∀ base:Heap,K.In base->base.Ns mainGlobals mg->FnOk l.prog w K mg base (CXE l.prog w) 110 fa fd ["_law_script"] (spD K Zgo):=by
 have e:=hfa.symm.trans (PySem.W.mg_of X G a48)
 cases e
 have T:Txt K mg:=⟨fun c v e=>PySem.W.mg_of X G e,PySem.W.mg_none_of X G z_isinstance,PySem.W.mg_none_of X G z_int,PySem.W.mg_none_of X G z_bool,PySem.W.mg_none_of X G z_abs,PySem.W.mg_none_of X G z_len,PySem.W.mg_none_of X G z_enumerate,PySem.W.mg_none_of X G z_range,PySem.W.mg_none_of X G z_zip,PySem.W.mg_none_of X G z_list,PySem.W.mg_none_of X G z_max,PySem.W.mg_none_of X G z_min,PySem.W.mg_none_of X G z_tuple,PySem.W.mg_none_of X G z_ValueError,q_ex_NotSmooth,q_ex_NoRatio,q_ex_NoHeight,q_ex_NoWedge,q_ex_NoOne,q_co_ROWS,q_it_NotSmooth,q_it_NoRound,q_it_NoTurning,q_it_NoRatio,q_it_NoMinus,q_it_NoPlace,q_it_NoRow,q_it_NoWedge,q_it_NoBody,q_it_NoBend,q_it_NoHeight,q_it_NoFour,q_it_Unknown,q_it_NoText,q_it_NoOne,q_ib_ValueError,q_ct_RayError⟩
 have R1:=ZB (st:=ZaT) l1 c1 k1
 have R2:=ZB (st:=ZM) l2 c2 k2
 have R3:=ZB (st:=Zbp) l3 c3 k3
 have R4:=ZB (st:=Zbq) l4 c4 k4
 have R5:=ZB (st:=ZaD) l5 c5 k5
 have R6:=ZB (st:=ZaE) l6 c6 k6
 have R7:=ZB (st:=Zar) l7 c7 k7
 have R8:=ZB (st:=Za8) l8 c8 k8
 have R9:=ZB (st:=ZcC) l9 c9 k9
 have R10:=ZB (st:=ZcD) l10 c10 k10
 have R11:=ZB (st:=ZcE) l11 c11 k11
 have R12:=ZB (st:=Zd6) l12 c12 k12
 have R13:=ZB (st:=ZX) l13 c13 k13
 have R14:=ZB (st:=ZaF) l14 c14 k14
 have R15:=ZB (st:=Zas) l15 c15 k15
 have R16:=ZB (st:=ZY) l16 c16 k16
 have R17:=ZB (st:=Zdw) l17 c17 k17
 have R18:=ZB (st:=ZaU) l18 c18 k18
 have R19:=ZB (st:=Zd7) l19 c19 k19
 have R20:=ZB (st:=Zb8) l20 c20 k20
 have R21:=ZB (st:=ZaV) l21 c21 k21
 have R22:=ZB (st:=Zat) l22 c22 k22
 have R23:=ZB (st:=ZaW) l23 c23 k23
 have R24:=ZB (st:=Z2) l24 c24 k24
 have R25:=ZB (st:=ZcL) l25 c25 k25
 have R26:=ZB (st:=Zbr) l26 c26 k26
 have R27:=ZB (st:=Z6) l27 c27 k27
 have R28:=ZB (st:=ZaX) l28 c28 k28
 have R29:=ZB (st:=Zhu) l29 c29 k29
 have R30:=ZB (st:=Zbs) l30 c30 k30
 have R31:=ZB (st:=Zad) l31 c31 k31
 have R32:=ZB (st:=Zab) l32 c32 k32
 have R33:=ZB (st:=ZZ) l33 c33 k33
 have R34:=ZB (st:=ZaG) l34 c34 k34
 have R35:=ZB (st:=Zbt) l35 c35 k35
 have R36:=ZB (st:=ZaZ) l36 c36 k36
 have R37:=ZB (st:=Z7) l37 c37 k37
 have R38:=ZB (st:=Zbu) l38 c38 k38
 have R39:=ZB (st:=Zae) l39 c39 k39
 have R40:=ZB (st:=ZaH) l40 c40 k40
 have R41:=ZB (st:=Za0) l41 c41 k41
 have R42:=ZB (st:=Zav) l42 c42 k42
 have R43:=ZB (st:=ZaI) l43 c43 k43
 have R44:=ZB (st:=ZaJ) l44 c44 k44
 have R45:=ZB (st:=ZaK) l45 c45 k45
 have R46:=ZB (st:=ZaL) l46 c46 k46
 have R47:=ZB (st:=Zaf) l47 c47 k47
 have R48:=ZB (st:=ZeM) l48 c48 k48
 refine ⟨PySem.W.fnOf "law" "law" (Zo ZeM) (Zn ZeM) (Zh ZeM) .none kV48 dc48 pm48 an48 cd48 ct48,fun s v=> .of_eq rfl,fun base _ _=> ?_⟩
 have C1:Cal l.prog w K mg base "is_whole" 1 1 F_is_whole:=⟨f1,_,["thing"],Zgb R1 T,PySem.W.mg_of X G a1,k1,rfl,R1.binds (ps:=["thing"]) fun _ _ _ _ _ _=>ZeO fun _=>rfl⟩
 have C2:Cal l.prog w K mg base "greatest_divisor" 101 2 F_greatest_divisor:=⟨f2,_,["one","other"],Zb7 R2 T,PySem.W.mg_of X G a2,k2,rfl,R2.binds (ps:=["one","other"]) fun _ _ _ _ _ _=>ZcX fun _ _=>rfl⟩
 have C3:Cal l.prog w K mg base "crossed" 1 2 F_crossed:=⟨f3,_,["one","other"],Zhk R3 T,PySem.W.mg_of X G a3,k3,rfl,R3.binds (ps:=["one","other"]) fun _ _ _ _ _ _=>ZcX fun _ _=>rfl⟩
 have C4:Cal l.prog w K mg base "product" 1 2 F_product:=⟨f4,_,["one","other"],Zhm R4 T,PySem.W.mg_of X G a4,k4,rfl,R4.binds (ps:=["one","other"]) fun _ _ _ _ _ _=>ZcX fun _ _=>rfl⟩
 have C5:Cal l.prog w K mg base "following" 1 2 F_following:=⟨f5,_,["things","at"],Zfp R5 T,PySem.W.mg_of X G a5,k5,rfl,R5.binds (ps:=["things","at"]) fun _ _ _ _ _ _=>ZcX fun _ _=>rfl⟩
 have C6:Cal l.prog w K mg base "unspanned" 101 1 F_unspanned:=⟨f6,_,["rays"],Zfq R6 T C5 C3,PySem.W.mg_of X G a6,k6,rfl,R6.binds (ps:=["rays"]) fun _ _ _ _ _ _=>ZeO fun _=>rfl⟩
 have C7:Cal l.prog w K mg base "ask_smooth" 102 1 F_ask_smooth:=⟨f7,_,["rays"],ZeA R7 T C6,PySem.W.mg_of X G a7,k7,rfl,R7.binds (ps:=["rays"]) fun _ _ _ _ _ _=>ZeO fun _=>rfl⟩
 have C8:Cal l.prog w K mg base "numbers" 103 1 F_numbers:=⟨f8,_,["rays"],Zho R8 T C7 C5 C3,PySem.W.mg_of X G a8,k8,rfl,R8.binds (ps:=["rays"]) fun _ _ _ _ _ _=>ZeO fun _=>rfl⟩
 have C9:Cal l.prog w K mg base "ratio" 102 2 F_ratio:=⟨f9,_,["top","bottom"],Zkm R9 T C1 C2,PySem.W.mg_of X G a9,k9,rfl,R9.binds (ps:=["top","bottom"]) fun _ _ _ _ _ _=>ZcX fun _ _=>rfl⟩
 have C10:Cal l.prog w K mg base "minus" 103 2 F_minus:=⟨f10,_,["one","other"],Zko R10 T C9,PySem.W.mg_of X G a10,k10,rfl,R10.binds (ps:=["one","other"]) fun _ _ _ _ _ _=>ZcX fun _ _=>rfl⟩
 have C11:Cal l.prog w K mg base "times" 103 2 F_times:=⟨f11,_,["one","other"],Zkq R11 T C9,PySem.W.mg_of X G a11,k11,rfl,R11.binds (ps:=["one","other"]) fun _ _ _ _ _ _=>ZcX fun _ _=>rfl⟩
 have C12:Cal l.prog w K mg base "less" 1 2 F_less:=⟨f12,_,["one","other"],Zmv R12 T,PySem.W.mg_of X G a12,k12,rfl,R12.binds (ps:=["one","other"]) fun _ _ _ _ _ _=>ZcX fun _ _=>rfl⟩
 have C13:Cal l.prog w K mg base "common_bottom" 102 1 F_common_bottom:=⟨f13,_,["ones"],ZcS R13 T C2,PySem.W.mg_of X G a13,k13,rfl,R13.binds (ps:=["ones"]) fun _ _ _ _ _ _=>ZeO fun _=>rfl⟩
 have C14:Cal l.prog w K mg base "stretched" 1 2 F_stretched:=⟨f14,_,["one","bottom"],Zfs R14 T,PySem.W.mg_of X G a14,k14,rfl,R14.binds (ps:=["one","bottom"]) fun _ _ _ _ _ _=>ZcX fun _ _=>rfl⟩
 have C15:Cal l.prog w K mg base "ask_height" 101 2 F_ask_height:=⟨f15,_,["rays","height"],ZeD R15 T,PySem.W.mg_of X G a15,k15,rfl,R15.binds (ps:=["rays","height"]) fun _ _ _ _ _ _=>ZcX fun _ _=>rfl⟩
 have C16:Cal l.prog w K mg base "slope_through" 104 2 F_slope_through:=⟨f16,_,["rays","height"],ZcT R16 T C11 C10,PySem.W.mg_of X G a16,k16,rfl,R16.binds (ps:=["rays","height"]) fun _ _ _ _ _ _=>ZcX fun _ _=>rfl⟩
 have C17:Cal l.prog w K mg base "edge" 105 3 F_edge:=⟨f17,_,["rays","height","at"],Zmw R17 T C5 C3 C12 C9 C16,PySem.W.mg_of X G a17,k17,rfl,R17.binds (ps:=["rays","height","at"]) fun _ _ _ _ _ _=>ZrO fun _ _ _=>rfl⟩
 have C18:Cal l.prog w K mg base "in_order" 1 1 F_in_order:=⟨f18,_,["points"],Zge R18 T,PySem.W.mg_of X G a18,k18,rfl,R18.binds (ps:=["points"]) fun _ _ _ _ _ _=>ZeO fun _=>rfl⟩
 have C19:Cal l.prog w K mg base "body" 106 2 F_body:=⟨f19,_,["rays","height"],Zmx R19 T C7 C15 C17 C18,PySem.W.mg_of X G a19,k19,rfl,R19.binds (ps:=["rays","height"]) fun _ _ _ _ _ _=>ZcX fun _ _=>rfl⟩
 have C20:Cal l.prog w K mg base "width" 101 2 F_width:=⟨f20,_,["points","ray"],Zkr R20 T C4,PySem.W.mg_of X G a20,k20,rfl,R20.binds (ps:=["points","ray"]) fun _ _ _ _ _ _=>ZcX fun _ _=>rfl⟩
 have C21:Cal l.prog w K mg base "lessened" 1 3 F_lessened:=⟨f21,_,["wide","many","narrow"],Zgh R21 T,PySem.W.mg_of X G a21,k21,rfl,R21.binds (ps:=["wide","many","narrow"]) fun _ _ _ _ _ _=>ZrO fun _ _ _=>rfl⟩
 have C22:Cal l.prog w K mg base "least_wide" 102 3 F_least_wide:=⟨f22,_,["points","wide","narrow"],ZeE R22 T C20 C21,PySem.W.mg_of X G a22,k22,rfl,R22.binds (ps:=["points","wide","narrow"]) fun _ _ _ _ _ _=>ZrO fun _ _ _=>rfl⟩
 have C23:Cal l.prog w K mg base "two_ways" 103 1 F_two_ways:=⟨f23,_,["points"],Zgi R23 T C20 C22 C3,PySem.W.mg_of X G a23,k23,rfl,R23.binds (ps:=["points"]) fun _ _ _ _ _ _=>ZeO fun _=>rfl⟩
 have C24:Cal l.prog w K mg base "dots_across" 101 4 F_dots_across:=⟨f24,_,["rays","height","ways","given"],ZdO R24 T C3,PySem.W.mg_of X G a24,k24,rfl,R24.binds (ps:=["rays","height","ways","given"]) fun _ _ _ _ _ _=>Zum fun _ _ _ _=>rfl⟩
 have C25:Cal l.prog w K mg base "dots" 107 2 F_dots:=⟨f25,_,["rays","height"],Zmz R25 T C19 C14 C23 C4 C24,PySem.W.mg_of X G a25,k25,rfl,R25.binds (ps:=["rays","height"]) fun _ _ _ _ _ _=>ZcX fun _ _=>rfl⟩
 have C26:Cal l.prog w K mg base "partner" 101 1 F_partner:=⟨f26,_,["ray"],Zhs R26 T,PySem.W.mg_of X G a26,k26,rfl,R26.binds (ps:=["ray"]) fun _ _ _ _ _ _=>ZeO fun _=>rfl⟩
 have C27:Cal l.prog w K mg base "first_behind" 102 2 F_first_behind:=⟨f27,_,["u","v"],Zdy R27 T C26 C3,PySem.W.mg_of X G a27,k27,rfl,R27.binds (ps:=["u","v"]) fun _ _ _ _ _ _=>ZcX fun _ _=>rfl⟩
 have C28:Cal l.prog w K mg base "expanded" 101 2 F_expanded:=⟨f28,_,["top","bottom"],Zgj R28 T,PySem.W.mg_of X G a28,k28,rfl,R28.binds (ps:=["top","bottom"]) fun _ _ _ _ _ _=>ZcX fun _ _=>rfl⟩
 have C29:Cal l.prog w K mg base "row" 103 2 F_row:=⟨f29,_,["u","v"],ZpA R29 T C3 C27 C28,PySem.W.mg_of X G a29,k29,rfl,R29.binds (ps:=["u","v"]) fun _ _ _ _ _ _=>ZcX fun _ _=>rfl⟩
 have C30:Cal l.prog w K mg base "between" 104 2 F_between:=⟨f30,_,["u","v"],Zhv R30 T C29 C27,PySem.W.mg_of X G a30,k30,rfl,R30.binds (ps:=["u","v"]) fun _ _ _ _ _ _=>ZcX fun _ _=>rfl⟩
 have C31:Cal l.prog w K mg base "least_round" 105 1 F_least_round:=⟨f31,_,["rays"],ZdP R31 T C5 C30,PySem.W.mg_of X G a31,k31,rfl,R31.binds (ps:=["rays"]) fun _ _ _ _ _ _=>ZeO fun _=>rfl⟩
 have C32:Cal l.prog w K mg base "marked_row" 104 2 F_marked_row:=⟨f32,_,["rays","least"],ZeJ R32 T C8,PySem.W.mg_of X G a32,k32,rfl,R32.binds (ps:=["rays","least"]) fun _ _ _ _ _ _=>ZcX fun _ _=>rfl⟩
 have C33:Cal l.prog w K mg base "first_reading" 106 1 F_first_reading:=⟨f33,_,["rays"],ZcW R33 T C31 C32 C5,PySem.W.mg_of X G a33,k33,rfl,R33.binds (ps:=["rays"]) fun _ _ _ _ _ _=>ZeO fun _=>rfl⟩
 have C34:Cal l.prog w K mg base "least_row" 107 1 F_least_row:=⟨f34,_,["rays"],Zfx R34 T C33,PySem.W.mg_of X G a34,k34,rfl,R34.binds (ps:=["rays"]) fun _ _ _ _ _ _=>ZeO fun _=>rfl⟩
 have C35:Cal l.prog w K mg base "ask_one" 104 1 F_ask_one:=⟨f35,_,["rays"],Zhx R35 T C8,PySem.W.mg_of X G a35,k35,rfl,R35.binds (ps:=["rays"]) fun _ _ _ _ _ _=>ZeO fun _=>rfl⟩
 have C36:Cal l.prog w K mg base "next_dot" 2 2 F_next_dot:=⟨f36,_,["dot","others"],Zgl R36 T C3,PySem.W.mg_of X G a36,k36,rfl,R36.binds (ps:=["dot","others"]) fun _ _ _ _ _ _=>ZcX fun _ _=>rfl⟩
 have C37:Cal l.prog w K mg base "opposite_one" 108 1 F_opposite_one:=⟨f37,_,["rays"],ZdB R37 T C35 C25 C36,PySem.W.mg_of X G a37,k37,rfl,R37.binds (ps:=["rays"]) fun _ _ _ _ _ _=>ZeO fun _=>rfl⟩
 have C38:Cal l.prog w K mg base "kind_of" 108 1 F_kind_of:=⟨f38,_,["rays"],ZhA R38 T C35 C34,PySem.W.mg_of X G a38,k38,rfl,R38.binds (ps:=["rays"]) fun _ _ _ _ _ _=>ZeO fun _=>rfl⟩
 have C39:Cal l.prog w K mg base "_law_cell_at" 1 2 F_law_cell_at:=⟨f39,_,["_law_script","_law_k"],ZdQ R39 T,PySem.W.mg_of X G a39,k39,rfl,R39.binds (ps:=["_law_script","_law_k"]) fun _ _ _ _ _ _=>ZcX fun _ _=>rfl⟩
 have C40:Cal l.prog w K mg base "_law_cross" 1 2 F_law_cross:=⟨f40,_,["_law_one","_law_other"],Zfz R40 T,PySem.W.mg_of X G a40,k40,rfl,R40.binds (ps:=["_law_one","_law_other"]) fun _ _ _ _ _ _=>ZcX fun _ _=>rfl⟩
 have C41:Cal l.prog w K mg base "_law_turn" 101 2 F_law_turn:=⟨f41,_,["_law_rays","_law_cell"],Zgm R41 T,PySem.W.mg_of X G a41,k41,rfl,R41.binds (ps:=["_law_rays","_law_cell"]) fun _ _ _ _ _ _=>ZcX fun _ _=>rfl⟩
 have C42:Cal l.prog w K mg base "_law_smooth" 102 2 F_law_smooth:=⟨f42,_,["_law_cell","_law_most"],ZeL R42 T C41,PySem.W.mg_of X G a42,k42,rfl,R42.binds (ps:=["_law_cell","_law_most"]) fun _ _ _ _ _ _=>ZcX fun _ _=>rfl⟩
 have C43:Cal l.prog w K mg base "_law_tags" 2 1 F_law_tags:=⟨f43,_,["_law_rays"],Zgn R43 T C40,PySem.W.mg_of X G a43,k43,rfl,R43.binds (ps:=["_law_rays"]) fun _ _ _ _ _ _=>ZeO fun _=>rfl⟩
 have C44:Cal l.prog w K mg base "_law_rough" 103 1 F_law_rough:=⟨f44,_,["_law_cell"],ZfA R44 T C42 C40,PySem.W.mg_of X G a44,k44,rfl,R44.binds (ps:=["_law_cell"]) fun _ _ _ _ _ _=>ZeO fun _=>rfl⟩
 have C45:Cal l.prog w K mg base "_law_kinds" 1 1 F_law_kinds:=⟨f45,_,["_law_e"],ZfB R45 T,PySem.W.mg_of X G a45,k45,rfl,R45.binds (ps:=["_law_e"]) fun _ _ _ _ _ _=>ZeO fun _=>rfl⟩
 have C46:Cal l.prog w K mg base "_law_steep" 102 1 F_law_steep:=⟨f46,_,["_law_cell"],ZfC R46 T C43 C41,PySem.W.mg_of X G a46,k46,rfl,R46.binds (ps:=["_law_cell"]) fun _ _ _ _ _ _=>ZeO fun _=>rfl⟩
 have C47:Cal l.prog w K mg base "_law_kind_of" 109 2 F_law_kind_of:=⟨f47,_,["_law_way","_law_rays"],ZdR R47 T C37 C38 C45,PySem.W.mg_of X G a47,k47,rfl,R47.binds (ps:=["_law_way","_law_rays"]) fun _ _ _ _ _ _=>ZcX fun _ _=>rfl⟩
 exact ZpC R48 T C39 C46 C44 C47
end K65
end
section
namespace K65
open PySem PySem.Spec L2 DL
open CF (ZkW Rgh)
open CV (Kp)
noncomputable abbrev NoO:Str:=PySem.Str.ofString "NoOne"
noncomputable def fb:Nat->Nat × Nat
 |0=>(1,1)
 |i + 1=>((fb i).2,(fb i).1 + (fb i).2)
theorem ZpE: ∀ i,(fb i).1<=(fb i).2
 |0=>Nat.le_refl _
 |i + 1=>Nat.le_add_left _ _
theorem ZkZ: ∀ i,i<=10->(fb i).1<=89:=by decide
noncomputable def Fb (P S:Nat) (tt:List Pt):Prop:=(∀ q∈tt,q.1.natAbs<=P)/\ ∀ j:Int,0<=j->j < tt.length->(cy tt j).1.natAbs + (cy tt (j + 1)).1.natAbs<=S
theorem Fb.mono {P S P' S':Nat} {tt:List Pt} (h:Fb P S tt) (a:P<=P') (b:S<=S'):Fb P' S' tt:=⟨fun q hq=>Nat.le_trans (h.1 q hq) a,fun j h0 h1=>Nat.le_trans (h.2 j h0 h1) b⟩
theorem Fb.ins {P S k:Nat} {tt:List Pt} {y:Int} (h:Fb P S tt) (hP:P<=S) (hk:k < tt.length):Fb S (P + S) (ins tt k ((cy tt k).1 + (cy tt (k + 1)).1,y)):=by
 have ne:tt≠[]:=by intro z;rw[z] at hk;simp at hk
 have hp:((cy tt k).1 + (cy tt (k + 1)).1).natAbs<=S:=by
  have:=h.2 k (by omega) (by omega)
  omega
 have hc: ∀ j:Int,(cy tt j).1.natAbs<=P:=fun j=>h.1 _ (ZgP ne)
 refine ⟨fun q hq=> ?_,fun j h0 h1=> ?_⟩
 ·unfold DL.ins at hq
  simp only[List.mem_append,List.mem_cons,List.not_mem_nil,or_false] at hq
  rcases hq with hq | rfl | hq
  ·exact Nat.le_trans (h.1 q (List.mem_of_mem_take hq)) hP
  ·exact hp
  ·exact Nat.le_trans (h.1 q (List.mem_of_mem_drop hq)) hP
 ·rw[Zdo hk] at h1
  rw[ZgR hk h0 (by omega),ZgR hk (by omega) (by omega)]
  by_cases c1:j < k
  ·rw[if_pos (by omega),if_pos (by omega)]
   have:=h.2 j h0 (by omega)
   omega
  by_cases c2:j=k
  ·subst c2
   rw[if_pos (by omega),if_neg (by omega),if_pos rfl]
   have:=hc k
   dsimp only
   omega
  rw[if_neg (by omega)]
  by_cases c3:j=k + 1
  ·subst c3
   rw[if_pos rfl,if_neg (by omega),if_neg (by omega)]
   have:=hc (k + 1)
   rw[show (k:Int) + 1 + 1 - 1=k + 1 by omega]
   dsimp only
   omega
  ·rw[if_neg c3,if_neg (by omega),if_neg (by omega)]
   have:=h.2 (j - 1) (by omega) (by omega)
   rw[show j + 1 - 1=j - 1 + 1 by omega]
   omega
structure Stp (tt:List Pt):Prop where
 smo:Smo tt
 low: ∃ k:Nat,k < tt.length/\T tt k < -2
section
variable {Q:D->Sto->Prop} {E:Str->Sto->Prop} {M M':Sto} {n m:Nat} {rs:List Pt} {N B C:Ro->Sto->Prop} {R:D->Sto->Prop}
theorem ZpF {tt:List Pt} {v:Int} (h:(ZcR tt).min?=some v) (hv:v < -2): ∃ k:Nat,k < tt.length/\T tt k < -2:=by
 have hm:=List.min?_mem h
 unfold ZcR at hm
 obtain ⟨k,hk,e⟩:=List.mem_map.mp hm
 exact ⟨k,List.mem_range.mp hk,by omega⟩
theorem ZgW {tt:List Pt} (h:tt≠[]): ∃ v,(ZcR tt).min?=some v:=by
 cases e:(ZcR tt).min? with
 |some v=>exact ⟨v,rfl⟩
 |none=>
  rw[List.min?_eq_none_iff] at e
  have:=Zi6 (rs:=tt)
  rw[e] at this
  exact absurd (List.eq_nil_of_length_eq_zero this.symm) h
theorem ZmA {tt:List Pt} {v:Int} {k:Nat} (h:(ZcR tt).min?=some v) (hk:k < tt.length) (ht:T tt k < -2):v < -2:=by
 have:v<=T tt k:=(List.le_min?_iff h).mp (Int.le_refl v) _ (by unfold ZcR;exact List.mem_map.mpr ⟨k,List.mem_range.mpr hk,rfl⟩)
 omega
theorem ZfD (h:M[n]?=some (.lst (prs rs))) (hs:Stp rs) (hb:Nr 200 rs) (hl:rs.length<=1000) (q: ∀ M',Kp M M'->E NoO M'):wO (F_ask_one [.ref n] M) Q E:=by
 obtain ⟨k,hk,ht⟩:=hs.low
 obtain ⟨v,hv⟩:=ZgW hs.smo.ne
 have lo:=ZmA hv hk ht
 simp![F_ask_one,ZdA]
 refine CE.Zi9 h hs.smo (by omega) (fun p hp=>by have:=hb p hp;omega) ?_
 simp![CC.Zcp,hv]
 exact q _ Kp.app
theorem ZfE (h:M[n]?=some (.lst (prs rs))) (hs:Rgh rs) (hb:Nr 200 rs) (hl:rs.length<=1000) (q: ∀ M',Kp M M'->E ZkW M'):wO (F_ask_one [.ref n] M) Q E:=by
 simp![F_ask_one,ZdA]
 refine CF.Zja h hs (fun p hp=>by have:=hb p hp;omega) hl ?_
 exact q _ Kp.refl
theorem lkS (a b c d e:Bool):List.lookup ZkW [(PySem.Str.ofString "NotSmooth",a),(PySem.Str.ofString "NoRatio",b),(PySem.Str.ofString "NoHeight",c),(PySem.Str.ofString "NoWedge",d),(PySem.Str.ofString "NoOne",e)]=some a:=by cases a<;>rfl
theorem lkO (a b c d e:Bool):List.lookup NoO [(PySem.Str.ofString "NotSmooth",a),(PySem.Str.ofString "NoRatio",b),(PySem.Str.ofString "NoHeight",c),(PySem.Str.ofString "NoWedge",d),(PySem.Str.ofString "NoOne",e)]=some e:=by cases e<;>rfl
theorem ZrP:eqs M (.bl true) [D.bl false,D.bl false,D.bl false,D.bl false,D.bl false,D.bl false,D.bl false,D.bl false,D.bl false,D.bl false,D.bl false,D.bl false,D.bl true,D.bl false,D.bl false]=some [false,false,false,false,false,false,false,false,false,false,false,false,true,false,false]:=Zjb [false,false,false,false,false,false,false,false,false,false,false,false,true,false,false]
theorem ZrQ:List.countP id [false,false,false,false,false,false,false,false,false,false,false,false,true,false,false]=1:=rfl
theorem ZrR:List.findIdx? id [false,false,false,false,false,false,false,false,false,false,false,false,true,false,false]=some 12:=rfl
theorem ZrS:atI Zpo 12=some (.str (PySem.Str.ofString "NoOne")):=rfl
theorem Zk0 (q: ∀ M',Kp M M'->Q (.str ZkW) M'):wO (F_law_kinds [.err ZkW []] M) Q E:=by
 simp![F_law_kinds,Zca,lkS,Zug,Zuh,Zui]
 exact q _ Kp.app
theorem Zk1 (q: ∀ M',Kp M M'->Q (.str NoO) M'):wO (F_law_kinds [.err NoO []] M) Q E:=by
 simp![F_law_kinds,Zca,lkO,ZrP,ZrQ,ZrR,ZrS]
 exact q _ Kp.app
theorem ZpG {w:Int} (hw:w=0\/w=1) (h:M[n]?=some (.lst (prs rs))) (hs:Stp rs) (hb:Nr 200 rs) (hl:rs.length<=1000) (q: ∀ M',Kp M M'->Q (.str NoO) M'):wO (F_law_kind_of [.int w,.ref n] M) Q E:=by
 rcases hw with rfl | rfl
 ·simp![F_law_kind_of,ZaA,F_opposite_one,Zbm]
  refine ZfD h hs hb hl fun M1 K1=> ?_
  simp![ZF]
  refine ⟨by decide +kernel,Zk1 fun M2 K2=> ?_⟩
  exact q _ (K1.trans K2)
 ·simp![F_law_kind_of,ZaA,F_kind_of,ZdC]
  refine ZfD h hs hb hl fun M1 K1=> ?_
  simp![ZF]
  refine ⟨by decide +kernel,Zk1 fun M2 K2=> ?_⟩
  exact q _ (K1.trans K2)
theorem ZpH {w:Int} (hw:w=0\/w=1) (h:M[n]?=some (.lst (prs rs))) (hs:Rgh rs) (hb:Nr 200 rs) (hl:rs.length<=1000) (q: ∀ M',Kp M M'->Q (.str ZkW) M'):wO (F_law_kind_of [.int w,.ref n] M) Q E:=by
 rcases hw with rfl | rfl
 ·simp![F_law_kind_of,ZaA,F_opposite_one,Zbm]
  refine ZfE h hs hb hl fun M1 K1=> ?_
  simp![ZF]
  refine ⟨by decide +kernel,Zk0 fun M2 K2=> ?_⟩
  exact q _ (K1.trans K2)
 ·simp![F_law_kind_of,ZaA,F_kind_of,ZdC]
  refine ZfE h hs hb hl fun M1 K1=> ?_
  simp![ZF]
  refine ⟨by decide +kernel,Zk0 fun M2 K2=> ?_⟩
  exact q _ (K1.trans K2)
theorem ZrT {F:List D->Sto->Out D} {ds:List D} {L:Sto} {k:Nat} {o:SO} (hk:L[k]?=some o) (q: ∀ M3,Kp M M3->M3[M.length + k]?=some o->wO (F ds M3) Q E):wO (F ds (M ++ L)) Q E:=q _ Kp.app (by rw[ZkQ];exact hk)
theorem ZmB {c:Int} (hc:0<=c) (q: ∀ ss m M',Stp ss->Nr 200 ss->ss.length<=14->M'[m]?=some (.lst (prs ss))->Kp M M'->Q (.ref m) M'):wO (F_law_steep [.int c] M) Q E:=by
 simp![F_law_steep,ZdE]
 obtain ⟨far,hf,f0⟩: ∃ far:Int,3 + c % 40=far/\3<=far/\far<=42:=⟨_,rfl,by omega,by omega⟩
 rw[hf]
 have d0:0<=c / 40:=by omega
 generalize c / 40=c1 at *
 have K0:Kp M (M ++ [SO.lst [D.tup [D.int 1,D.int 0],D.tup [D.int 0,D.int 1],D.tup [D.int (-1),D.int far],D.tup [D.int 0,D.int (-1)]]]):=Kp.app
 have r0:(M ++ [SO.lst [D.tup [D.int 1,D.int 0],D.tup [D.int 0,D.int 1],D.tup [D.int (-1),D.int far],D.tup [D.int 0,D.int (-1)]]])[M.length]?=some (.lst (prs [(1,0),(0,1),(-1,far),(0,-1)])):=by rw[Zf0];rfl
 generalize M ++ [SO.lst [D.tup [D.int 1,D.int 0],D.tup [D.int 0,D.int 1],D.tup [D.int (-1),D.int far],D.tup [D.int 0,D.int (-1)]]]=M0 at *
 have sm:=CC.Zs1 far
 have lw:T [((1:Int),(0:Int)),(0,1),(-1,far),(0,-1)] 1 < -2:=by
  simp[T,X,cy]
  omega
 obtain ⟨lp,hlp,lp0⟩: ∃ lp:Nat,c1 % 11=lp/\lp<=10:=⟨(c1 % 11).toNat,by omega,by omega⟩
 rw[hlp]
 refine ⟨by omega,?_⟩
 rw[show ((lp:Int)).toNat=lp by omega]
 refine Zd3 (fun i ρ M'=> ∃ tt m c x1 x3 x4 x5 x6 x7 x8,ρ=[some (.int c),x1,some (.ref m),x3,x4,x5,x6,x7,x8]/\0<=c/\Stp tt/\(∀ q∈tt,q.2.natAbs<=200)/\Fb (fb i).1 (fb i).2 tt/\tt.length<=4 + i/\M'[m]?=some (.lst (prs tt))/\Kp M M') ⟨[(1,0),(0,1),(-1,far),(0,-1)],_,_,_,_,_,_,_,_,_,rfl,d0,⟨sm,1,by simp,lw⟩,?_,?_,by simp,r0,K0⟩ ?_ ?_
 ·intro q hq
  simp at hq
  rcases hq with rfl | rfl | rfl | rfl<;>simp<;>omega
 ·refine ⟨fun q hq=> ?_,fun j h0 h1=> ?_⟩
  ·simp at hq
   rcases hq with rfl | rfl | rfl | rfl<;>simp[fb]
  ·have:j=0\/j=1\/j=2\/j=3:=by simp at h1;omega
   rcases this with rfl | rfl | rfl | rfl<;>simp[cy,fb]
 ·rintro i ρ M2 hi ⟨tt,m,c,x1,x3,x4,x5,x6,x7,x8,rfl,c0,t1,t2,t3,t4,t5,K2⟩
  have tl:=t1.smo.len
  have hm:=Zbc t5
  simp![Zb1,t5]
  obtain ⟨a,ha,a0⟩: ∃ a:Nat,c / 11 % (tt.length:Int)=a/\a < tt.length:=by
   have:=ZaB (i:=c / 11) (m:=tt.length) (by omega)
   exact ⟨(c / 11 % (tt.length:Int)).toNat,by omega,this.1⟩
  rw[ha]
  have e1:=ZaB (i:=(a:Int) + 1) (m:=tt.length) (by omega)
  simp![t5,Zd4,Zdn]
  have sm:=t1.smo.ins a0
  have fi:=t3.ins (y:=(cy tt a).2 + (cy tt (a + 1)).2) (ZpE i) a0
  have le:((a:Int) + 1).toNat=a + 1:=by omega
  simp![t5,le,Zc3,Zc4]
  refine ⟨by rw[List.length_take];omega,by rw[List.length_take,List.length_drop];omega,?_⟩
  have il:=Zdo (p:=((cy tt a).1 + (cy tt (a + 1)).1,(cy tt a).2 + (cy tt (a + 1)).2)) a0
  have iy: ∀ p∈ins tt a ((cy tt a).1 + (cy tt (a + 1)).1,(cy tt a).2 + (cy tt (a + 1)).2),p.2.natAbs<=400:=by
   intro p hp
   unfold DL.ins at hp
   simp only[List.mem_append,List.mem_cons,List.not_mem_nil,or_false] at hp
   rcases hp with hp | rfl | hp
   ·exact Nat.le_trans (t2 p (List.mem_of_mem_take hp)) (by omega)
   ·have h1:=t2 _ (ZgP (i:=a) t1.smo.ne)
    have h2:=t2 _ (ZgP (i:=a + 1) t1.smo.ne)
    dsimp only
    omega
   ·exact Nat.le_trans (t2 p (List.mem_of_mem_drop hp)) (by omega)
  refine ZrT (k:=4) (o:= .lst (prs (ins tt a ((cy tt a).1 + (cy tt (a + 1)).1,(cy tt a).2 + (cy tt (a + 1)).2)))) rfl fun M3 K3 r3=> ?_
  have ff:=ZkZ (i + 1) (by omega)
  generalize ins tt a ((cy tt a).1 + (cy tt (a + 1)).1,(cy tt a).2 + (cy tt (a + 1)).2)=w at *
  have nrw:Nr 400 w:=fun p hp=>by
   have:=iy p hp
   have:p.1.natAbs<=(fb (i + 1)).1:=fi.1 p hp
   omega
  refine CC.Zpl r3 (by omega) (by omega) (fun p hp=>by have:=nrw p hp;omega) ?_
  obtain ⟨v,hv⟩:=ZgW sm.ne
  have l3:=Zbc r3
  simp![CC.Zcp,hv]
  refine ZpQ (fun b M'=>Kp M3 M'/\(b=true->v < -2/\ ∀ p∈w,p.2.natAbs<=200)) ?_ ?_
  ·refine brO (fun z=> ?_) (fun z=> ?_)
   ·have K4:Kp M3 (M3 ++ [SO.lst (nts (ZcR w))]):=Kp.app
    have r4:=K4.get r3
    generalize M3 ++ [SO.lst (nts (ZcR w))]=M4 at *
    simp![r4]
    refine CC.Zey 1 (.inr rfl) r4 (by omega) ?_
    generalize hB:((List.range w.length).map fun (i:Nat)=>(if 1=0 then (cy w i).1.natAbs else (cy w i).2.natAbs:Int))=Bs
    obtain ⟨u,hu⟩: ∃ u,Bs.max?=some u:=by
     cases e:Bs.max? with
     |some v=>exact ⟨v,rfl⟩
     |none=>
      rw[List.max?_eq_none_iff] at e
      have h0:Bs.length=0:=by rw[e];rfl
      rw[<- hB,List.length_map,List.length_range] at h0
      omega
    simp![CC.Zcp,hu]
    refine ⟨K4.trans Kp.app,fun y=>⟨z,fun p hp=> ?_⟩⟩
    have y':=of_decide_eq_true y
    obtain ⟨k,hk,rfl⟩:=List.getElem_of_mem hp
    have a2:=CC.ZkV hu y' (cy w k).2.natAbs (by
     subst hB
     exact List.mem_map.mpr ⟨k,List.mem_range.mpr hk,rfl⟩)
    rw[ZgN hk] at a2
    omega
   ·simp![ZF]
    exact ⟨Kp.app,fun y=>by cases y⟩
  rintro b M5 ⟨K5,hb⟩
  simp![ZF]
  refine ZpR (fun z=> ?_) (fun z=> ?_)
  ·obtain ⟨v2,y2⟩:=hb z
   simp![ZF]
   exact ⟨w,_,_,_,_,_,_,_,_,_,rfl,by omega,⟨sm,ZpF hv v2⟩,y2,fi,by omega,K5.get r3,(K2.trans K3).trans K5⟩
  ·simp![ZF]
   exact ⟨tt,_,_,_,_,_,_,_,_,_,rfl,by omega,t1,t2,t3.mono (ZpE i) (Nat.le_add_left _ _),by omega,((K3.trans K5).get t5),(K2.trans K3).trans K5⟩
 ·rintro ρ M2 ⟨tt,m,c,x1,x3,x4,x5,x6,x7,x8,rfl,c0,t1,t2,t3,t4,t5,K2⟩
  have nr:Nr 200 tt:=fun p hp=>by
   have:=t2 p hp
   have:=t3.1 p hp
   have:=ZkZ lp lp0
   omega
  simp![ZF]
  refine CC.Zi5 t5 t1.smo nr (by omega) fun ss m' M3 hx s1 s2 s3 s4 s5 s6=> ?_
  refine q ss m' M3 ⟨s1,?_⟩ s2 (by omega) s4 (K2.trans (Kp.of s5 s6))
  obtain ⟨k,hk,ht⟩:=t1.low
  refine ⟨k,by omega,?_⟩
  unfold T at ht ⊢
  rw[hx]
  exact ht
theorem ZmC {ns:List Int} {i:Nat} {x2 x3 x4 x5 x6:Option D} (hN: ∀ x2 x3 x4 x5 x6 M',N [some (.rol (ns.map D.int)),some (.int i),x2,x3,x4,x5,x6] M'):wS (ZeN [some (.rol (ns.map D.int)),some (.int i),x2,x3,x4,x5,x6] M) N R B C E:=by
 simp![ZeN]
 refine CC.Zi4 fun c c0=> ?_
 simp![ZF]
 refine ZmB c0 fun ss ms M1 s1 s2 s3 s4 K1=> ?_
 simp![ZF]
 refine CF.Zml (by omega) fun rs mr M2 r0 r1 r2 r3 r4 r5 l2 k2=> ?_
 have K2:=K1.trans (Kp.of l2 k2)
 have s5:=(Kp.of l2 k2).get s4
 have lm:=Zbc s4
 simp![s5]
 have r6:(M2 ++ [SO.lst (prs ss)])[mr]?=some (.lst (prs rs)):=by rw[Zdm (Zbc r5)];exact r5
 simp![r6]
 have K3:Kp M2 (M2 ++ [SO.lst (prs ss),SO.lst (prs rs),SO.lst [.ref M2.length,.ref (M2.length + 1)]]):=Kp.app
 have t1:(M2 ++ [SO.lst (prs ss),SO.lst (prs rs),SO.lst [.ref M2.length,.ref (M2.length + 1)]])[M2.length + 2]?=some (.lst [.ref M2.length,.ref (M2.length + 1)]):=by rw[ZkQ];rfl
 have t2:(M2 ++ [SO.lst (prs ss),SO.lst (prs rs),SO.lst [.ref M2.length,.ref (M2.length + 1)]])[M2.length]?=some (.lst (prs ss)):=by rw[Zf0];rfl
 have t3:(M2 ++ [SO.lst (prs ss),SO.lst (prs rs),SO.lst [.ref M2.length,.ref (M2.length + 1)]])[M2.length + 1]?=some (.lst (prs rs)):=by rw[ZkQ];rfl
 generalize M2 ++ [SO.lst (prs ss),SO.lst (prs rs),SO.lst [.ref M2.length,.ref (M2.length + 1)]]=M3 at *
 have u1:=K3.get s5
 have u2:=K3.get r5
 refine Zd3 (fun _ ρ M'=>Kp M3 M'/\ ∃ y,ρ=[some (.rol (ns.map D.int)),some (.int i),some (.int c),some (.ref ms),some (.ref mr),some (.ref (M2.length + 2)),y]) ⟨Kp.refl,_,rfl⟩ ?_ ?_
 ·rintro w ρ M' hw ⟨K,y,rfl⟩
  have w2:(0:Int) + (w:Int)=0\/(0:Int) + (w:Int)=1:=by omega
  have k1:=K.get t1
  simp![ZgV,k1]
  refine ZpG w2 (K.get t2) s1 s2 (by omega) fun M4 K4=> ?_
  have e0: ∀ {M:Sto} (tx:Str),eqF 12 M (.str tx) (.str tx)=some true:=fun tx=>by rw[ZrG];simp
  have k2:=K4.get k1
  simp![e0,k2]
  refine ZpH w2 (K4.get (K.get t3)) r1 r2 (by omega) fun M5 K5=> ?_
  simp![e0]
  exact ⟨(K.trans K4).trans K5,_,rfl⟩
 ·rintro ρ M6 ⟨K,y,rfl⟩
  simp![ZF]
  have K7:Kp M6 (M6 ++ [SO.lst [.ref ms,.ref mr]]):=Kp.app
  have z1:(M6 ++ [SO.lst [.ref ms,.ref mr]])[M6.length]?=some (.lst [.ref ms,.ref mr]):=by rw[Zf0];rfl
  have z2:=K7.get (K.get t1)
  have e7:eqF 12 (M6 ++ [SO.lst [.ref ms,.ref mr]]) (.ref (M2.length + 2)) (.ref M6.length)=some true:=by
   rw[Zox z2 z1,if_pos (by simp)]
   simp only[eqL,CU.Zpq (k:=8) (K7.get (K.get t2)) (K7.get (K.get u1)),CU.Zpq (k:=8) (K7.get (K.get t3)) (K7.get (K.get u2))]
   simp
  simp![e7]
  exact hN _ _ _ _ _ _
theorem law_true (ns:List Int) (h:ns.length<=63): ∃ M',Zgo [.rol (ns.map D.int)] []= .ok (.bl true) M':=by
 have w:wO (Zgo [.rol (ns.map D.int)] []) (fun d _=>d= .bl true) (fun _ _=>False):=by
  simp![Zgo,ZpB]
  refine ⟨by omega,?_⟩
  refine Zd3 (fun _ ρ _=> ∃ x1 x2 x3 x4 x5 x6,ρ=[some (.rol (ns.map D.int)),x1,x2,x3,x4,x5,x6]) ⟨_,_,_,_,_,_,rfl⟩ ?_ ?_
  ·rintro i ρ M hi ⟨x1,x2,x3,x4,x5,x6,rfl⟩
   rw[show (0:Int) + (i:Int)=i by omega]
   simp![ZF]
   exact ZmC fun _ _ _ _ _ _=>⟨_,_,_,_,_,_,rfl⟩
  ·rintro ρ M ⟨x1,x2,x3,x4,x5,x6,rfl⟩
   simp![ZF]
 obtain ⟨d,M',e,rfl⟩:=ZkP w
 exact ⟨M',e⟩
end
end K65
end
namespace K65
open PySem PySem.Spec L2 DL
noncomputable abbrev zz1 (P:Params) (s:String) (n:Nat) (v:Value):DictEntry:={ hash:=PyData.keyHash P (Str.ofString s),key:=Value.str (Str.ofString s) n,val:=v }
noncomputable abbrev zz2 (x:Array Value):Obj:={ cls:=Value.type "code",data:=Data.fields x }
noncomputable abbrev zz3 (s:String) (n:Nat):Value:=Value.str (Str.ofString s) n
noncomputable abbrev zz4 (n:Int):Value:=Value.int n 0
noncomputable def fO (n:Str) (st:Stmt) (cd:Nat) (m:Str) (t:Nat):Obj:=⟨.type "function",none,.func (PySem.W.fnOf n n (Zo st) (Zn st) (Zh st) .none .none .none (.str m t) none (.ref cd) .none),#[]⟩
noncomputable def ZaR (p:Program) (i:Nat):Stmt:=p.main.body.getD i (.Pass ⟨0,0,0,0⟩)
noncomputable def Kf (p:Program) (P:Params):PySem.W.Frag:=[(3,{ cls:=Value.type "dict",data:=Data.dict #[zz1 P "__name__" 165 (zz3 "law_rayround_k65_ones_refused" 983),zz1 P "__doc__" 166 (Value.none),zz1 P "__package__" 167 (Value.none),zz1 P "__loader__" 168 (Value.builtin "__main__.__loader__#opaque"),zz1 P "__spec__" 169 (Value.none),zz1 P "__annotations__" 170 (Value.ref 6),zz1 P "__builtins__" 171 (Value.ref 4),zz1 P "__file__" 173 (zz3 "/claim/cut.py" 172),zz1 P "__cached__" 174 (Value.none),zz1 P "RayError" 206 (Value.ref 24),zz1 P "NoRatio" 222 (Value.ref 37),zz1 P "NoTurning" 238 (Value.ref 49),zz1 P "NoRound" 265 (Value.ref 68),zz1 P "NotSmooth" 281 (Value.ref 80),zz1 P "NoWedge" 297 (Value.ref 92),zz1 P "NoRow" 313 (Value.ref 104),zz1 P "NoPlace" 329 (Value.ref 116),zz1 P "NoMinus" 345 (Value.ref 128),zz1 P "NoFour" 361 (Value.ref 140),zz1 P "NoHeight" 377 (Value.ref 152),zz1 P "NoBend" 393 (Value.ref 164),zz1 P "NoBody" 409 (Value.ref 176),zz1 P "NoOne" 425 (Value.ref 188),zz1 P "NoText" 441 (Value.ref 200),zz1 P "Unknown" 457 (Value.ref 212),zz1 P "is_whole" 466 (Value.ref 221),zz1 P "greatest_divisor" 476 (Value.ref 228),zz1 P "crossed" 486 (Value.ref 235),zz1 P "product" 494 (Value.ref 242),zz1 P "following" 504 (Value.ref 249),zz1 P "unspanned" 513 (Value.ref 256),zz1 P "ask_smooth" 521 (Value.ref 263),zz1 P "numbers" 529 (Value.ref 268),zz1 P "ratio" 540 (Value.ref 275),zz1 P "minus" 548 (Value.ref 282),zz1 P "times" 556 (Value.ref 289),zz1 P "less" 564 (Value.ref 296),zz1 P "common_bottom" 573 (Value.ref 303),zz1 P "stretched" 581 (Value.ref 310),zz1 P "ask_height" 591 (Value.ref 317),zz1 P "slope_through" 605 (Value.ref 324),zz1 P "edge" 613 (Value.ref 329),zz1 P "in_order" 619 (Value.ref 334),zz1 P "body" 630 (Value.ref 341),zz1 P "width" 638 (Value.ref 346),zz1 P "lessened" 647 (Value.ref 353),zz1 P "least_wide" 661 (Value.ref 360),zz1 P "two_ways" 671 (Value.ref 367),zz1 P "dots_across" 677 (Value.ref 372),zz1 P "dots" 683 (Value.ref 377),zz1 P "partner" 697 (Value.ref 384),zz1 P "first_behind" 707 (Value.ref 391),zz1 P "expanded" 717 (Value.ref 398),zz1 P "row" 725 (Value.ref 405),zz1 P "between" 738 (Value.ref 412),zz1 P "least_round" 750 (Value.ref 419),zz1 P "marked_row" 758 (Value.ref 424),zz1 P "first_reading" 775 (Value.ref 431),zz1 P "least_row" 782 (Value.ref 438),zz1 P "ROWS" 953 (Value.ref 455),zz1 P "ask_one" 960 (Value.ref 462),zz1 P "next_dot" 970 (Value.ref 469),zz1 P "opposite_one" 976 (Value.ref 474),zz1 P "kind_of" 982 (Value.ref 479),zz1 P "_law_cell_at" 994 (Value.ref 486),zz1 P "_law_cross" 1002 (Value.ref 493),zz1 P "_law_turn" 1008 (Value.ref 498),zz1 P "_law_smooth" 1024 (Value.ref 505),zz1 P "_law_tags" 1030 (Value.ref 510),zz1 P "_law_rough" 1042 (Value.ref 517),zz1 P "_law_kinds" 1051 (Value.ref 524),zz1 P "_law_steep" 1057 (Value.ref 529),zz1 P "_law_kind_of" 1066 (Value.ref 536),zz1 P "law" 1079 (Value.ref 543)] 74 }),
 (221,fO "is_whole" (ZaR p 18) 220 "rayround.wholes" 458),
 (220,zz2 #[zz3 "is_whole" 460,zz3 "is_whole" 461,zz3 "/claim/cut.py" 462,zz4 39,zz4 1,zz4 0,zz4 0,zz4 3,Value.ref 215,Value.bool true,zz4 181,Value.ref 216,Value.none,Value.ref 217,Value.ref 218,Value.ref 219,zz4 464,zz4 39,zz3 "/claim/cut.py" 465]),
 (228,fO "greatest_divisor" (ZaR p 19) 227 "rayround.wholes" 458),
 (227,zz2 #[zz3 "greatest_divisor" 467,zz3 "greatest_divisor" 468,zz3 "/claim/cut.py" 469,zz4 41,zz4 2,zz4 0,zz4 0,zz4 3,Value.ref 222,Value.bool true,zz4 181,Value.ref 223,Value.none,Value.ref 224,Value.ref 225,Value.ref 226,zz4 474,zz4 41,zz3 "/claim/cut.py" 475]),
 (235,fO "crossed" (ZaR p 21) 234 "rayround.pairs" 477),
 (234,zz2 #[zz3 "crossed" 479,zz3 "crossed" 480,zz3 "/claim/cut.py" 481,zz4 47,zz4 2,zz4 0,zz4 0,zz4 3,Value.ref 229,Value.bool true,zz4 181,Value.ref 230,Value.none,Value.ref 231,Value.ref 232,Value.ref 233,zz4 484,zz4 47,zz3 "/claim/cut.py" 485]),
 (242,fO "product" (ZaR p 22) 241 "rayround.pairs" 477),
 (241,zz2 #[zz3 "product" 487,zz3 "product" 488,zz3 "/claim/cut.py" 489,zz4 49,zz4 2,zz4 0,zz4 0,zz4 3,Value.ref 236,Value.bool true,zz4 181,Value.ref 237,Value.none,Value.ref 238,Value.ref 239,Value.ref 240,zz4 492,zz4 49,zz3 "/claim/cut.py" 493]),
 (249,fO "following" (ZaR p 24) 248 "rayround.rounds" 495),
 (248,zz2 #[zz3 "following" 497,zz3 "following" 498,zz3 "/claim/cut.py" 499,zz4 52,zz4 2,zz4 0,zz4 0,zz4 3,Value.ref 243,Value.bool true,zz4 181,Value.ref 244,Value.none,Value.ref 245,Value.ref 246,Value.ref 247,zz4 502,zz4 52,zz3 "/claim/cut.py" 503]),
 (256,fO "unspanned" (ZaR p 25) 255 "rayround.rounds" 495),
 (255,zz2 #[zz3 "unspanned" 505,zz3 "unspanned" 506,zz3 "/claim/cut.py" 507,zz4 54,zz4 1,zz4 0,zz4 0,zz4 3,Value.ref 250,Value.bool true,zz4 181,Value.ref 251,Value.none,Value.ref 252,Value.ref 253,Value.ref 254,zz4 511,zz4 54,zz3 "/claim/cut.py" 512]),
 (263,fO "ask_smooth" (ZaR p 26) 262 "rayround.rounds" 495),
 (262,zz2 #[zz3 "ask_smooth" 514,zz3 "ask_smooth" 515,zz3 "/claim/cut.py" 516,zz4 59,zz4 1,zz4 0,zz4 0,zz4 3,Value.ref 257,Value.bool true,zz4 181,Value.ref 258,Value.none,Value.ref 259,Value.ref 260,Value.ref 261,zz4 519,zz4 59,zz3 "/claim/cut.py" 520]),
 (268,fO "numbers" (ZaR p 28) 267 "rayround.numbers" 522),
 (267,zz2 #[zz3 "numbers" 524,zz3 "numbers" 525,zz3 "/claim/cut.py" 526,zz4 64,zz4 1,zz4 0,zz4 0,zz4 3,Value.ref 264,Value.bool true,zz4 181,Value.ref 265,Value.none,Value.none,Value.none,Value.ref 266,zz4 527,zz4 64,zz3 "/claim/cut.py" 528]),
 (275,fO "ratio" (ZaR p 30) 274 "rayround.ratios" 530),
 (274,zz2 #[zz3 "ratio" 532,zz3 "ratio" 533,zz3 "/claim/cut.py" 534,zz4 68,zz4 2,zz4 0,zz4 0,zz4 3,Value.ref 269,Value.bool true,zz4 181,Value.ref 270,Value.none,Value.ref 271,Value.ref 272,Value.ref 273,zz4 538,zz4 68,zz3 "/claim/cut.py" 539]),
 (282,fO "minus" (ZaR p 31) 281 "rayround.ratios" 530),
 (281,zz2 #[zz3 "minus" 541,zz3 "minus" 542,zz3 "/claim/cut.py" 543,zz4 77,zz4 2,zz4 0,zz4 0,zz4 3,Value.ref 276,Value.bool true,zz4 181,Value.ref 277,Value.none,Value.ref 278,Value.ref 279,Value.ref 280,zz4 546,zz4 77,zz3 "/claim/cut.py" 547]),
 (289,fO "times" (ZaR p 32) 288 "rayround.ratios" 530),
 (288,zz2 #[zz3 "times" 549,zz3 "times" 550,zz3 "/claim/cut.py" 551,zz4 79,zz4 2,zz4 0,zz4 0,zz4 3,Value.ref 283,Value.bool true,zz4 181,Value.ref 284,Value.none,Value.ref 285,Value.ref 286,Value.ref 287,zz4 554,zz4 79,zz3 "/claim/cut.py" 555]),
 (296,fO "less" (ZaR p 33) 295 "rayround.ratios" 530),
 (295,zz2 #[zz3 "less" 557,zz3 "less" 558,zz3 "/claim/cut.py" 559,zz4 81,zz4 2,zz4 0,zz4 0,zz4 3,Value.ref 290,Value.bool true,zz4 181,Value.ref 291,Value.none,Value.ref 292,Value.ref 293,Value.ref 294,zz4 562,zz4 81,zz3 "/claim/cut.py" 563]),
 (303,fO "common_bottom" (ZaR p 34) 302 "rayround.ratios" 530),
 (302,zz2 #[zz3 "common_bottom" 565,zz3 "common_bottom" 566,zz3 "/claim/cut.py" 567,zz4 83,zz4 1,zz4 0,zz4 0,zz4 3,Value.ref 297,Value.bool true,zz4 181,Value.ref 298,Value.none,Value.ref 299,Value.ref 300,Value.ref 301,zz4 571,zz4 83,zz3 "/claim/cut.py" 572]),
 (310,fO "stretched" (ZaR p 35) 309 "rayround.ratios" 530),
 (309,zz2 #[zz3 "stretched" 574,zz3 "stretched" 575,zz3 "/claim/cut.py" 576,zz4 88,zz4 2,zz4 0,zz4 0,zz4 3,Value.ref 304,Value.bool true,zz4 181,Value.ref 305,Value.none,Value.ref 306,Value.ref 307,Value.ref 308,zz4 579,zz4 88,zz3 "/claim/cut.py" 580]),
 (317,fO "ask_height" (ZaR p 37) 316 "rayround.heights" 582),
 (316,zz2 #[zz3 "ask_height" 584,zz3 "ask_height" 585,zz3 "/claim/cut.py" 586,zz4 91,zz4 2,zz4 0,zz4 0,zz4 3,Value.ref 311,Value.bool true,zz4 181,Value.ref 312,Value.none,Value.ref 313,Value.ref 314,Value.ref 315,zz4 589,zz4 91,zz3 "/claim/cut.py" 590]),
 (324,fO "slope_through" (ZaR p 38) 323 "rayround.heights" 582),
 (323,zz2 #[zz3 "slope_through" 592,zz3 "slope_through" 593,zz3 "/claim/cut.py" 594,zz4 94,zz4 2,zz4 0,zz4 0,zz4 3,Value.ref 318,Value.bool true,zz4 181,Value.ref 319,Value.none,Value.ref 320,Value.ref 321,Value.ref 322,zz4 603,zz4 94,zz3 "/claim/cut.py" 604]),
 (329,fO "edge" (ZaR p 40) 328 "rayround.bodies" 606),
 (328,zz2 #[zz3 "edge" 608,zz3 "edge" 609,zz3 "/claim/cut.py" 610,zz4 99,zz4 3,zz4 0,zz4 0,zz4 3,Value.ref 325,Value.bool true,zz4 181,Value.ref 326,Value.none,Value.none,Value.none,Value.ref 327,zz4 611,zz4 99,zz3 "/claim/cut.py" 612]),
 (334,fO "in_order" (ZaR p 41) 333 "rayround.bodies" 606),
 (333,zz2 #[zz3 "in_order" 614,zz3 "in_order" 615,zz3 "/claim/cut.py" 616,zz4 116,zz4 1,zz4 0,zz4 0,zz4 3,Value.ref 330,Value.bool true,zz4 181,Value.ref 331,Value.none,Value.none,Value.none,Value.ref 332,zz4 617,zz4 116,zz3 "/claim/cut.py" 618]),
 (341,fO "body" (ZaR p 42) 340 "rayround.bodies" 606),
 (340,zz2 #[zz3 "body" 620,zz3 "body" 621,zz3 "/claim/cut.py" 622,zz4 119,zz4 2,zz4 0,zz4 0,zz4 3,Value.ref 335,Value.bool true,zz4 181,Value.ref 336,Value.none,Value.ref 337,Value.ref 338,Value.ref 339,zz4 628,zz4 119,zz3 "/claim/cut.py" 629]),
 (346,fO "width" (ZaR p 44) 345 "rayround.dots" 631),
 (345,zz2 #[zz3 "width" 633,zz3 "width" 634,zz3 "/claim/cut.py" 635,zz4 128,zz4 2,zz4 0,zz4 0,zz4 3,Value.ref 342,Value.bool true,zz4 181,Value.ref 343,Value.none,Value.none,Value.none,Value.ref 344,zz4 636,zz4 128,zz3 "/claim/cut.py" 637]),
 (353,fO "lessened" (ZaR p 45) 352 "rayround.dots" 631),
 (352,zz2 #[zz3 "lessened" 639,zz3 "lessened" 640,zz3 "/claim/cut.py" 641,zz4 131,zz4 3,zz4 0,zz4 0,zz4 3,Value.ref 347,Value.bool true,zz4 181,Value.ref 348,Value.none,Value.ref 349,Value.ref 350,Value.ref 351,zz4 645,zz4 131,zz3 "/claim/cut.py" 646]),
 (360,fO "least_wide" (ZaR p 46) 359 "rayround.dots" 631),
 (359,zz2 #[zz3 "least_wide" 648,zz3 "least_wide" 649,zz3 "/claim/cut.py" 650,zz4 133,zz4 3,zz4 0,zz4 0,zz4 3,Value.ref 354,Value.bool true,zz4 181,Value.ref 355,Value.none,Value.ref 356,Value.ref 357,Value.ref 358,zz4 659,zz4 133,zz3 "/claim/cut.py" 660]),
 (367,fO "two_ways" (ZaR p 47) 366 "rayround.dots" 631),
 (366,zz2 #[zz3 "two_ways" 662,zz3 "two_ways" 663,zz3 "/claim/cut.py" 664,zz4 144,zz4 1,zz4 0,zz4 0,zz4 3,Value.ref 361,Value.bool true,zz4 181,Value.ref 362,Value.none,Value.ref 363,Value.ref 364,Value.ref 365,zz4 669,zz4 144,zz3 "/claim/cut.py" 670]),
 (372,fO "dots_across" (ZaR p 48) 371 "rayround.dots" 631),
 (371,zz2 #[zz3 "dots_across" 672,zz3 "dots_across" 673,zz3 "/claim/cut.py" 674,zz4 155,zz4 4,zz4 0,zz4 0,zz4 3,Value.ref 368,Value.bool true,zz4 181,Value.ref 369,Value.none,Value.none,Value.none,Value.ref 370,zz4 675,zz4 155,zz3 "/claim/cut.py" 676]),
 (377,fO "dots" (ZaR p 49) 376 "rayround.dots" 631),
 (376,zz2 #[zz3 "dots" 678,zz3 "dots" 679,zz3 "/claim/cut.py" 680,zz4 166,zz4 2,zz4 0,zz4 0,zz4 3,Value.ref 373,Value.bool true,zz4 181,Value.ref 374,Value.none,Value.none,Value.none,Value.ref 375,zz4 681,zz4 166,zz3 "/claim/cut.py" 682]),
 (384,fO "partner" (ZaR p 51) 383 "rayround.wedges" 684),
 (383,zz2 #[zz3 "partner" 686,zz3 "partner" 687,zz3 "/claim/cut.py" 688,zz4 179,zz4 1,zz4 0,zz4 0,zz4 3,Value.ref 378,Value.bool true,zz4 181,Value.ref 379,Value.none,Value.ref 380,Value.ref 381,Value.ref 382,zz4 695,zz4 179,zz3 "/claim/cut.py" 696]),
 (391,fO "first_behind" (ZaR p 52) 390 "rayround.wedges" 684),
 (390,zz2 #[zz3 "first_behind" 698,zz3 "first_behind" 699,zz3 "/claim/cut.py" 700,zz4 187,zz4 2,zz4 0,zz4 0,zz4 3,Value.ref 385,Value.bool true,zz4 181,Value.ref 386,Value.none,Value.ref 387,Value.ref 388,Value.ref 389,zz4 705,zz4 187,zz3 "/claim/cut.py" 706]),
 (398,fO "expanded" (ZaR p 53) 397 "rayround.wedges" 684),
 (397,zz2 #[zz3 "expanded" 708,zz3 "expanded" 709,zz3 "/claim/cut.py" 710,zz4 191,zz4 2,zz4 0,zz4 0,zz4 3,Value.ref 392,Value.bool true,zz4 181,Value.ref 393,Value.none,Value.ref 394,Value.ref 395,Value.ref 396,zz4 715,zz4 191,zz3 "/claim/cut.py" 716]),
 (405,fO "row" (ZaR p 54) 404 "rayround.wedges" 684),
 (404,zz2 #[zz3 "row" 718,zz3 "row" 719,zz3 "/claim/cut.py" 720,zz4 198,zz4 2,zz4 0,zz4 0,zz4 3,Value.ref 399,Value.bool true,zz4 181,Value.ref 400,Value.none,Value.ref 401,Value.ref 402,Value.ref 403,zz4 723,zz4 198,zz3 "/claim/cut.py" 724]),
 (412,fO "between" (ZaR p 55) 411 "rayround.wedges" 684),
 (411,zz2 #[zz3 "between" 726,zz3 "between" 727,zz3 "/claim/cut.py" 728,zz4 202,zz4 2,zz4 0,zz4 0,zz4 3,Value.ref 406,Value.bool true,zz4 181,Value.ref 407,Value.none,Value.ref 408,Value.ref 409,Value.ref 410,zz4 736,zz4 202,zz3 "/claim/cut.py" 737]),
 (419,fO "least_round" (ZaR p 57) 418 "rayround.leastrounds" 739),
 (418,zz2 #[zz3 "least_round" 741,zz3 "least_round" 742,zz3 "/claim/cut.py" 743,zz4 211,zz4 1,zz4 0,zz4 0,zz4 3,Value.ref 413,Value.bool true,zz4 181,Value.ref 414,Value.none,Value.ref 415,Value.ref 416,Value.ref 417,zz4 748,zz4 211,zz3 "/claim/cut.py" 749]),
 (424,fO "marked_row" (ZaR p 59) 423 "rayround.likeness" 751),
 (423,zz2 #[zz3 "marked_row" 753,zz3 "marked_row" 754,zz3 "/claim/cut.py" 755,zz4 218,zz4 2,zz4 0,zz4 0,zz4 3,Value.ref 420,Value.bool true,zz4 181,Value.ref 421,Value.none,Value.none,Value.none,Value.ref 422,zz4 756,zz4 218,zz3 "/claim/cut.py" 757]),
 (431,fO "first_reading" (ZaR p 60) 430 "rayround.likeness" 751),
 (430,zz2 #[zz3 "first_reading" 759,zz3 "first_reading" 760,zz3 "/claim/cut.py" 761,zz4 221,zz4 1,zz4 0,zz4 0,zz4 3,Value.ref 425,Value.bool true,zz4 181,Value.ref 426,Value.none,Value.ref 427,Value.ref 428,Value.ref 429,zz4 773,zz4 221,zz3 "/claim/cut.py" 774]),
 (438,fO "least_row" (ZaR p 61) 437 "rayround.likeness" 751),
 (437,zz2 #[zz3 "least_row" 776,zz3 "least_row" 777,zz3 "/claim/cut.py" 778,zz4 234,zz4 1,zz4 0,zz4 0,zz4 3,Value.ref 432,Value.bool true,zz4 181,Value.ref 433,Value.none,Value.ref 434,Value.ref 435,Value.ref 436,zz4 780,zz4 234,zz3 "/claim/cut.py" 781]),
 (462,fO "ask_one" (ZaR p 64) 461 "rayround.sixteen" 783),
 (461,zz2 #[zz3 "ask_one" 954,zz3 "ask_one" 955,zz3 "/claim/cut.py" 956,zz4 238,zz4 1,zz4 0,zz4 0,zz4 3,Value.ref 456,Value.bool true,zz4 181,Value.ref 457,Value.none,Value.ref 458,Value.ref 459,Value.ref 460,zz4 958,zz4 238,zz3 "/claim/cut.py" 959]),
 (469,fO "next_dot" (ZaR p 65) 468 "rayround.sixteen" 783),
 (468,zz2 #[zz3 "next_dot" 961,zz3 "next_dot" 962,zz3 "/claim/cut.py" 963,zz4 241,zz4 2,zz4 0,zz4 0,zz4 3,Value.ref 463,Value.bool true,zz4 181,Value.ref 464,Value.none,Value.ref 465,Value.ref 466,Value.ref 467,zz4 968,zz4 241,zz3 "/claim/cut.py" 969]),
 (474,fO "opposite_one" (ZaR p 66) 473 "rayround.sixteen" 783),
 (473,zz2 #[zz3 "opposite_one" 971,zz3 "opposite_one" 972,zz3 "/claim/cut.py" 973,zz4 247,zz4 1,zz4 0,zz4 0,zz4 3,Value.ref 470,Value.bool true,zz4 181,Value.ref 471,Value.none,Value.none,Value.none,Value.ref 472,zz4 974,zz4 247,zz3 "/claim/cut.py" 975]),
 (479,fO "kind_of" (ZaR p 67) 478 "rayround.sixteen" 783),
 (478,zz2 #[zz3 "kind_of" 977,zz3 "kind_of" 978,zz3 "/claim/cut.py" 979,zz4 254,zz4 1,zz4 0,zz4 0,zz4 3,Value.ref 475,Value.bool true,zz4 181,Value.ref 476,Value.none,Value.none,Value.none,Value.ref 477,zz4 980,zz4 254,zz3 "/claim/cut.py" 981]),
 (486,fO "_law_cell_at" (ZaR p 69) 485 "law_rayround_k65_ones_refused" 983),
 (485,zz2 #[zz3 "_law_cell_at" 985,zz3 "_law_cell_at" 986,zz3 "/claim/cut.py" 987,zz4 258,zz4 2,zz4 0,zz4 0,zz4 3,Value.ref 480,Value.bool true,zz4 181,Value.ref 481,Value.none,Value.ref 482,Value.ref 483,Value.ref 484,zz4 992,zz4 258,zz3 "/claim/cut.py" 993]),
 (493,fO "_law_cross" (ZaR p 70) 492 "law_rayround_k65_ones_refused" 983),
 (492,zz2 #[zz3 "_law_cross" 995,zz3 "_law_cross" 996,zz3 "/claim/cut.py" 997,zz4 266,zz4 2,zz4 0,zz4 0,zz4 3,Value.ref 487,Value.bool true,zz4 181,Value.ref 488,Value.none,Value.ref 489,Value.ref 490,Value.ref 491,zz4 1000,zz4 266,zz3 "/claim/cut.py" 1001]),
 (498,fO "_law_turn" (ZaR p 71) 497 "law_rayround_k65_ones_refused" 983),
 (497,zz2 #[zz3 "_law_turn" 1003,zz3 "_law_turn" 1004,zz3 "/claim/cut.py" 1005,zz4 268,zz4 2,zz4 0,zz4 0,zz4 3,Value.ref 494,Value.bool true,zz4 181,Value.ref 495,Value.none,Value.none,Value.none,Value.ref 496,zz4 1006,zz4 268,zz3 "/claim/cut.py" 1007]),
 (505,fO "_law_smooth" (ZaR p 72) 504 "law_rayround_k65_ones_refused" 983),
 (504,zz2 #[zz3 "_law_smooth" 1009,zz3 "_law_smooth" 1010,zz3 "/claim/cut.py" 1011,zz4 288,zz4 2,zz4 0,zz4 0,zz4 3,Value.ref 499,Value.bool true,zz4 181,Value.ref 500,Value.none,Value.ref 501,Value.ref 502,Value.ref 503,zz4 1022,zz4 288,zz3 "/claim/cut.py" 1023]),
 (510,fO "_law_tags" (ZaR p 73) 509 "law_rayround_k65_ones_refused" 983),
 (509,zz2 #[zz3 "_law_tags" 1025,zz3 "_law_tags" 1026,zz3 "/claim/cut.py" 1027,zz4 307,zz4 1,zz4 0,zz4 0,zz4 3,Value.ref 506,Value.bool true,zz4 181,Value.ref 507,Value.none,Value.none,Value.none,Value.ref 508,zz4 1028,zz4 307,zz3 "/claim/cut.py" 1029]),
 (517,fO "_law_rough" (ZaR p 74) 516 "law_rayround_k65_ones_refused" 983),
 (516,zz2 #[zz3 "_law_rough" 1031,zz3 "_law_rough" 1032,zz3 "/claim/cut.py" 1033,zz4 310,zz4 1,zz4 0,zz4 0,zz4 3,Value.ref 511,Value.bool true,zz4 181,Value.ref 512,Value.none,Value.ref 513,Value.ref 514,Value.ref 515,zz4 1040,zz4 310,zz3 "/claim/cut.py" 1041]),
 (524,fO "_law_kinds" (ZaR p 75) 523 "law_rayround_k65_ones_refused" 983),
 (523,zz2 #[zz3 "_law_kinds" 1043,zz3 "_law_kinds" 1044,zz3 "/claim/cut.py" 1045,zz4 320,zz4 1,zz4 0,zz4 0,zz4 3,Value.ref 518,Value.bool true,zz4 181,Value.ref 519,Value.none,Value.ref 520,Value.ref 521,Value.ref 522,zz4 1049,zz4 320,zz3 "/claim/cut.py" 1050]),
 (529,fO "_law_steep" (ZaR p 76) 528 "law_rayround_k65_ones_refused" 983),
 (528,zz2 #[zz3 "_law_steep" 1052,zz3 "_law_steep" 1053,zz3 "/claim/cut.py" 1054,zz4 330,zz4 1,zz4 0,zz4 0,zz4 3,Value.ref 525,Value.bool true,zz4 181,Value.ref 526,Value.none,Value.none,Value.none,Value.ref 527,zz4 1055,zz4 330,zz3 "/claim/cut.py" 1056]),
 (536,fO "_law_kind_of" (ZaR p 77) 535 "law_rayround_k65_ones_refused" 983),
 (535,zz2 #[zz3 "_law_kind_of" 1058,zz3 "_law_kind_of" 1059,zz3 "/claim/cut.py" 1060,zz4 344,zz4 2,zz4 0,zz4 0,zz4 3,Value.ref 530,Value.bool true,zz4 181,Value.ref 531,Value.none,Value.ref 532,Value.ref 533,Value.ref 534,zz4 1064,zz4 344,zz3 "/claim/cut.py" 1065]),
 (543,fO "law" (ZaR p 78) 542 "law_rayround_k65_ones_refused" 983),
 (542,zz2 #[zz3 "law" 1067,zz3 "law" 1068,zz3 "/claim/cut.py" 1069,zz4 353,zz4 1,zz4 0,zz4 0,zz4 3,Value.ref 537,Value.bool true,zz4 181,Value.ref 538,Value.none,Value.ref 539,Value.ref 540,Value.ref 541,zz4 1077,zz4 353,zz3 "/claim/cut.py" 1078]),
 (23,{ cls:=Value.type "dict",data:=Data.dict #[zz1 P "__module__" 196 (zz3 "rayround.errors" 187),zz1 P "__firstlineno__" 200 (Value.int 2 199),zz1 P "__static_attributes__" 201 (Value.ref 22),zz1 P "__weakref__" 203 (Value.ref 25),zz1 P "__doc__" 204 (Value.none)] 3 }),
 (24,{ cls:=Value.type "type",data:=Data.cls { name:=Str.ofString "RayError",bases:=[Value.type "ValueError"],mro:=[Value.ref 24,Value.type "ValueError",Value.type "Exception",Value.type "BaseException",Value.type "object"],ns:=23,qualname:=Str.ofString "RayError",subclasses:=[Value.ref 37,Value.ref 49,Value.ref 68,Value.ref 80,Value.ref 92,Value.ref 104,Value.ref 116,Value.ref 128,Value.ref 140,Value.ref 152,Value.ref 164,Value.ref 176,Value.ref 188,Value.ref 200,Value.ref 212] },slots:= #[some (Value.ref 15),none,some (zz3 "RayError" 189),some (zz3 "RayError" 197),some (Value.builtin "ValueError.__new__"),some (Value.bool true)] }),
 (36,{ cls:=Value.type "dict",data:=Data.dict #[zz1 P "__module__" 214 (zz3 "rayround.errors" 187),zz1 P "__firstlineno__" 218 (Value.int 4 217),zz1 P "__static_attributes__" 219 (Value.ref 35),zz1 P "__doc__" 220 (Value.none)] 2 }),
 (37,{ cls:=Value.type "type",data:=Data.cls { name:=Str.ofString "NoRatio",bases:=[Value.ref 24],mro:=[Value.ref 37,Value.ref 24,Value.type "ValueError",Value.type "Exception",Value.type "BaseException",Value.type "object"],ns:=36,qualname:=Str.ofString "NoRatio" },slots:= #[some (Value.ref 28),none,some (zz3 "NoRatio" 207),some (zz3 "NoRatio" 215),some (Value.builtin "ValueError.__new__"),some (Value.bool true)] }),
 (48,{ cls:=Value.type "dict",data:=Data.dict #[zz1 P "__module__" 230 (zz3 "rayround.errors" 187),zz1 P "__firstlineno__" 234 (Value.int 6 233),zz1 P "__static_attributes__" 235 (Value.ref 47),zz1 P "__doc__" 236 (Value.none)] 2 }),
 (49,{ cls:=Value.type "type",data:=Data.cls { name:=Str.ofString "NoTurning",bases:=[Value.ref 24],mro:=[Value.ref 49,Value.ref 24,Value.type "ValueError",Value.type "Exception",Value.type "BaseException",Value.type "object"],ns:=48,qualname:=Str.ofString "NoTurning" },slots:= #[some (Value.ref 40),none,some (zz3 "NoTurning" 223),some (zz3 "NoTurning" 231),some (Value.builtin "ValueError.__new__"),some (Value.bool true)] }),
 (67,{ cls:=Value.type "dict",data:=Data.dict #[zz1 P "__module__" 246 (zz3 "rayround.errors" 187),zz1 P "__firstlineno__" 250 (Value.int 8 249),zz1 P "__init__" 259 (Value.ref 65),zz1 P "__static_attributes__" 262 (Value.ref 66),zz1 P "__doc__" 263 (Value.none)] 2 }),
 (68,{ cls:=Value.type "type",data:=Data.cls { name:=Str.ofString "NoRound",bases:=[Value.ref 24],mro:=[Value.ref 68,Value.ref 24,Value.type "ValueError",Value.type "Exception",Value.type "BaseException",Value.type "object"],ns:=67,qualname:=Str.ofString "NoRound" },slots:= #[some (Value.ref 52),none,some (zz3 "NoRound" 239),some (zz3 "NoRound" 247),some (Value.builtin "ValueError.__new__"),some (Value.bool true)] }),
 (79,{ cls:=Value.type "dict",data:=Data.dict #[zz1 P "__module__" 273 (zz3 "rayround.errors" 187),zz1 P "__firstlineno__" 277 (Value.int 14 276),zz1 P "__static_attributes__" 278 (Value.ref 78),zz1 P "__doc__" 279 (Value.none)] 2 }),
 (80,{ cls:=Value.type "type",data:=Data.cls { name:=Str.ofString "NotSmooth",bases:=[Value.ref 24],mro:=[Value.ref 80,Value.ref 24,Value.type "ValueError",Value.type "Exception",Value.type "BaseException",Value.type "object"],ns:=79,qualname:=Str.ofString "NotSmooth" },slots:= #[some (Value.ref 71),none,some (zz3 "NotSmooth" 266),some (zz3 "NotSmooth" 274),some (Value.builtin "ValueError.__new__"),some (Value.bool true)] }),
 (91,{ cls:=Value.type "dict",data:=Data.dict #[zz1 P "__module__" 289 (zz3 "rayround.errors" 187),zz1 P "__firstlineno__" 293 (Value.int 16 292),zz1 P "__static_attributes__" 294 (Value.ref 90),zz1 P "__doc__" 295 (Value.none)] 2 }),
 (92,{ cls:=Value.type "type",data:=Data.cls { name:=Str.ofString "NoWedge",bases:=[Value.ref 24],mro:=[Value.ref 92,Value.ref 24,Value.type "ValueError",Value.type "Exception",Value.type "BaseException",Value.type "object"],ns:=91,qualname:=Str.ofString "NoWedge" },slots:= #[some (Value.ref 83),none,some (zz3 "NoWedge" 282),some (zz3 "NoWedge" 290),some (Value.builtin "ValueError.__new__"),some (Value.bool true)] }),
 (103,{ cls:=Value.type "dict",data:=Data.dict #[zz1 P "__module__" 305 (zz3 "rayround.errors" 187),zz1 P "__firstlineno__" 309 (Value.int 18 308),zz1 P "__static_attributes__" 310 (Value.ref 102),zz1 P "__doc__" 311 (Value.none)] 2 }),
 (104,{ cls:=Value.type "type",data:=Data.cls { name:=Str.ofString "NoRow",bases:=[Value.ref 24],mro:=[Value.ref 104,Value.ref 24,Value.type "ValueError",Value.type "Exception",Value.type "BaseException",Value.type "object"],ns:=103,qualname:=Str.ofString "NoRow" },slots:= #[some (Value.ref 95),none,some (zz3 "NoRow" 298),some (zz3 "NoRow" 306),some (Value.builtin "ValueError.__new__"),some (Value.bool true)] }),
 (115,{ cls:=Value.type "dict",data:=Data.dict #[zz1 P "__module__" 321 (zz3 "rayround.errors" 187),zz1 P "__firstlineno__" 325 (Value.int 20 324),zz1 P "__static_attributes__" 326 (Value.ref 114),zz1 P "__doc__" 327 (Value.none)] 2 }),
 (116,{ cls:=Value.type "type",data:=Data.cls { name:=Str.ofString "NoPlace",bases:=[Value.ref 24],mro:=[Value.ref 116,Value.ref 24,Value.type "ValueError",Value.type "Exception",Value.type "BaseException",Value.type "object"],ns:=115,qualname:=Str.ofString "NoPlace" },slots:= #[some (Value.ref 107),none,some (zz3 "NoPlace" 314),some (zz3 "NoPlace" 322),some (Value.builtin "ValueError.__new__"),some (Value.bool true)] }),
 (127,{ cls:=Value.type "dict",data:=Data.dict #[zz1 P "__module__" 337 (zz3 "rayround.errors" 187),zz1 P "__firstlineno__" 341 (Value.int 22 340),zz1 P "__static_attributes__" 342 (Value.ref 126),zz1 P "__doc__" 343 (Value.none)] 2 }),
 (128,{ cls:=Value.type "type",data:=Data.cls { name:=Str.ofString "NoMinus",bases:=[Value.ref 24],mro:=[Value.ref 128,Value.ref 24,Value.type "ValueError",Value.type "Exception",Value.type "BaseException",Value.type "object"],ns:=127,qualname:=Str.ofString "NoMinus" },slots:= #[some (Value.ref 119),none,some (zz3 "NoMinus" 330),some (zz3 "NoMinus" 338),some (Value.builtin "ValueError.__new__"),some (Value.bool true)] }),
 (139,{ cls:=Value.type "dict",data:=Data.dict #[zz1 P "__module__" 353 (zz3 "rayround.errors" 187),zz1 P "__firstlineno__" 357 (Value.int 24 356),zz1 P "__static_attributes__" 358 (Value.ref 138),zz1 P "__doc__" 359 (Value.none)] 2 }),
 (140,{ cls:=Value.type "type",data:=Data.cls { name:=Str.ofString "NoFour",bases:=[Value.ref 24],mro:=[Value.ref 140,Value.ref 24,Value.type "ValueError",Value.type "Exception",Value.type "BaseException",Value.type "object"],ns:=139,qualname:=Str.ofString "NoFour" },slots:= #[some (Value.ref 131),none,some (zz3 "NoFour" 346),some (zz3 "NoFour" 354),some (Value.builtin "ValueError.__new__"),some (Value.bool true)] }),
 (151,{ cls:=Value.type "dict",data:=Data.dict #[zz1 P "__module__" 369 (zz3 "rayround.errors" 187),zz1 P "__firstlineno__" 373 (Value.int 26 372),zz1 P "__static_attributes__" 374 (Value.ref 150),zz1 P "__doc__" 375 (Value.none)] 2 }),
 (152,{ cls:=Value.type "type",data:=Data.cls { name:=Str.ofString "NoHeight",bases:=[Value.ref 24],mro:=[Value.ref 152,Value.ref 24,Value.type "ValueError",Value.type "Exception",Value.type "BaseException",Value.type "object"],ns:=151,qualname:=Str.ofString "NoHeight" },slots:= #[some (Value.ref 143),none,some (zz3 "NoHeight" 362),some (zz3 "NoHeight" 370),some (Value.builtin "ValueError.__new__"),some (Value.bool true)] }),
 (163,{ cls:=Value.type "dict",data:=Data.dict #[zz1 P "__module__" 385 (zz3 "rayround.errors" 187),zz1 P "__firstlineno__" 389 (Value.int 28 388),zz1 P "__static_attributes__" 390 (Value.ref 162),zz1 P "__doc__" 391 (Value.none)] 2 }),
 (164,{ cls:=Value.type "type",data:=Data.cls { name:=Str.ofString "NoBend",bases:=[Value.ref 24],mro:=[Value.ref 164,Value.ref 24,Value.type "ValueError",Value.type "Exception",Value.type "BaseException",Value.type "object"],ns:=163,qualname:=Str.ofString "NoBend" },slots:= #[some (Value.ref 155),none,some (zz3 "NoBend" 378),some (zz3 "NoBend" 386),some (Value.builtin "ValueError.__new__"),some (Value.bool true)] }),
 (175,{ cls:=Value.type "dict",data:=Data.dict #[zz1 P "__module__" 401 (zz3 "rayround.errors" 187),zz1 P "__firstlineno__" 405 (Value.int 30 404),zz1 P "__static_attributes__" 406 (Value.ref 174),zz1 P "__doc__" 407 (Value.none)] 2 }),
 (176,{ cls:=Value.type "type",data:=Data.cls { name:=Str.ofString "NoBody",bases:=[Value.ref 24],mro:=[Value.ref 176,Value.ref 24,Value.type "ValueError",Value.type "Exception",Value.type "BaseException",Value.type "object"],ns:=175,qualname:=Str.ofString "NoBody" },slots:= #[some (Value.ref 167),none,some (zz3 "NoBody" 394),some (zz3 "NoBody" 402),some (Value.builtin "ValueError.__new__"),some (Value.bool true)] }),
 (187,{ cls:=Value.type "dict",data:=Data.dict #[zz1 P "__module__" 417 (zz3 "rayround.errors" 187),zz1 P "__firstlineno__" 421 (Value.int 32 420),zz1 P "__static_attributes__" 422 (Value.ref 186),zz1 P "__doc__" 423 (Value.none)] 2 }),
 (188,{ cls:=Value.type "type",data:=Data.cls { name:=Str.ofString "NoOne",bases:=[Value.ref 24],mro:=[Value.ref 188,Value.ref 24,Value.type "ValueError",Value.type "Exception",Value.type "BaseException",Value.type "object"],ns:=187,qualname:=Str.ofString "NoOne" },slots:= #[some (Value.ref 179),none,some (zz3 "NoOne" 410),some (zz3 "NoOne" 418),some (Value.builtin "ValueError.__new__"),some (Value.bool true)] }),
 (199,{ cls:=Value.type "dict",data:=Data.dict #[zz1 P "__module__" 433 (zz3 "rayround.errors" 187),zz1 P "__firstlineno__" 437 (Value.int 34 436),zz1 P "__static_attributes__" 438 (Value.ref 198),zz1 P "__doc__" 439 (Value.none)] 2 }),
 (200,{ cls:=Value.type "type",data:=Data.cls { name:=Str.ofString "NoText",bases:=[Value.ref 24],mro:=[Value.ref 200,Value.ref 24,Value.type "ValueError",Value.type "Exception",Value.type "BaseException",Value.type "object"],ns:=199,qualname:=Str.ofString "NoText" },slots:= #[some (Value.ref 191),none,some (zz3 "NoText" 426),some (zz3 "NoText" 434),some (Value.builtin "ValueError.__new__"),some (Value.bool true)] }),
 (211,{ cls:=Value.type "dict",data:=Data.dict #[zz1 P "__module__" 449 (zz3 "rayround.errors" 187),zz1 P "__firstlineno__" 453 (Value.int 36 452),zz1 P "__static_attributes__" 454 (Value.ref 210),zz1 P "__doc__" 455 (Value.none)] 2 }),
 (212,{ cls:=Value.type "type",data:=Data.cls { name:=Str.ofString "Unknown",bases:=[Value.ref 24],mro:=[Value.ref 212,Value.ref 24,Value.type "ValueError",Value.type "Exception",Value.type "BaseException",Value.type "object"],ns:=211,qualname:=Str.ofString "Unknown" },slots:= #[some (Value.ref 203),none,some (zz3 "Unknown" 442),some (zz3 "Unknown" 450),some (Value.builtin "ValueError.__new__"),some (Value.bool true)] }),
 (439,{ cls:=Value.type "tuple",data:=Data.seq #[Value.int 1 785,Value.int 1 786,Value.int 1 787] }),
 (440,{ cls:=Value.type "tuple",data:=Data.seq #[Value.int (-2) 789,Value.int 0 790,Value.int 2 791,Value.int 0 792] }),
 (441,{ cls:=Value.type "tuple",data:=Data.seq #[Value.int (-1) 794,Value.int 0 795,Value.int 1 796,Value.int 0 797] }),
 (442,{ cls:=Value.type "tuple",data:=Data.seq #[Value.int 0 798,Value.int 0 799,Value.int 0 800,Value.int 0 801] }),
 (443,{ cls:=Value.type "tuple",data:=Data.seq #[Value.int (-2) 803,Value.int (-1) 805,Value.int (-1) 807,Value.int 1 808,Value.int 0 809] }),
 (444,{ cls:=Value.type "tuple",data:=Data.seq #[Value.int (-1) 811,Value.int (-1) 813,Value.int (-1) 815,Value.int 0 816,Value.int 0 817] }),
 (445,{ cls:=Value.type "tuple",data:=Data.seq #[Value.int (-2) 819,Value.int (-2) 821,Value.int (-1) 823,Value.int (-2) 825,Value.int 1 826,Value.int 0 827] }),
 (446,{ cls:=Value.type "tuple",data:=Data.seq #[Value.int (-2) 829,Value.int (-1) 831,Value.int (-2) 833,Value.int (-1) 835,Value.int 0 836,Value.int 0 837] }),
 (447,{ cls:=Value.type "tuple",data:=Data.seq #[Value.int (-2) 839,Value.int (-1) 841,Value.int (-1) 843,Value.int 0 844,Value.int (-1) 846,Value.int (-1) 848] }),
 (448,{ cls:=Value.type "tuple",data:=Data.seq #[Value.int (-1) 850,Value.int (-1) 852,Value.int (-1) 854,Value.int (-1) 856,Value.int (-1) 858,Value.int (-1) 860] }),
 (449,{ cls:=Value.type "tuple",data:=Data.seq #[Value.int (-2) 862,Value.int (-2) 864,Value.int (-1) 866,Value.int (-2) 868,Value.int 0 869,Value.int (-1) 871,Value.int (-1) 873] }),
 (450,{ cls:=Value.type "tuple",data:=Data.seq #[Value.int (-2) 875,Value.int (-1) 877,Value.int (-2) 879,Value.int (-1) 881,Value.int (-1) 883,Value.int (-1) 885,Value.int (-1) 887] }),
 (451,{ cls:=Value.type "tuple",data:=Data.seq #[Value.int (-2) 889,Value.int (-2) 891,Value.int (-2) 893,Value.int (-1) 895,Value.int (-2) 897,Value.int 0 898,Value.int (-2) 900,Value.int (-1) 902] }),
 (452,{ cls:=Value.type "tuple",data:=Data.seq #[Value.int (-2) 904,Value.int (-2) 906,Value.int (-1) 908,Value.int (-2) 910,Value.int (-1) 912,Value.int (-1) 914,Value.int (-2) 916,Value.int (-1) 918] }),
 (453,{ cls:=Value.type "tuple",data:=Data.seq #[Value.int (-2) 920,Value.int (-1) 922,Value.int (-2) 924,Value.int (-1) 926,Value.int (-2) 928,Value.int (-1) 930,Value.int (-2) 932,Value.int (-1) 934] }),
 (454,{ cls:=Value.type "tuple",data:=Data.seq #[Value.int (-2) 936,Value.int (-2) 938,Value.int (-1) 940,Value.int (-2) 942,Value.int (-2) 944,Value.int (-1) 946,Value.int (-2) 948,Value.int (-2) 950,Value.int (-1) 952] }),
 (455,{ cls:=Value.type "tuple",data:=Data.seq #[Value.ref 439,Value.ref 440,Value.ref 441,Value.ref 442,Value.ref 443,Value.ref 444,Value.ref 445,Value.ref 446,Value.ref 447,Value.ref 448,Value.ref 449,Value.ref 450,Value.ref 451,Value.ref 452,Value.ref 453,Value.ref 454] })]
noncomputable def asK:List Addr:=[3,221,220,228,227,235,234,242,241,249,248,256,255,263,262,268,267,275,274,282,281,289,288,296,295,303,302,310,309,317,316,324,323,329,328,334,333,341,340,346,345,353,352,360,359,367,366,372,371,377,376,384,383,391,390,398,397,405,404,412,411,419,418,424,423,431,430,438,437,462,461,469,468,474,473,479,478,486,485,493,492,498,497,505,504,510,509,517,516,524,523,529,528,536,535,543,542,23,24,36,37,48,49,67,68,79,80,91,92,103,104,115,116,127,128,139,140,151,152,163,164,175,176,187,188,199,200,211,212,439,440,441,442,443,444,445,446,447,448,449,450,451,452,453,454,455]
theorem ZpI (p:Program) (P:Params):asK=(Kf p P).map (·.1):=rfl
noncomputable def qf (p:Program):Program:={ p with main:={ p.main with body:=[ZaR p 78] } }
noncomputable def lo:List Str:=[("__name__":Str),("RayError":Str),("NoRatio":Str),("NoTurning":Str),("NoRound":Str),("NotSmooth":Str),("NoWedge":Str),("NoRow":Str),("NoPlace":Str),("NoMinus":Str),("NoFour":Str),("NoHeight":Str),("NoBend":Str),("NoBody":Str),("NoOne":Str),("NoText":Str),("Unknown":Str),("is_whole":Str),("greatest_divisor":Str),("crossed":Str),("product":Str),("following":Str),("unspanned":Str),("ask_smooth":Str),("numbers":Str),("ratio":Str),("minus":Str),("times":Str),("less":Str),("common_bottom":Str),("stretched":Str),("ask_height":Str),("slope_through":Str),("edge":Str),("in_order":Str),("body":Str),("width":Str),("lessened":Str),("least_wide":Str),("two_ways":Str),("dots_across":Str),("dots":Str),("partner":Str),("first_behind":Str),("expanded":Str),("row":Str),("between":Str),("least_round":Str),("marked_row":Str),("first_reading":Str),("least_row":Str),("ROWS":Str),("ask_one":Str),("next_dot":Str),("opposite_one":Str),("kind_of":Str),("_law_cell_at":Str),("_law_cross":Str),("_law_turn":Str),("_law_smooth":Str),("_law_tags":Str),("_law_rough":Str),("_law_kinds":Str),("_law_steep":Str),("_law_kind_of":Str)]
theorem Zun {l:PySem.W.OpenLaw} {q:Program} {loose:List Str} {XP:(Str->Option Value)->Heap->Prop} {YP:World->Heap->Prop} {d:DefRec} {K:Params->PySem.W.Frag} (hn:l.most=some 63) (hdf:d.params.defaults=[])
  (hY: ∀ (w:World) (h:Heap),YP w h->(K w.params).In h)
  (F: ∀ (w:World) (mg:Str->Option Value) (fa:Addr) (h:Heap),(K w.params).In h->h.Ns mainGlobals mg->mg d.name=some (.ref fa)->
   ∃ fd:FuncData,(∀ (s:Shared) (u:Value),BindsTo s fd ⟨[u],[]⟩ [("_law_script",u)])/\ ∀ base:Heap,(K w.params).In base->base.Ns mainGlobals mg->FnOk l.prog w (K w.params) mg base (CXE l.prog w) 110 fa fd ["_law_script"] (spD (K w.params) Zgo)):
  PySem.W.WalkO q loose XP YP l.row.toRowW d [] (fun f vs=>PySem.call f vs):=
 L2.Zlm (n:=63) (k:=110) (x:="_law_script") (CX:=fun w=>CXE l.prog w) (sp:=fun w=>spD (K w.params) Zgo) hn (by decide) hdf ⟨fun _=>rfl,rfl,by decide,by decide⟩ hY F (fun _ _ a ns hl hO hS=>DL.ZnA hl hO hS (law_true ns hl)) fun _ _ _ _ _ ⟨_,_,_,_,_,_,_,_,_,_,_,_,_,q⟩=>q
end K65
open PySem PySem.W PyProof.Rows
lay_quick PySem.Challenge.pw_rayround_k65_ones_refused
namespace K65
noncomputable abbrev Hk:Hook:=kHook (Kf PySem.Challenge.pw_rayround_k65_ones_refused) asK (ZpI PySem.Challenge.pw_rayround_k65_ones_refused)
noncomputable def Xs (s:Shared):Bool:=xlAt (qf PySem.Challenge.pw_rayround_k65_ones_refused) [] s && recOk (RowW.records (OpenRow.toRowW (OpenLaw.row PySem.Challenge.rw_rayround_k65_ones_refused))) s
set_option maxRecDepth 1000000 in
set_option maxHeartbeats 0 in
theorem Zqr (w:World) (os:OsState):(HD.ZpP through (HD.Zka (stepOk 11 (some (.ref 6))) (stepT (denote treeTable) PySem.Challenge.pw_rayround_k65_ones_refused w)) 5541 (HD.T0 w os) (topStub PySem.Challenge.pw_rayround_k65_ones_refused)).map (fun s=>((staticsOk (importedModules PySem.Challenge.pw_rayround_k65_ones_refused.main.body) (boot_heap w.params) s.abs.heap && namesBound PySem.Challenge.pw_rayround_k65_ones_refused s.abs.heap && gensDone s.abs && laidKept (boot_heap w.params) s.abs.heap),
  openSeen (qf PySem.Challenge.pw_rayround_k65_ones_refused) lo (importedModules PySem.Challenge.pw_rayround_k65_ones_refused.main.body) (fun s=>xlAt (qf PySem.Challenge.pw_rayround_k65_ones_refused) [] s && recOk [] s) true s.abs,asK.map s.abs.heap.get?))=some (true,openGood (qf PySem.Challenge.pw_rayround_k65_ones_refused) lo,(Kf PySem.Challenge.pw_rayround_k65_ones_refused w.params).map fun x=>some x.2):=by
 rw[HD.Zqs,HD.ZlQ,HD.Zn4,HD.Zn5,HD.ZlR,HD.Zn6,PySem.W.Fast.te7972626156456960847]
 kernel_rfl
end K65
set_option maxRecDepth 1000000 in
set_option maxHeartbeats 0 in
theorem PySem.Challenge.cw_rayround_k65_ones_refused_holds : PySem.Challenge.rw_rayround_k65_ones_refused.Holds := by
 w_on;o_law
 refine holds_open (q:=K65.qf PySem.Challenge.pw_rayround_k65_ones_refused) (loose:=K65.lo) (Xt:=fun s=>xlAt (K65.qf PySem.Challenge.pw_rayround_k65_ones_refused) [] s && recOk [] s) (XP:=XL (K65.qf PySem.Challenge.pw_rayround_k65_ones_refused) []) (Yf:=Hook.obs K65.Hk) (Ya:=Hook.val K65.Hk) (YP:=Hook.says K65.Hk) (N:=6141) ?hl (Hook.of K65.Hk) (Hook.keeps K65.Hk) (fun s e=>xl_of s (Bool.and_eq_true_iff.mp e).1) XL.keeps (by rfl) (by rfl) (by rfl) (fun s e=>recFacts_of (Bool.and_eq_true_iff.mp e).2) (by rfl) (by first | assumption | decide +kernel) (by decide +kernel) ⟨rfl,rfl,rfl,rfl,rfl,by decide +kernel⟩ ?hw ?hc
 case hl=>exact HD.ZiX rfl (by decide) (fun s=>rfl) (by decide) K65.Zqr
 case hw=>w_witness2
 case hc=>
  refine K65.Zun (l:=PySem.Challenge.rw_rayround_k65_ones_refused) rfl rfl (fun w h Y=>PySem.W.kIn_of Y) ?F
  intro w mg fa h KX G hmg
  refine K65.ZpD (f1:=221) (od1:=none) (an1:=none) (sl1:= #[]) (oc1:= .type "function") (kV1:= .none) (dc1:= .none) (pm1:= .str "rayround.wholes" 458) (cd1:= .ref 220) (ct1:= .none) (f2:=228) (od2:=none) (an2:=none) (sl2:= #[]) (oc2:= .type "function") (kV2:= .none) (dc2:= .none) (pm2:= .str "rayround.wholes" 458) (cd2:= .ref 227) (ct2:= .none) (f3:=235) (od3:=none) (an3:=none) (sl3:= #[]) (oc3:= .type "function") (kV3:= .none) (dc3:= .none) (pm3:= .str "rayround.pairs" 477) (cd3:= .ref 234) (ct3:= .none) (f4:=242) (od4:=none) (an4:=none) (sl4:= #[]) (oc4:= .type "function") (kV4:= .none) (dc4:= .none) (pm4:= .str "rayround.pairs" 477) (cd4:= .ref 241) (ct4:= .none) (f5:=249) (od5:=none) (an5:=none) (sl5:= #[]) (oc5:= .type "function") (kV5:= .none) (dc5:= .none) (pm5:= .str "rayround.rounds" 495) (cd5:= .ref 248) (ct5:= .none) (f6:=256) (od6:=none) (an6:=none) (sl6:= #[]) (oc6:= .type "function") (kV6:= .none) (dc6:= .none) (pm6:= .str "rayround.rounds" 495) (cd6:= .ref 255) (ct6:= .none) (f7:=263) (od7:=none) (an7:=none) (sl7:= #[]) (oc7:= .type "function") (kV7:= .none) (dc7:= .none) (pm7:= .str "rayround.rounds" 495) (cd7:= .ref 262) (ct7:= .none) (f8:=268) (od8:=none) (an8:=none) (sl8:= #[]) (oc8:= .type "function") (kV8:= .none) (dc8:= .none) (pm8:= .str "rayround.numbers" 522) (cd8:= .ref 267) (ct8:= .none) (f9:=275) (od9:=none) (an9:=none) (sl9:= #[]) (oc9:= .type "function") (kV9:= .none) (dc9:= .none) (pm9:= .str "rayround.ratios" 530) (cd9:= .ref 274) (ct9:= .none) (f10:=282) (od10:=none) (an10:=none) (sl10:= #[]) (oc10:= .type "function") (kV10:= .none) (dc10:= .none) (pm10:= .str "rayround.ratios" 530) (cd10:= .ref 281) (ct10:= .none) (f11:=289) (od11:=none) (an11:=none) (sl11:= #[]) (oc11:= .type "function") (kV11:= .none) (dc11:= .none) (pm11:= .str "rayround.ratios" 530) (cd11:= .ref 288) (ct11:= .none) (f12:=296) (od12:=none) (an12:=none) (sl12:= #[]) (oc12:= .type "function") (kV12:= .none) (dc12:= .none) (pm12:= .str "rayround.ratios" 530) (cd12:= .ref 295) (ct12:= .none) (f13:=303) (od13:=none) (an13:=none) (sl13:= #[]) (oc13:= .type "function") (kV13:= .none) (dc13:= .none) (pm13:= .str "rayround.ratios" 530) (cd13:= .ref 302) (ct13:= .none) (f14:=310) (od14:=none) (an14:=none) (sl14:= #[]) (oc14:= .type "function") (kV14:= .none) (dc14:= .none) (pm14:= .str "rayround.ratios" 530) (cd14:= .ref 309) (ct14:= .none) (f15:=317) (od15:=none) (an15:=none) (sl15:= #[]) (oc15:= .type "function") (kV15:= .none) (dc15:= .none) (pm15:= .str "rayround.heights" 582) (cd15:= .ref 316) (ct15:= .none) (f16:=324) (od16:=none) (an16:=none) (sl16:= #[]) (oc16:= .type "function") (kV16:= .none) (dc16:= .none) (pm16:= .str "rayround.heights" 582) (cd16:= .ref 323) (ct16:= .none) (f17:=329) (od17:=none) (an17:=none) (sl17:= #[]) (oc17:= .type "function") (kV17:= .none) (dc17:= .none) (pm17:= .str "rayround.bodies" 606) (cd17:= .ref 328) (ct17:= .none) (f18:=334) (od18:=none) (an18:=none) (sl18:= #[]) (oc18:= .type "function") (kV18:= .none) (dc18:= .none) (pm18:= .str "rayround.bodies" 606) (cd18:= .ref 333) (ct18:= .none) (f19:=341) (od19:=none) (an19:=none) (sl19:= #[]) (oc19:= .type "function") (kV19:= .none) (dc19:= .none) (pm19:= .str "rayround.bodies" 606) (cd19:= .ref 340) (ct19:= .none) (f20:=346) (od20:=none) (an20:=none) (sl20:= #[]) (oc20:= .type "function") (kV20:= .none) (dc20:= .none) (pm20:= .str "rayround.dots" 631) (cd20:= .ref 345) (ct20:= .none) (f21:=353) (od21:=none) (an21:=none) (sl21:= #[]) (oc21:= .type "function") (kV21:= .none) (dc21:= .none) (pm21:= .str "rayround.dots" 631) (cd21:= .ref 352) (ct21:= .none) (f22:=360) (od22:=none) (an22:=none) (sl22:= #[]) (oc22:= .type "function") (kV22:= .none) (dc22:= .none) (pm22:= .str "rayround.dots" 631) (cd22:= .ref 359) (ct22:= .none) (f23:=367) (od23:=none) (an23:=none) (sl23:= #[]) (oc23:= .type "function") (kV23:= .none) (dc23:= .none) (pm23:= .str "rayround.dots" 631) (cd23:= .ref 366) (ct23:= .none) (f24:=372) (od24:=none) (an24:=none) (sl24:= #[]) (oc24:= .type "function") (kV24:= .none) (dc24:= .none) (pm24:= .str "rayround.dots" 631) (cd24:= .ref 371) (ct24:= .none) (f25:=377) (od25:=none) (an25:=none) (sl25:= #[]) (oc25:= .type "function") (kV25:= .none) (dc25:= .none) (pm25:= .str "rayround.dots" 631) (cd25:= .ref 376) (ct25:= .none) (f26:=384) (od26:=none) (an26:=none) (sl26:= #[]) (oc26:= .type "function") (kV26:= .none) (dc26:= .none) (pm26:= .str "rayround.wedges" 684) (cd26:= .ref 383) (ct26:= .none) (f27:=391) (od27:=none) (an27:=none) (sl27:= #[]) (oc27:= .type "function") (kV27:= .none) (dc27:= .none) (pm27:= .str "rayround.wedges" 684) (cd27:= .ref 390) (ct27:= .none) (f28:=398) (od28:=none) (an28:=none) (sl28:= #[]) (oc28:= .type "function") (kV28:= .none) (dc28:= .none) (pm28:= .str "rayround.wedges" 684) (cd28:= .ref 397) (ct28:= .none) (f29:=405) (od29:=none) (an29:=none) (sl29:= #[]) (oc29:= .type "function") (kV29:= .none) (dc29:= .none) (pm29:= .str "rayround.wedges" 684) (cd29:= .ref 404) (ct29:= .none) (f30:=412) (od30:=none) (an30:=none) (sl30:= #[]) (oc30:= .type "function") (kV30:= .none) (dc30:= .none) (pm30:= .str "rayround.wedges" 684) (cd30:= .ref 411) (ct30:= .none) (f31:=419) (od31:=none) (an31:=none) (sl31:= #[]) (oc31:= .type "function") (kV31:= .none) (dc31:= .none) (pm31:= .str "rayround.leastrounds" 739) (cd31:= .ref 418) (ct31:= .none) (f32:=424) (od32:=none) (an32:=none) (sl32:= #[]) (oc32:= .type "function") (kV32:= .none) (dc32:= .none) (pm32:= .str "rayround.likeness" 751) (cd32:= .ref 423) (ct32:= .none) (f33:=431) (od33:=none) (an33:=none) (sl33:= #[]) (oc33:= .type "function") (kV33:= .none) (dc33:= .none) (pm33:= .str "rayround.likeness" 751) (cd33:= .ref 430) (ct33:= .none) (f34:=438) (od34:=none) (an34:=none) (sl34:= #[]) (oc34:= .type "function") (kV34:= .none) (dc34:= .none) (pm34:= .str "rayround.likeness" 751) (cd34:= .ref 437) (ct34:= .none) (f35:=462) (od35:=none) (an35:=none) (sl35:= #[]) (oc35:= .type "function") (kV35:= .none) (dc35:= .none) (pm35:= .str "rayround.sixteen" 783) (cd35:= .ref 461) (ct35:= .none) (f36:=469) (od36:=none) (an36:=none) (sl36:= #[]) (oc36:= .type "function") (kV36:= .none) (dc36:= .none) (pm36:= .str "rayround.sixteen" 783) (cd36:= .ref 468) (ct36:= .none) (f37:=474) (od37:=none) (an37:=none) (sl37:= #[]) (oc37:= .type "function") (kV37:= .none) (dc37:= .none) (pm37:= .str "rayround.sixteen" 783) (cd37:= .ref 473) (ct37:= .none) (f38:=479) (od38:=none) (an38:=none) (sl38:= #[]) (oc38:= .type "function") (kV38:= .none) (dc38:= .none) (pm38:= .str "rayround.sixteen" 783) (cd38:= .ref 478) (ct38:= .none) (f39:=486) (od39:=none) (an39:=none) (sl39:= #[]) (oc39:= .type "function") (kV39:= .none) (dc39:= .none) (pm39:= .str "law_rayround_k65_ones_refused" 983) (cd39:= .ref 485) (ct39:= .none) (f40:=493) (od40:=none) (an40:=none) (sl40:= #[]) (oc40:= .type "function") (kV40:= .none) (dc40:= .none) (pm40:= .str "law_rayround_k65_ones_refused" 983) (cd40:= .ref 492) (ct40:= .none) (f41:=498) (od41:=none) (an41:=none) (sl41:= #[]) (oc41:= .type "function") (kV41:= .none) (dc41:= .none) (pm41:= .str "law_rayround_k65_ones_refused" 983) (cd41:= .ref 497) (ct41:= .none) (f42:=505) (od42:=none) (an42:=none) (sl42:= #[]) (oc42:= .type "function") (kV42:= .none) (dc42:= .none) (pm42:= .str "law_rayround_k65_ones_refused" 983) (cd42:= .ref 504) (ct42:= .none) (f43:=510) (od43:=none) (an43:=none) (sl43:= #[]) (oc43:= .type "function") (kV43:= .none) (dc43:= .none) (pm43:= .str "law_rayround_k65_ones_refused" 983) (cd43:= .ref 509) (ct43:= .none) (f44:=517) (od44:=none) (an44:=none) (sl44:= #[]) (oc44:= .type "function") (kV44:= .none) (dc44:= .none) (pm44:= .str "law_rayround_k65_ones_refused" 983) (cd44:= .ref 516) (ct44:= .none) (f45:=524) (od45:=none) (an45:=none) (sl45:= #[]) (oc45:= .type "function") (kV45:= .none) (dc45:= .none) (pm45:= .str "law_rayround_k65_ones_refused" 983) (cd45:= .ref 523) (ct45:= .none) (f46:=529) (od46:=none) (an46:=none) (sl46:= #[]) (oc46:= .type "function") (kV46:= .none) (dc46:= .none) (pm46:= .str "law_rayround_k65_ones_refused" 983) (cd46:= .ref 528) (ct46:= .none) (f47:=536) (od47:=none) (an47:=none) (sl47:= #[]) (oc47:= .type "function") (kV47:= .none) (dc47:= .none) (pm47:= .str "law_rayround_k65_ones_refused" 983) (cd47:= .ref 535) (ct47:= .none) (f48:=543) (od48:=none) (an48:=none) (sl48:= #[]) (oc48:= .type "function") (kV48:= .none) (dc48:= .none) (pm48:= .str "law_rayround_k65_ones_refused" 983) (cd48:= .ref 542) (ct48:= .none) KX G hmg ?a1 ?l1 ?c1 ?k1 ?a2 ?l2 ?c2 ?k2 ?a3 ?l3 ?c3 ?k3 ?a4 ?l4 ?c4 ?k4 ?a5 ?l5 ?c5 ?k5 ?a6 ?l6 ?c6 ?k6 ?a7 ?l7 ?c7 ?k7 ?a8 ?l8 ?c8 ?k8 ?a9 ?l9 ?c9 ?k9 ?a10 ?l10 ?c10 ?k10 ?a11 ?l11 ?c11 ?k11 ?a12 ?l12 ?c12 ?k12 ?a13 ?l13 ?c13 ?k13 ?a14 ?l14 ?c14 ?k14 ?a15 ?l15 ?c15 ?k15 ?a16 ?l16 ?c16 ?k16 ?a17 ?l17 ?c17 ?k17 ?a18 ?l18 ?c18 ?k18 ?a19 ?l19 ?c19 ?k19 ?a20 ?l20 ?c20 ?k20 ?a21 ?l21 ?c21 ?k21 ?a22 ?l22 ?c22 ?k22 ?a23 ?l23 ?c23 ?k23 ?a24 ?l24 ?c24 ?k24 ?a25 ?l25 ?c25 ?k25 ?a26 ?l26 ?c26 ?k26 ?a27 ?l27 ?c27 ?k27 ?a28 ?l28 ?c28 ?k28 ?a29 ?l29 ?c29 ?k29 ?a30 ?l30 ?c30 ?k30 ?a31 ?l31 ?c31 ?k31 ?a32 ?l32 ?c32 ?k32 ?a33 ?l33 ?c33 ?k33 ?a34 ?l34 ?c34 ?k34 ?a35 ?l35 ?c35 ?k35 ?a36 ?l36 ?c36 ?k36 ?a37 ?l37 ?c37 ?k37 ?a38 ?l38 ?c38 ?k38 ?a39 ?l39 ?c39 ?k39 ?a40 ?l40 ?c40 ?k40 ?a41 ?l41 ?c41 ?k41 ?a42 ?l42 ?c42 ?k42 ?a43 ?l43 ?c43 ?k43 ?a44 ?l44 ?c44 ?k44 ?a45 ?l45 ?c45 ?k45 ?a46 ?l46 ?c46 ?k46 ?a47 ?l47 ?c47 ?k47 ?a48 ?l48 ?c48 ?k48 ?z_isinstance ?z_int ?z_bool ?z_abs ?z_len ?z_enumerate ?z_range ?z_zip ?z_list ?z_max ?z_min ?z_tuple ?z_ValueError ?q_ex_NotSmooth ?q_ex_NoRatio ?q_ex_NoHeight ?q_ex_NoWedge ?q_ex_NoOne ?q_co_ROWS ?q_it_NotSmooth ?q_it_NoRound ?q_it_NoTurning ?q_it_NoRatio ?q_it_NoMinus ?q_it_NoPlace ?q_it_NoRow ?q_it_NoWedge ?q_it_NoBody ?q_it_NoBend ?q_it_NoHeight ?q_it_NoFour ?q_it_Unknown ?q_it_NoText ?q_it_NoOne ?q_ib_ValueError ?q_ct_RayError
  all_goals kernel_rfl
