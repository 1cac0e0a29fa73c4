import PyProof.Rows.All
import Wide.All
import OpenK.AllK
import Wide.FinOn
import Lean
import PyProof.EqAt
import PyProof.EqKinds
import PyProof.TupleCall
import PySem.Challenge.RW_rayround_k34_alike_by_turnings
set_option maxRecDepth 100000
set_option linter.all false
set_option Elab.async false
set_option maxHeartbeats 4000000
noncomputable section
set_option bootstrap.genMatcherCode false
set_option genSizeOf false
set_option genSizeOfSpec false
set_option compiler.extract_closed false
section
namespace DQ
open PySem PySem.Spec PyProof.Rows
noncomputable def ZbP (A:Around) (h:Heap):Prop:=A.handled=none\/ ∃ ea oe vs,A.handled=some (.ref ea)/\h.get? ea=some oe/\oe.data= .fields vs/\vs[2]?=some .none
theorem ZbP.keeps {A:Around} {h h':Heap} (q:ZbP A h) (k: ∀ b o,h.get? b=some o->h'.get? b=some o):ZbP A h':=by
 rcases q with q | ⟨ea,oe,vs,e1,e2,e3,e4⟩
 ·exact .inl q
 ·exact .inr ⟨ea,oe,vs,e1,k _ _ e2,e3,e4⟩
theorem ZdZ:entryFor table "proto.unchain"=some Builtin.«proto.unchain» :=entryFor_of_fast (by kernel_rfl)
section
variable {prog:Program} {w:World} {A:Around} {E:Value->Shared->Prop} {s:Shared}
theorem Zfu {α:Type} {Q:α->Shared->Prop} {e:Addr} {oe:Obj} {vs:Array Value} (q:ZbP A s.heap) (he:s.heap.get? e=some oe) (hd:oe.data= .fields vs) (hz:2 < vs.size)
  (h: ∀ h',(∀ b o,b≠e->s.heap.get? b=some o->h'.get? b=some o)->(∃ o,h'.get? e=some o/\o.cls=oe.cls)->E (.ref e) { s with heap:=h' }):wpAny (model prog w) A (raiseNew (.ref e):Sem α) Q E s:=by
 have same:E (.ref e) s:=h s.heap (fun _ _ _ x=>x) ⟨oe,he,rfl⟩
 unfold raiseNew
 refine wpAny_bind (wpAny_handled ?_)
 rcases q with q | ⟨ea,oa,ws,q1,q2,q3,q4⟩
 ·rw[q]
  exact wpAny_bind (wpAny_pure (wpAny_throw same))
 ·rw[q1]
  dsimp only
  by_cases c:(Value.ref ea != Value.ref e)=true
  ·rw[if_pos c]
   refine wpAny_bind (wpAny_holding (wpAny_runValue (codeAny_builtin ZdZ ?_)))
   unfold Builtin.«proto.unchain»
   refine wpAny_bind (wpAny_field q2 q3 q4 ?_)
   refine wpAny_bind (wpAny_pure ?_)
   have sf:wpAny (model prog w) A (setField (.ref e) 2 (.ref ea)) (fun _ s'=>wpAny (model prog w) A (throw (Value.ref e):Sem α) Q E s') E s:=by
    refine wpAny_setField he hd hz (wpAny_throw (h _ (fun b o hb x=> ?_) ⟨_,Heap.get?_update_self _ he (Obj.isFreed_of_fields (Obj.data_mapFields hd _)),Obj.cls_mapFields _ _⟩))
    rw[Heap.get?_update_other _ _ (Ne.symm hb)]
    exact x
   exact wpAny_pure (wpAny_bind sf)
  ·rw[if_neg c]
   exact wpAny_throw same
theorem Zcn {α:Type} {Q:α->Shared->Prop} (q:ZbP A s.heap)
  (h: ∀ h' e,(∀ b o,s.heap.get? b=some o->h'.get? b=some o)->(∃ o,h'.get? e=some o/\o.cls= .type "StopIteration")->E (.ref e) { s with heap:=h' }):
  wpAny (model prog w) A (newExc (.type "StopIteration") [] >>= fun x=>(raiseNew x:Sem α)) Q E s:=by
 refine wpAny_bind ?_
 simp only[newExc,newTuple]
 refine wpAny_bind (wpAny_newObj_type ?_ (by size_fits))
 refine wpAny_bind (m:=firstArgMember _ _) (wpAny_of_eq (a:=Value.none) (by first | rfl | (simp only[firstArgMember];rfl)) ?_)
 refine wpAny_newObj_type ?_ (by size_fits)
 refine Zfu (q.keeps fun b o x=>Heap.get?_push_of_some _ (Heap.get?_push_of_some _ x)) (Heap.get?_push_size _ rfl) rfl (by rw[Array.size_append];exact Nat.lt_of_lt_of_le (by decide:2 < 6) (Nat.le_add_right _ _)) fun h' k he=> ?_
 exact h h' _ (fun b o x=>k b o (Nat.ne_of_lt (Nat.lt_of_lt_of_le (Heap.lt_size x) (by rw[Heap.size_push];exact Nat.le_succ _))) (Heap.get?_push_of_some _ (Heap.get?_push_of_some _ x))) he
theorem Zlx {e:Addr} {Q:Bool->Shared->Prop} (he: ∃ o,s.heap.get? e=some o/\o.cls= .type "StopIteration") (h:Q true s):wpAny (model prog w) A (isInstance (.ref e) (.type "StopIteration")) Q E s:=
 let ⟨o,e1,e2⟩:=he
 wpAny_isInstance (T:="StopIteration") (b:=true) ⟨o,e1,e2⟩ isSubtype_stop h
theorem ZbP.in1 {h:Heap} (q:ZbP A h):ZbP A.in1 h:=q
noncomputable def Zhr (it:Addr) (s:Shared) (e:Value) (s':Shared):Prop:= ∃ a,e= .ref a/\(∃ o,s'.heap.get? a=some o/\o.cls= .type "StopIteration")/\ ∃ h',Heap.ExtBut it s.heap h'/\s'={ s with heap:=h' }
theorem Zhs {it:Addr} {T id:String} {b:Builtin} {Q:Option Value->Shared->Prop} (hT:s.TypeIs (.ref it) T) (sl:Slot T (Str.ofString "__next__") id) (hb:entryFor table id=some b) (ha:argsOk id ⟨[.ref it],[]⟩)
  (h:wpAny (model prog w) A.in1 (b ⟨[.ref it],[]⟩) (fun _ _=>False) (Zhr it s) s) (hQ: ∀ h',Heap.ExtBut it s.heap h'->Q none { s with heap:=h' }):wpAny (model prog w) A (pyNext (.ref it)) Q E s:=by
 unfold pyNext
 refine wpAny_bind (wpAny_attempt (wpAny_callSpecial?_slot (name:=Str.ofString "__next__") hT sl (wpAny_call_entry sl hT hb (wpAny_mono h (fun _ _ z=>z.elim) fun e s' z=> ?_) ha)))
 obtain ⟨a,rfl,ho,h',eb,rfl⟩:=z
 exact wpAny_bind (Zlx ho (wpAny_pure (hQ h' eb)))
theorem Zht {it:Addr} {x left step:Int} {Q:Option Value->Shared->Prop} (q:ZbP A s.heap) (hit:IsRangeIter s.heap it x left step) (hl:left<=0)
  (hQ: ∀ h',Heap.ExtBut it s.heap h'->Q none { s with heap:=h' }):wpAny (model prog w) A (pyNext (.ref it)) Q E s:=by
 refine Zhs ⟨_,hit,rfl⟩ F.slot_range_iterator_next F.entry_range_iterator_next (F.args_range_iterator_next_1 _) ?_ hQ
 refine wpAny_bind (m:=field (.ref it) 0) (wpAny_field hit rfl (x:=rawInt x) rfl ?_)
 refine wpAny_bind (m:=field (.ref it) 1) (wpAny_field hit rfl (x:=rawInt left) rfl ?_)
 refine wpAny_bind (m:=field (.ref it) 2) (wpAny_field hit rfl (x:=rawInt step) rfl ?_)
 dsimp only[rawInt]
 rw[if_pos hl]
 refine wpAny_bind (wpAny_rule (wpAny_bind ?_))
 exact Zcn q.in1 fun h' e k ho=>⟨e,rfl,ho,h',fun b o _ z=>k b o z,rfl⟩
theorem Znx {it l:Addr} {i:Nat} {o ol:Obj} {items:Array Value} {n:Nat} (q:ZbP A s.heap) (ho:s.heap.get? it=some o) (hd:o.data= .fields #[.ref l,.int i 0]) (hol:s.heap.get? l=some ol) (hdl:ol.data= .seq items n) (hx:items[i]?=none):
  wpAny (model prog w) A.in1 (Builtin.«list_iterator.__next__» ⟨[.ref it],[]⟩) (fun _ _=>False) (Zhr it s) s:=by
 refine wpAny_bind (m:=field (.ref it) 0) (wpAny_field ho hd (x:= .ref l) rfl ?_)
 dsimp only
 rw[if_neg (show ¬ ((Value.ref l == Value.none)=true) from Bool.false_ne_true)]
 refine wpAny_bind (m:=field (.ref it) 1) (wpAny_field ho hd (x:= .int i 0) rfl ?_)
 refine wpAny_bind (m:=seqItems? (.ref l)) (wpAny_seqItems hol hdl ?_)
 simp only[Int.toNat_natCast,hx]
 refine wpAny_bind (wpAny_rule (wpAny_bind (wpAny_setField ho hd (by simp) ?_)))
 have q2:ZbP A.in1 (s.heap.update it (Obj.mapFields (·.setIfInBounds 0 Value.none))):=by
  rcases q with q | ⟨ea,oe,vs,e1,e2,e3,e4⟩
  ·exact .inl q
  ·refine .inr ⟨ea,oe,vs,e1,?_,e3,e4⟩
   rw[Heap.get?_update_other _ _ (fun z=> ?_)]
   ·exact e2
   ·rw[<- z,ho] at e2
    cases e2
    rw[hd] at e3
    cases e3
    simp at e4
 refine Zcn q2 fun h' e k ho=>⟨e,rfl,ho,h',fun b o hb z=>k b o ?_,rfl⟩
 rw[Heap.get?_update_other _ _ (Ne.symm hb)]
 exact z
theorem Zny {it l:Addr} {i:Nat} {o ol:Obj} {items:Array Value} {n:Nat} (q:ZbP A s.heap) (ho:s.heap.get? it=some o) (hd:o.data= .fields #[.ref l,.int i 0]) (hol:s.heap.get? l=some ol) (hdl:ol.data= .seq items n) (hx:items[i]?=none):
  wpAny (model prog w) A.in1 (Builtin.«tuple_iterator.__next__» ⟨[.ref it],[]⟩) (fun _ _=>False) (Zhr it s) s:=by
 refine wpAny_bind (m:=field (.ref it) 0) (wpAny_field ho hd (x:= .ref l) rfl ?_)
 dsimp only
 rw[if_neg (show ¬ ((Value.ref l == Value.none)=true) from Bool.false_ne_true)]
 refine wpAny_bind (m:=field (.ref it) 1) (wpAny_field ho hd (x:= .int i 0) rfl ?_)
 refine wpAny_bind (m:=seqItems? (.ref l)) (wpAny_seqItems hol hdl ?_)
 simp only[Int.toNat_natCast,hx]
 refine wpAny_bind (wpAny_rule (wpAny_bind (wpAny_setField ho hd (by simp) ?_)))
 have q2:ZbP A.in1 (s.heap.update it (Obj.mapFields (·.setIfInBounds 0 Value.none))):=by
  rcases q with q | ⟨ea,oe,vs,e1,e2,e3,e4⟩
  ·exact .inl q
  ·refine .inr ⟨ea,oe,vs,e1,?_,e3,e4⟩
   rw[Heap.get?_update_other _ _ (fun z=> ?_)]
   ·exact e2
   ·rw[<- z,ho] at e2
    cases e2
    rw[hd] at e3
    cases e3
    simp at e4
 refine Zcn q2 fun h' e k ho=>⟨e,rfl,ho,h',fun b o hb z=>k b o ?_,rfl⟩
 rw[Heap.get?_update_other _ _ (Ne.symm hb)]
 exact z
theorem Zjy {it l:Addr} {i:Nat} {items} {Q:Option Value->Shared->Prop} (q:ZbP A s.heap) (hit:s.heap.IsListIter it l i) (hl:s.heap.IsList l items) (hx:items[i]?=none)
  (hQ: ∀ h',Heap.ExtBut it s.heap h'->Q none { s with heap:=h' }):wpAny (model prog w) A (pyNext (.ref it)) Q E s:=by
 obtain ⟨o,ho,hc,hd⟩:=id hit
 obtain ⟨ol,hol,_,nl,hdl⟩:=hl
 exact Zhs hit.typeIs slot_listiter_next entry_listiter_next (args_listiter_next _) (Znx q ho hd hol hdl hx) hQ
theorem Zhu {it l:Addr} {i:Nat} {items} {Q:Option Value->Shared->Prop} (q:ZbP A s.heap) (hit:s.heap.IsTupleIter it l i) (hl:s.heap.IsTuple l items) (hx:items[i]?=none)
  (hQ: ∀ h',Heap.ExtBut it s.heap h'->Q none { s with heap:=h' }):wpAny (model prog w) A (pyNext (.ref it)) Q E s:=by
 obtain ⟨o,ho,hc,hd⟩:=id hit
 obtain ⟨ol,hol,_,nl,hdl⟩:=hl
 exact Zhs hit.typeIs F.slot_tuple_iterator_next F.entry_tuple_iterator_next (F.args_tuple_iterator_next_1 _) (Zny q ho hd hol hdl hx) hQ
end
end DQ
end
section
namespace L2
open PySem PySem.Spec PyProof.Rows
noncomputable abbrev Key:=Sum Int Str
noncomputable def ZgN:Key->Value->Bool
 | .inl k,v=>Value.isInt k v
 | .inr x,v=>Value.isStrOf x v
noncomputable def Zuk (w:World):Key->Int
 | .inl k=>hashInt k
 | .inr x=>hashStr w x
theorem ZU: ∀ {k:Key} {v:Value},ZgN k v=true->(∃ i t,k=Sum.inl i/\v=Value.int i t)\/(∃ x t,k=Sum.inr x/\v=Value.str x t)
 | .inl i,v,h=>by
  obtain ⟨t,e⟩:=Value.isInt_shape (k:=i) (v:=v) h
  exact .inl ⟨i,t,rfl,e⟩
 | .inr x,v,h=>by
  obtain ⟨t,e⟩:=Value.isStrOf_shape (x:=x) (v:=v) h
  exact .inr ⟨x,t,rfl,e⟩
theorem Zhv (i:Int) (t:Tok):ZgN (.inl i) (.int i t)=true:=by simp[ZgN,Value.isInt]
theorem Zhw (x:Str) (t:Tok):ZgN (.inr x) (.str x t)=true:=by simp[ZgN,Value.isStrOf]
theorem Znz (a b:Int):decide ((Sum.inl a:Key)=Sum.inl b)=(a == b):=by
 by_cases e:a=b
 ·subst e;simp
 ·have h: ¬ (Sum.inl a:Key)=Sum.inl b:=fun q=>e (Sum.inl.inj q)
  rw[decide_eq_false h]
  exact (beq_eq_false_iff_ne.mpr e).symm
theorem ZnA (a b:Str):decide ((Sum.inr a:Key)=Sum.inr b)=decide (a=b):=by
 by_cases e:a=b
 ·subst e;simp
 ·have h: ¬ (Sum.inr a:Key)=Sum.inr b:=fun q=>e (Sum.inr.inj q)
  rw[decide_eq_false h,decide_eq_false e]
theorem ZnB (a:Int) (b:Str):decide ((Sum.inl a:Key)=Sum.inr b)=false:=decide_eq_false (fun q=>nomatch q)
theorem ZnC (a:Str) (b:Int):decide ((Sum.inr a:Key)=Sum.inl b)=false:=decide_eq_false (fun q=>nomatch q)
noncomputable def ZaE (prog:Program) (w:World):PySem.KeyKind prog w Key where
 is:=ZgN
 hash:=Zuk w
 inj:=fun v a b ha hb=>by
  rcases ZU ha with ⟨i,t,rfl,rfl⟩ | ⟨x,t,rfl,rfl⟩
  ·rcases ZU hb with ⟨j,u,rfl,e⟩ | ⟨y,u,rfl,e⟩
   ·injection e with e1 _;rw[e1]
   ·exact nomatch e
  ·rcases ZU hb with ⟨j,u,rfl,e⟩ | ⟨y,u,rfl,e⟩
   ·exact nomatch e
   ·injection e with e1 _;rw[e1]
 byValue:=fun k v h=>by
  rcases ZU h with ⟨i,t,rfl,rfl⟩ | ⟨x,t,rfl,rfl⟩<;>rfl
 pyHash:=fun hv h=>by
  rcases ZU hv with ⟨i,t,rfl,rfl⟩ | ⟨x,t,rfl,rfl⟩
  ·exact wpAny_pyHash_int h
  ·exact wpAny_pyHash_str h
 eqBool:=fun hu hv h=>by
  rcases ZU hu with ⟨i,t,rfl,rfl⟩ | ⟨x,t,rfl,rfl⟩
  ·rcases ZU hv with ⟨j,u,rfl,rfl⟩ | ⟨y,u,rfl,rfl⟩
   ·rw[Znz] at h;exact wpAny_eqBool_int h
   ·rw[ZnB] at h;exact SeqAt.EqAt.int_str i t y u _ _ _ _ h
  ·rcases ZU hv with ⟨j,u,rfl,rfl⟩ | ⟨y,u,rfl,rfl⟩
   ·rw[ZnC] at h;exact SeqAt.EqAt.str_int x t j u _ _ _ _ h
   ·rw[ZnA] at h;exact wpAny_eqBool_str h
 «strs» :=fun k x t v h=>by
  rcases ZU h with ⟨i,u,rfl,e⟩ | ⟨y,u,rfl,e⟩
  ·exact nomatch e
  ·injection e with e1 _
   subst e1
   cases v<;>rfl
theorem Zfv (prog:Program) (w:World) (i:Int) (t:Tok):(ZaE prog w).is (.inl i) (.int i t)=true:=Zhv i t
theorem Zfw (prog:Program) (w:World) (x:Str) (t:Tok):(ZaE prog w).is (.inr x) (.str x t)=true:=Zhw x t
end L2
namespace L2
open PySem PySem.Spec PyProof.Rows
inductive V where
 |non | bl (b:Bool) | int (i:Int) | str (x:Str) | byt (b:Array UInt8) | flt (b:UInt64) | ref (a:Addr) | ty (n:String)
 deriving DecidableEq
noncomputable def ZV:V->Value->Prop
 | .non,u=>u=Value.none
 | .bl b,u=>u=Value.bool b
 | .int i,u=> ∃ t,u=Value.int i t
 | .str x,u=> ∃ t,u=Value.str x t
 | .byt b,u=> ∃ t,u=Value.bytes b t
 | .flt b,u=> ∃ t,u=Value.float b t
 | .ref a,u=>u=Value.ref a
 | .ty n,u=>u=Value.type n
noncomputable abbrev ZX:List V->List Value->Prop:=Paired ZV
theorem ZX.length {xs:List V} {us:List Value} (r:ZX xs us):xs.length=us.length:=Paired.length r
theorem ZX.get: ∀ {xs:List V} {us:List Value} {i:Nat} {x:V},ZX xs us->xs[i]?=some x-> ∃ u,us[i]?=some u/\ZV x u
 |_,_,_,_,.nil,e=>by simp at e
 |_,_,0,_,.cons r _,e=>by simp at e;subst e;exact ⟨_,rfl,r⟩
 |_,_,i + 1,x,.cons _ t,e=>by
  obtain ⟨u,h1,h2⟩:=ZX.get (i:=i) (x:=x) t (by simpa using e)
  exact ⟨u,by simpa using h1,h2⟩
theorem ZX.set {x:V} {u:Value} (r:ZV x u): ∀ {xs:List V} {us:List Value} (i:Nat),ZX xs us->ZX (xs.set i x) (us.set i u)
 |_,_,_,.nil=> .nil
 |_,_,0,.cons _ t=> .cons r t
 |_,_,i + 1,.cons q t=> .cons q (ZX.set r i t)
theorem ZX.append: ∀ {xs ys:List V} {us ws:List Value},ZX xs us->ZX ys ws->ZX (xs ++ ys) (us ++ ws)
 |_,_,_,_,.nil,s=>s
 |_,_,_,_,.cons r t,s=> .cons r (ZX.append t s)
theorem ZX.take: ∀ {xs:List V} {us:List Value} (n:Nat),ZX xs us->ZX (xs.take n) (us.take n)
 |_,_,0,_=> .nil
 |_,_,_ + 1,.nil=> .nil
 |_,_,n + 1,.cons r t=> .cons r (ZX.take n t)
theorem ZX.drop: ∀ {xs:List V} {us:List Value} (n:Nat),ZX xs us->ZX (xs.drop n) (us.drop n)
 |_,_,0,r=>r
 |_,_,_ + 1,.nil=> .nil
 |_,_,n + 1,.cons _ t=>ZX.drop n t
noncomputable def Znr:Option V->Option Value->Prop
 |some v,some u=>ZV v u
 |none,none=>True
 |_,_=>False
noncomputable def KV {κ:Type}:List (κ × V)->List (κ × Value)->Prop:=Paired fun (p:κ × V) (q:κ × Value)=>p.1=q.1/\ZV p.2 q.2
noncomputable def kV:Key->V
 | .inl i=> .int i
 | .inr x=> .str x
inductive HO where
 |lst (xs:List V)
 |tup (xs:List V)
 |dK (kvs:List (Key × V)) | dT (kvs:List (List Key × V))
 |set (S:Int->Bool) (n:Nat)
 |ins (C dx:Addr) (fs:List (Str × V))
 |own (x:Addr)
 |xd (fs:List (Str × V))
 |met (f x:Addr)
 |rng (lo hi:Int)
 |frz (o:Obj) (u:HO)
 |tbl (ps:Array Value)
 |ext (φ:Heap->Prop)
noncomputable abbrev Hp:=Addr->Option HO
noncomputable def upd (H:Hp) (a:Addr) (o:HO):Hp:=fun b=>if b=a then some o else H b
theorem ZC {H:Hp} {a:Addr} {o:HO}:upd H a o a=some o:=by unfold upd;rw[if_pos rfl]
theorem ZP {H:Hp} {a b:Addr} {o:HO} (h:b≠a):upd H a o b=H b:=by unfold upd;rw[if_neg h]
theorem ZqZ {H:Hp} {a b:Addr} {o u:HO} (h:H a=some o) (h':H b=some u) (d:o≠u):a≠b:=by
 intro e;subst e;rw[h] at h';exact d (Option.some.inj h')
theorem Zag {H:Hp} {a b:Addr} {o:HO} (h:H a=some o) (h':H b=none):a≠b:=by
 intro e;subst e;rw[h] at h';cases h'
section
variable (P:Program) (w:World)
noncomputable def Zba (H:Hp) (h:Heap) (a:Addr):HO->Prop
 | .lst xs=>xs.length<=sizeLine/\ ∃ (its:List Value) (n:Nat),ZX xs its/\h.get? a=some { cls:= .type "list",data:= .seq its.toArray n }
 | .tup xs=>xs.length<=sizeLine/\ ∃ its:List Value,ZX xs its/\IsTup h a its.toArray
 | .dK kvs=>kvs.length<=sizeLine/\(a == sysModules)=false/\ ∃ vs,KV kvs vs/\h.DictOf (ZaE P w) a vs
 | .dT kvs=>kvs.length<=sizeLine/\(a == sysModules)=false/\ ∃ xs:List (List Key × Addr × Value),
   Paired (fun (p:List Key × V) (q:List Key × Addr × Value)=>p.1=q.1/\H q.2.1=some (.tup (p.1.map kV))/\ZV p.2 q.2.2) kvs xs/\
   ∃ o es ep,h.get? a=some o/\o.ExactDict/\o.data= .dict es ep/\es.toList=xs.map (entryOfKey (tupleKind (ZaE P w)))/\(xs.map (·.1)).Nodup
 | .set S n=>h.SetOf (intKind P w) a S n
 | .ins C dx fs=>H dx=some (.own a)/\fs.length<=1000/\dx≠a/\h.get? a=some (PySem.W.instObj C dx)/\
   ∃ mA,h.Ns1 dx mA/\(∀ f,Znr (fs.lookup f) (mA f))/\PySem.Within mA (fs.map (·.1))
 | .own _=> ∃ o,h.get? a=some o
 | .xd fs=> ∃ mA,h.Ns1 a mA/\ ∀ f,Znr (fs.lookup f) (mA f)
 | .rng lo hi=> ∃ t u v,h.get? a=some { cls:= .type "range",data:= .fields #[.int lo t,.int hi u,.int 1 v] }
 | .frz o u=>h.get? a=some o/\Zba H h a u
 | .tbl ps=>h.get? a=some { cls:= .none,data:= .fields ps }
 | .met f x=>h.get? a=some (PySem.W.methodObj (.ref f) (.ref x))
 | .ext φ=>φ h/\(∃ o,h.get? a=some o)/\ ∀ h1 h2:Heap,φ h1->(∀ o,h1.get? a=some o->h2.get? a=some o)->φ h2
noncomputable def HOk (H:Hp) (h:Heap):Prop:= ∀ a o,H a=some o->Zba P w H h a o
end
section
variable {P:Program} {w:World} {H H':Hp} {h h':Heap} {a:Addr} {o:HO}
theorem Zba.lt (x:Zba P w H h a o):a < h.objs.size:=by
 cases o with
 |lst xs=>obtain ⟨_,_,_,_,e⟩:=x;exact Heap.lt_size e
 |tup xs=>obtain ⟨_,_,_,p⟩:=x;exact p.lt
 |dK kvs=>obtain ⟨_,_,_,_,o,_,_,e,_⟩:=x;exact Heap.lt_size e
 |dT kvs=>obtain ⟨_,_,_,_,o,_,_,e,_⟩:=x;exact Heap.lt_size e
 |set S n=>obtain ⟨o,_,_,_,e,_⟩:=x;exact Heap.lt_size e
 |ins C dx fs=>obtain ⟨_,_,_,e,_⟩:=x;exact Heap.lt_size e
 |own y=>obtain ⟨_,e⟩:=x;exact Heap.lt_size e
 |xd fs=>obtain ⟨_,⟨_,_,_,e,_⟩,_⟩:=x;exact Heap.lt_size e
 |rng lo hi=>obtain ⟨_,_,_,e⟩:=x;exact Heap.lt_size e
 |frz ob u=>obtain ⟨e,_⟩:=x;exact Heap.lt_size e
 |tbl ps=>exact Heap.lt_size (show h.get? a=some _ from x)
 |met f y=>exact Heap.lt_size (show h.get? a=some _ from x)
 |ext φ=>obtain ⟨_,⟨_,e⟩,_⟩:=x;exact Heap.lt_size e
theorem Paired.mapP {α β:Type} {F G:α->β->Prop}: ∀ {l₁:List α} {l₂:List β},Paired F l₁ l₂->(∀ a b,F a b->G a b)->Paired G l₁ l₂
 |_,_,.nil,_=> .nil
 |_,_,.cons r t,f=> .cons (f _ _ r) (Paired.mapP t f)
theorem Zba.stay (x:Zba P w H h a o) (k: ∀ b u,(b=a\/H b=some (.own a))->h.get? b=some u->h'.get? b=some u)
  (ho: ∀ b,H b=some (.own a)->H' b=some (.own a)) (ht: ∀ b xs,H b=some (.tup xs)->H' b=some (.tup xs)):Zba P w H' h' a o:=by
 induction o with
 |lst xs=>obtain ⟨z,its,n,r,e⟩:=x;exact ⟨z,its,n,r,k _ _ (.inl rfl) e⟩
 |tup xs=>obtain ⟨z,its,r,ob,e,c⟩:=x;exact ⟨z,its,r,ob,k _ _ (.inl rfl) e,c⟩
 |dK kvs=>obtain ⟨z,y,vs,r,ob,es,ep,e,c⟩:=x;exact ⟨z,y,vs,r,ob,es,ep,k _ _ (.inl rfl) e,c⟩
 |dT kvs=>
  obtain ⟨z,y,xs,r,ob,es,ep,e,c⟩:=x
  exact ⟨z,y,xs,Paired.mapP r fun p q z=>⟨z.1,ht _ _ z.2.1,z.2.2⟩,ob,es,ep,k _ _ (.inl rfl) e,c⟩
 |set S n=>obtain ⟨ob,es,ep,t,e,c⟩:=x;exact ⟨ob,es,ep,t,k _ _ (.inl rfl) e,c⟩
 |ins C dx fs=>
  obtain ⟨d,z,ne,e,mA,⟨od,es,ep,e2,c⟩,r⟩:=x
  exact ⟨ho _ d,z,ne,k _ _ (.inl rfl) e,mA,⟨od,es,ep,k _ _ (.inr d) e2,c⟩,r⟩
 |own y=>obtain ⟨ob,e⟩:=x;exact ⟨ob,k _ _ (.inl rfl) e⟩
 |xd fs=>obtain ⟨mA,⟨od,es,ep,e,c⟩,r⟩:=x;exact ⟨mA,⟨od,es,ep,k _ _ (.inl rfl) e,c⟩,r⟩
 |rng lo hi=>obtain ⟨t,u,v,e⟩:=x;exact ⟨t,u,v,k _ _ (.inl rfl) e⟩
 |frz ob u ih=>obtain ⟨e,q⟩:=x;exact ⟨k _ _ (.inl rfl) e,ih q⟩
 |tbl ps=>
  have e:h.get? a=some { cls:= .none,data:= .fields ps }:=x
  show h'.get? a=some { cls:= .none,data:= .fields ps }
  exact k a _ (.inl rfl) e
 |met f y=>
  have e:h.get? a=some (PySem.W.methodObj (.ref f) (.ref y)):=x
  show h'.get? a=some (PySem.W.methodObj (.ref f) (.ref y))
  exact k a _ (.inl rfl) e
 |ext φ=>obtain ⟨p,⟨o,e⟩,st⟩:=x;exact ⟨st _ _ p fun o q=>k _ _ (.inl rfl) q,⟨o,k _ _ (.inl rfl) e⟩,st⟩
theorem HOk.lt (x:HOk P w H h) (e:H a=some o):a < h.objs.size:=(x a o e).lt
theorem HOk.fresh (x:HOk P w H h) (e:h.objs.size<=a):H a=none:=by
 cases q:H a with
 |none=>rfl
 |some u=>exact absurd (Nat.lt_of_lt_of_le (x.lt q) e) (Nat.lt_irrefl _)
theorem HOk.kept (x:HOk P w H h) (k: ∀ b u,h.get? b=some u->h'.get? b=some u):HOk P w H h':=fun a o e=>
 (x a o e).stay (fun b u _ q=>k b u q) (fun _ q=>q) fun _ _ q=>q
theorem HOk.laid (x:HOk P w H h) (k: ∀ b u,h.get? b=some u->h'.get? b=some u) (hp:h.objs.size<=a) (new:Zba P w (upd H a o) h' a o):HOk P w (upd H a o) h':=fun b u e=>by
 have hn:=x.fresh hp
 by_cases hb:b=a
 ·subst hb;rw[ZC] at e;cases e;exact new
 ·rw[ZP hb] at e
  exact (x b u e).stay (fun c v _ q=>k c v q) (fun c q=>by rw[ZP (Zag q hn)];exact q) fun c xs q=>by rw[ZP (Zag q hn)];exact q
end
noncomputable def Rd (H:Hp) (a:Addr) (u:HO):Prop:=H a=some u\/ ∃ o,H a=some (.frz o u)
theorem Rd.ok {P:Program} {w:World} {H:Hp} {h:Heap} {a:Addr} {u:HO} (r:Rd H a u) (x:HOk P w H h):Zba P w H h a u:=by
 rcases r with r | ⟨o,r⟩
 ·exact x a u r
 ·obtain ⟨_,q⟩:=x a _ r
  exact q
noncomputable def Mut:Option HO->Prop
 |some (.lst _)=>True
 |some (.dK _)=>True
 |some (.dT _)=>True
 |some (.set _ _)=>True
 |some (.ins _ _ _)=>True
 |some (.ext _)=>True
 |_=>False
section
variable {P:Program} {w:World} {H:Hp} {h h':Heap} {x e:Addr} {o':HO}
theorem HOk.write (ok:HOk P w H h) (mu:Mut (H x)) (he:e=x\/H e=some (.own x)) (k: ∀ b u,b≠e->h.get? b=some u->h'.get? b=some u) (heo: ∃ u,h'.get? e=some u)
  (new:Zba P w (upd H x o') h' x o'):HOk P w (upd H x o') h':=fun b u q=>by
 have nown: ∀ c y,H c=some (.own y)->c≠x:=fun c y r z=>by subst z;rw[r] at mu;exact mu
 have ntup: ∀ c xs,H c=some (.tup xs)->c≠x:=fun c xs r z=>by subst z;rw[r] at mu;exact mu
 by_cases hb:b=x
 ·subst hb;rw[ZC] at q;cases q;exact new
 ·rw[ZP hb] at q
  by_cases hbe:b=e
  ·have q':H b=some (.own x):=by
    rcases he with z | z
    ·exact absurd (hbe.trans z) hb
    ·rw[hbe];exact z
   rw[q] at q';cases q'
   obtain ⟨v,hv⟩:=heo
   exact ⟨v,by rw[hbe];exact hv⟩
  ·refine (ok b u q).stay (fun c v hc r=>k c v ?_ r) (fun c r=>by rw[ZP (nown c b r)];exact r) fun c xs r=>by rw[ZP (ntup c xs r)];exact r
   rcases hc with rfl | hc
   ·exact hbe
   ·rintro rfl
    rcases he with z | z
    ·exact nown c b hc z
    ·rw[hc] at z;cases z;exact hb rfl
end
structure Un (fs ex:List Addr) (H H':Hp) (h h':Heap):Prop where
 keep: ∀ b o,h.get? b=some o->H b=none->b ∉ fs->b ∉ ex->h'.get? b=some o
 slot: ∀ b o,h.get? b=some o->H b=none->b∈fs->b ∉ ex-> ∃ sl,h'.get? b=some { o with slots:=sl }
 free: ∀ b o,h.get? b=some o->H b=none->b ∉ ex->H' b=none
 there: ∀ b o,h.get? b=some o->b ∉ ex-> ∃ o',h'.get? b=some o'
 tups: ∀ b xs,H b=some (.tup xs)->H' b=some (.tup xs)
 frzs: ∀ b o u,H b=some (.frz o u)->H' b=some (.frz o u)
 tbls: ∀ b ps,H b=some (.tbl ps)-> ∃ more,H' b=some (.tbl (ps ++ more))
section
variable {fs fs' ex ex':List Addr} {H H1 H2:Hp} {h h1 h2 h':Heap} {a x e:Addr} {o:HO}
theorem Un.any (u:Un fs ex H H1 h h1) {b:Addr} {ob:Obj} (q:h.get? b=some ob) (n:H b=none) (hx:b ∉ ex): ∃ sl,h1.get? b=some { ob with slots:=sl }:=by
 by_cases hb:b∈fs
 ·exact u.slot b ob q n hb hx
 ·exact ⟨ob.slots,u.keep b ob q n hb hx⟩
theorem Un.kept (k: ∀ b u,h.get? b=some u->h'.get? b=some u):Un fs ex H H h h':=
 ⟨fun b ob q _ _ _=>k b ob q,fun b ob q _ _ _=>⟨ob.slots,k b ob q⟩,fun _ _ _ n _=>n,fun b ob q _=>⟨ob,k b ob q⟩,fun _ _ q=>q,fun _ _ _ q=>q,fun _ ps q=>⟨#[],by rw[q];simp⟩⟩
theorem Un.refl:Un fs ex H H h h:=Un.kept fun _ _ q=>q
theorem Un.laid (k: ∀ b u,h.get? b=some u->h'.get? b=some u) (hp:h.objs.size<=a) (hn:H a=none):Un fs ex H (upd H a o) h h' where
 keep:=fun b u q _ _ _=>k b u q
 slot:=fun b u q _ _ _=>⟨u.slots,k b u q⟩
 free:=fun b u q n _=>by rw[ZP (Nat.ne_of_lt (Nat.lt_of_lt_of_le (Heap.lt_size q) hp))];exact n
 there:=fun b u q _=>⟨u,k b u q⟩
 tups:=fun b xs q=>by rw[ZP (Zag q hn)];exact q
 frzs:=fun b u xs q=>by rw[ZP (Zag q hn)];exact q
 tbls:=fun b ps q=>⟨#[],by rw[ZP (Zag q hn),q];simp⟩
theorem Un.write (mu:Mut (H x)) (he:e=x\/H e=some (.own x)) (k: ∀ b u,b≠e->h.get? b=some u->h'.get? b=some u) (heo: ∃ u,h'.get? e=some u):Un fs ex H (upd H x o) h h':=by
 have hx: ∀ b,H b=none->b≠x:=fun b n z=>by subst z;rw[n] at mu;exact mu
 have hb: ∀ b,H b=none->b≠e:=fun b n z=>by
  subst z
  rcases he with r | r
  ·exact hx b n r
  ·rw[n] at r;cases r
 have hm: ∀ b u,H b=some u-> ¬ Mut (some u)->b≠x:=fun b u q nm z=>by subst z;rw[q] at mu;exact nm mu
 refine ⟨fun b u q n _ _=>k b u (hb b n) q,fun b u q n _ _=>⟨u.slots,k b u (hb b n) q⟩,fun b u q n _=>by rw[ZP (hx b n)];exact n,fun b u q _=> ?_,
  fun b xs q=>by rw[ZP (hm b _ q fun z=>z)];exact q,fun b u xs q=>by rw[ZP (hm b _ q fun z=>z)];exact q,fun b ps q=>⟨#[],by rw[ZP (hm b _ q fun z=>z),q];simp⟩⟩
 by_cases hbe:b=e
 ·subst hbe;exact heo
 ·exact ⟨u,k b u hbe q⟩
end
noncomputable def trk (h:Heap) (H:Hp):List Addr:=(List.range h.objs.size).filter fun a=>(H a).isSome
noncomputable def Zjs (h:Heap) (H:Hp):Heap:=PySem.W.hideAll h (trk h H)
theorem Zhx (h:Heap) (H:Hp):(Zjs h H).objs.size=h.objs.size:=PySem.W.hideAll_size _ _
theorem Zgd {h:Heap} {H:Hp} {b:Addr} {o:Obj} (e:h.get? b=some o) (n:H b=none):(Zjs h H).get? b=some o:=
 PySem.W.hideAll_get _ e fun hm=>by
  have q:(H b).isSome=true:=(List.mem_filter.mp hm).2
  rw[n] at q;simp at q
theorem Zhy {h:Heap} {H:Hp} {b:Addr} {o:Obj} (e:(Zjs h H).get? b=some o):h.get? b=some o/\H b=none:=by
 have e':h.get? b=some o:=PySem.W.of_hideAll (trk h H) e
 refine ⟨e',?_⟩
 cases q:H b with
 |none=>rfl
 |some x=>
  have hm:b∈trk h H:=List.mem_filter.mpr ⟨List.mem_range.mpr (Heap.lt_size e'),by simp[q]⟩
  have z:(Zjs h H).get? b=none:=PySem.W.hideAll_none (trk h H) hm
  rw[z] at e;cases e
noncomputable def Zly (g h:Heap) (L:Addr):List (Addr × Obj):=(List.range h.objs.size).filterMap fun a=>if a=L\/(g.get? a).isSome=true then none else (h.get? a).map fun o=>(a,o)
noncomputable def rest (g h:Heap) (L d:Addr):List (Addr × Obj):=(Zly g h L).filter fun p=>decide (p.1≠d)
end L2
namespace L2
open PySem PySem.Spec PyProof.Rows
structure Mod (K:PySem.W.Frag) (mg:Str->Option Value) (base:Heap):Prop where
 kin:K.In base
 glob:base.Ns mainGlobals mg
 blt: ∃ mb,base.Ns builtinsNs mb/\ ∀ x:Str,x≠"__name__"->mb x=bootBuiltins x
 nolimit:base.NoLimit
structure Cx where
 prog:Program
 w:World
 K:PySem.W.Frag
 mg:Str->Option Value
 base:Heap
 A:Around
 N:List Str
 s₀:Shared
 H₀:Hp
 env:Env
 outer:List Env
 stack:List Env
 ex:List Addr
 fn:Str->Bool
 calm:Bool
 pn:List (Addr × Obj)
 xe:Value->Shared->Prop
noncomputable def frs (l:List Env):List Addr:=l.filterMap (·.frame)
noncomputable abbrev Cx.fs (X:Cx):List Addr:=frs X.outer
noncomputable def Vis (sc:Scope) (x:Str):Prop:=sc.names.lookup x=some .local\/sc.names.lookup x=some .cell\/sc.names.lookup x=some .free
noncomputable def Loc (sc:Scope) (x:Str):Prop:=sc.names.lookup x=some .local\/sc.names.lookup x=some .cell
noncomputable def Zul (env:Env) (h:Heap) (m:Str->Option Value) (x:Str) (u:Value):Prop:=
 (env.kindOf x=some .local/\m x=some u)\/((env.kindOf x=some .cell\/env.kindOf x=some .free)/\ ∃ c,env.cells.lookup x=some c/\h.IsCell c (some u))
structure Cx.Ok (X:Cx):Prop where
 mod:Mod X.K X.mg X.base
 kind:X.env.scope.kind= .function
 glob:X.env.globals=mainGlobals
 blt:X.env.builtins=builtinsNs
 above:X.s₀.heap.objs.size<=X.env.locals
 inj: ∀ x y c,X.env.cells.lookup x=some c->X.env.cells.lookup y=some c->x=y
 has: ∀ x,(X.env.kindOf x=some .cell\/X.env.kindOf x=some .free)-> ∃ c,X.env.cells.lookup x=some c
 cab: ∀ x c,X.fn x=true->X.env.cells.lookup x=some c->X.s₀.heap.objs.size<=c
 hd:X.calm=true->X.A.handled=none
 frames:X.A.frames=some X.stack
 stk:X.stack=X.outer\/(X.stack=X.env :: X.outer/\X.env.frame=some X.env.locals)
 exf: ∀ b∈X.ex,b≠X.env.locals/\ ∀ x c,X.env.cells.lookup x=some c->c≠b
 bs: ∀ b o,X.base.get? b=some o->X.s₀.heap.get? b=some o/\X.H₀ b=none
 bsz:X.base.objs.size<=X.s₀.heap.objs.size
 noex: ∀ b o,X.base.get? b=some o->b ∉ X.ex
 exfs: ∀ b∈X.ex,b ∉ X.fs
 funs:X.s₀.heap.FunFrames X.base X.outer
 frf: ∀ b∈X.fs,X.H₀ b=none
noncomputable def Qd (A:Around) (H:Hp):Prop:=A.handled=none\/ ∃ ea oe u vs,A.handled=some (.ref ea)/\H ea=some (.frz oe u)/\oe.data= .fields vs/\vs[2]?=some .none
theorem Qd.mono {A:Around} {H H':Hp} (q:Qd A H) (k: ∀ b o u,H b=some (.frz o u)->H' b=some (.frz o u)):Qd A H':=by
 rcases q with q | ⟨ea,oe,u,vs,e1,e2,e3,e4⟩
 ·exact .inl q
 ·exact .inr ⟨ea,oe,u,vs,e1,k _ _ _ e2,e3,e4⟩
structure Inv (X:Cx) (pins:List (Addr × Obj)) (σ:List (Option V)) (H:Hp) (s:Shared):Prop where
 ok:X.Ok
 os:s.os=X.s₀.os
 bare:AllBare s.gens
 base:Un X.fs X.ex X.H₀ H X.s₀.heap s.heap
 loc: ∃ m,s.heap.Ns X.env.locals m/\ ∀ (i:Nat) (x:Str) (v:V),X.N[i]?=some x->σ[i]?=some (some v)->Vis X.env.scope x-> ∃ u,ZV v u/\Zul X.env s.heap m x u
 cell: ∀ x c,X.env.cells.lookup x=some c-> ∃ v,s.heap.IsCell c v
 free:H X.env.locals=none
 freeC: ∀ x c,X.env.cells.lookup x=some c->H c=none
 pin: ∀ p∈X.pn ++ pins,s.heap.get? p.1=some p.2/\H p.1=none/\p.1≠X.env.locals/\p.1 ∉ X.fs/\ ∀ v,p.2.data≠ .cell v
 hok:HOk X.prog X.w H s.heap
 len:σ.length=X.N.length
 qd:Qd X.A H
section
variable {X:Cx} {pins:List (Addr × Obj)} {σ:List (Option V)} {H H':Hp} {s:Shared} {h':Heap}
theorem Cx.Ok.nofr (ok:X.Ok) {b:Addr} {o:Obj} (e:X.base.get? b=some o):b ∉ X.fs:=fun hb=>by
 have:=(ok.funs.mem hb).1
 rw[e] at this;cases this
theorem Inv.bs (I:Inv X pins σ H s): ∀ b o,X.base.get? b=some o->s.heap.get? b=some o/\H b=none:=fun b o e=>
 ⟨I.base.keep b o (I.ok.bs b o e).1 (I.ok.bs b o e).2 (I.ok.nofr e) (I.ok.noex b o e),I.base.free b o (I.ok.bs b o e).1 (I.ok.bs b o e).2 (I.ok.noex b o e)⟩
theorem Inv.qh (I:Inv X pins σ H s):DQ.ZbP X.A s.heap:=by
 rcases I.qd with q | ⟨ea,oe,u,vs,e1,e2,e3,e4⟩
 ·exact .inl q
 ·exact .inr ⟨ea,oe,vs,e1,(I.hok _ _ e2).1,e3,e4⟩
theorem Inv.bk (I:Inv X pins σ H s): ∀ b o,X.base.get? b=some o->s.heap.get? b=some o:=fun b o e=>(I.bs b o e).1
theorem Inv.mod (I:Inv X pins σ H s):Mod X.K X.mg X.base:=I.ok.mod
theorem Inv.kIn (I:Inv X pins σ H s):X.K.In s.heap:=I.ok.mod.kin.keeps I.bk
theorem Inv.fr (I:Inv X pins σ H s): ∃ m,Fr X.base X.env.locals s.heap m:=
 let ⟨m,hn,_⟩:=I.loc
 ⟨m,hn,I.bk,Nat.le_trans I.ok.bsz I.ok.above⟩
theorem Inv.lt (I:Inv X pins σ H s):X.env.locals < s.heap.objs.size:=let ⟨_,hn,_⟩:=I.loc;hn.lt
theorem Inv.sz (I:Inv X pins σ H s):X.s₀.heap.objs.size<=s.heap.objs.size:=Nat.le_trans I.ok.above (Nat.le_of_lt I.lt)
theorem Inv.nofs (I:Inv X pins σ H s) {a:Addr} (h:s.heap.objs.size<=a):a ∉ X.fs:=fun hb=>by
 obtain ⟨_,o,ho,_⟩:=I.ok.funs.mem hb
 exact absurd (Nat.lt_of_lt_of_le (Heap.lt_size ho) (Nat.le_trans I.sz h)) (Nat.lt_irrefl _)
theorem Inv.cne (I:Inv X pins σ H s): ∀ x c,X.env.cells.lookup x=some c->c≠X.env.locals:=fun x c e z=>by
 obtain ⟨v,o,ho,hd⟩:=I.cell x c e
 obtain ⟨m,⟨o',es,ep,ho',hd',_⟩,_⟩:=I.loc
 rw[z,ho'] at ho;cases ho;rw[hd'] at hd;cases hd
theorem Inv.funs (I:Inv X pins σ H s):s.heap.FunFrames X.base X.outer:=by
 have all: ∀ (l:List Env),(∀ b∈frs l,b∈X.fs)->X.s₀.heap.FunFrames X.base l->s.heap.FunFrames X.base l:=by
  intro l
  induction l with
  |nil=>intro _ _;trivial
  |cons env r ih=>
   intro hs hl
   obtain ⟨hk,⟨L,o,hf,hn,ho,hd⟩,hr⟩:=hl
   have hL:L∈X.fs:=hs L (by unfold frs;rw[List.filterMap_cons,hf];exact List.mem_cons_self)
   obtain ⟨sl,e⟩:=I.base.slot L o ho (I.ok.frf L hL) hL fun z=>I.ok.exfs L z hL
   exact ⟨hk,⟨L,_,hf,hn,e,hd⟩,ih (fun b hb=>hs b (by unfold frs;rw[List.filterMap_cons,hf];exact List.mem_cons_of_mem _ hb)) hr⟩
 exact all X.outer (fun _ hb=>hb) I.ok.funs
theorem Inv.stack (I:Inv X pins σ H s):s.heap.FunFrames X.base X.stack:=by
 rcases I.ok.stk with e | ⟨e,hf⟩
 ·rw[e];exact I.funs
 ·rw[e]
  obtain ⟨m,hn,_⟩:=I.loc
  refine .cons (by rw[I.ok.kind];decide) hf hn ?_ I.funs
  exact Heap.get?_none_of_le (Nat.le_trans I.ok.bsz I.ok.above)
theorem Inv.stkSub (I:Inv X pins σ H s): ∀ b∈frs X.stack,b∈X.env.locals :: X.fs:=fun b hb=>by
 rcases I.ok.stk with e | ⟨e,hf⟩
 ·rw[e] at hb;exact List.mem_cons_of_mem _ hb
 ·rw[e] at hb
  unfold frs at hb
  rw[List.filterMap_cons,hf] at hb
  exact hb
theorem Inv.stkFree (I:Inv X pins σ H s): ∀ b∈frs X.stack,H b=none:=fun b hb=>by
 rcases List.mem_cons.mp (I.stkSub b hb) with e | hb
 ·rw[e];exact I.free
 ·obtain ⟨_,o,ho,_⟩:=I.ok.funs.mem hb
  exact I.base.free b o ho (I.ok.frf b hb) fun z=>I.ok.exfs b z hb
theorem Inv.step {g':Array GenState} {t':Nat} {d':Drawn} {ch:List Addr} (I:Inv X pins σ H s)
  (hch: ∀ b∈ch,(b∈X.ex\/X.s₀.heap.objs.size<=b)/\b≠X.env.locals/\(∀ x c,X.env.cells.lookup x=some c->c≠b)/\ ∀ p∈X.pn ++ pins,p.1≠b)
  (keep: ∀ b o,b≠X.env.locals->b ∉ X.fs->b ∉ ch->s.heap.get? b=some o->H b=none->h'.get? b=some o)
  (slot: ∀ b o,b≠X.env.locals->b∈X.fs->b ∉ ch->s.heap.get? b=some o->H b=none-> ∃ sl,h'.get? b=some { o with slots:=sl }) (free: ∀ b o,b ∉ ch->s.heap.get? b=some o->H b=none->H' b=none)
  (there: ∀ b o,b ∉ ch->s.heap.get? b=some o-> ∃ o',h'.get? b=some o')
  (tups: ∀ b xs,H b=some (.tup xs)->H' b=some (.tup xs)) (frzs: ∀ b o u,H b=some (.frz o u)->H' b=some (.frz o u)) (tbls: ∀ b ps,H b=some (.tbl ps)-> ∃ more,H' b=some (.tbl (ps ++ more)))
  (ns: ∀ m,s.heap.Ns X.env.locals m->h'.Ns X.env.locals m) (hok:HOk X.prog X.w H' h') (hg:AllBare g'):
  Inv X pins σ H' { s with heap:=h',gens:=g',drawn:=d',toks:=t' }:=by
 have neL: ∀ b o,X.s₀.heap.get? b=some o->b≠X.env.locals:=fun b o e=>Nat.ne_of_lt (Nat.lt_of_lt_of_le (Heap.lt_size e) I.ok.above)
 have neC: ∀ b o,X.s₀.heap.get? b=some o->b ∉ X.ex->b ∉ ch:=fun b o e hx hb=>by
  rcases (hch b hb).1 with z | z
  ·exact hx z
  ·exact absurd (Nat.lt_of_lt_of_le (Heap.lt_size e) z) (Nat.lt_irrefl _)
 have cellK: ∀ x c,X.env.cells.lookup x=some c-> ∀ v,s.heap.IsCell c v->h'.IsCell c v:=fun x c e v ⟨o,ho,hd⟩=>by
  have nch:c ∉ ch:=fun z=>(hch c z).2.2.1 x c e rfl
  by_cases hc:c∈X.fs
  ·obtain ⟨sl,q⟩:=slot c o (I.cne x c e) hc nch ho (I.freeC x c e)
   exact ⟨_,q,hd⟩
  ·exact ⟨o,keep c o (I.cne x c e) hc nch ho (I.freeC x c e),hd⟩
 refine ⟨I.ok,I.os,hg,⟨fun b o e n hb hx=> ?_,fun b o e n hb hx=> ?_,fun b o e n hx=> ?_,fun b o e hx=> ?_,fun b xs e=>tups b xs (I.base.tups b xs e),fun b o xs e=>frzs b o xs (I.base.frzs b o xs e),fun b ps e=> ?_⟩,?_,fun x c e=> ?_,?_,fun x c e=> ?_,fun p hp=> ?_,hok,I.len,I.qd.mono frzs⟩
 ·exact keep b o (neL b o e) hb (neC b o e hx) (I.base.keep b o e n hb hx) (I.base.free b o e n hx)
 ·obtain ⟨sl,e1⟩:=I.base.slot b o e n hb hx
  obtain ⟨sl',e2⟩:=slot b _ (neL b o e) hb (neC b o e hx) e1 (I.base.free b o e n hx)
  exact ⟨sl',e2⟩
 ·obtain ⟨o',e1⟩:=I.base.there b o e hx
  exact free b o' (neC b o e hx) e1 (I.base.free b o e n hx)
 ·obtain ⟨o',e1⟩:=I.base.there b o e hx
  exact there b o' (neC b o e hx) e1
 ·obtain ⟨m1,e1⟩:=I.base.tbls b ps e
  obtain ⟨m2,e2⟩:=tbls b _ e1
  exact ⟨m1 ++ m2,by rw[e2,Array.append_assoc]⟩
 ·obtain ⟨m,hn,hl⟩:=I.loc
  refine ⟨m,ns m hn,fun i x v e1 e2 e3=> ?_⟩
  obtain ⟨u,r,l⟩:=hl i x v e1 e2 e3
  refine ⟨u,r,?_⟩
  rcases l with l | ⟨k,c,e,z⟩
  ·exact .inl l
  ·exact .inr ⟨k,c,e,cellK x c e _ z⟩
 ·obtain ⟨v,z⟩:=I.cell x c e
  exact ⟨v,cellK x c e v z⟩
 ·obtain ⟨m,⟨o,_,_,ho,_⟩,_⟩:=I.loc
  exact free _ o (fun z=>(hch _ z).2.1 rfl) ho I.free
 ·obtain ⟨v,o,ho,hd⟩:=I.cell x c e
  exact free c o (fun z=>(hch c z).2.2.1 x c e rfl) ho (I.freeC x c e)
 ·obtain ⟨e,n,ne,nf,d⟩:=I.pin p hp
  have nch:p.1 ∉ ch:=fun z=>(hch p.1 z).2.2.2 p hp rfl
  exact ⟨keep p.1 p.2 ne nf nch e n,free p.1 p.2 nch e n,ne,nf,d⟩
theorem Inv.un {t':Nat} (I:Inv X pins σ H s) (u:Un X.fs [] H H' s.heap h') (hok:HOk X.prog X.w H' h'):Inv X pins σ H' { s with heap:=h',toks:=t' }:=by
 obtain ⟨m,⟨o,es,ep,ho,r⟩,_⟩:=id I.loc
 obtain ⟨sl,hL⟩:=u.any ho I.free (by simp)
 exact I.step (g':=s.gens) (d':=s.drawn) (ch:=[]) (fun _ z=>nomatch z) (fun b o _ hb _ e n=>u.keep b o e n hb (by simp)) (fun b o _ hb _ e n=>u.slot b o e n hb (by simp)) (fun b o _ e n=>u.free b o e n (by simp)) (fun b o _ e=>u.there b o e (by simp)) u.tups u.frzs u.tbls (fun m' hm=>by
  obtain ⟨o',es',ep',ho',r'⟩:=hm
  rw[ho] at ho';cases ho'
  exact ⟨_,es',ep',hL,r'⟩) hok I.bare
theorem Inv.call {g':Array GenState} {t':Nat} {d':Drawn} {ch:List Addr} (I:Inv X pins σ H s) (u:Un (frs X.stack) ch H H' s.heap h') (hok:HOk X.prog X.w H' h') (hg:AllBare g')
  (hch: ∀ b∈ch,(b∈X.ex\/X.s₀.heap.objs.size<=b)/\b≠X.env.locals/\(∀ x c,X.env.cells.lookup x=some c->c≠b)/\ ∀ p∈X.pn ++ pins,p.1≠b):
  Inv X pins σ H' { s with heap:=h',gens:=g',drawn:=d',toks:=t' }:=by
 obtain ⟨m,⟨o,es,ep,ho,r⟩,_⟩:=id I.loc
 obtain ⟨sl,hL⟩:=u.any ho I.free fun z=>(hch _ z).2.1 rfl
 exact I.step (ch:=ch) hch (fun b o hL hb hc e n=>u.keep b o e n (fun z=>(List.mem_cons.mp (I.stkSub b z)).elim hL hb) hc) (fun b o _ _ hc e n=>u.any e n hc) (fun b o hc e n=>u.free b o e n hc) (fun b o hc e=>u.there b o e hc) u.tups u.frzs u.tbls (fun m' hm=>by
  obtain ⟨o',es',ep',ho',r'⟩:=hm
  rw[ho] at ho';cases ho'
  exact ⟨_,es',ep',hL,r'⟩) hok hg
theorem Inv.turned {t':Nat} {it:Addr} (I:Inv X pins σ H s) (k: ∀ b o,b≠it->s.heap.get? b=some o->h'.get? b=some o) (hn:H it=none) (hL:it≠X.env.locals)
  (h1:it∈X.ex\/X.s₀.heap.objs.size<=it) (h2: ∀ x c,X.env.cells.lookup x=some c->c≠it) (h3: ∀ p∈X.pn ++ pins,p.1≠it):Inv X pins σ H { s with heap:=h',toks:=t' }:=by
 have nit: ∀ b u,H b=some u->b≠it:=fun b u e z=>by rw[z,hn] at e;cases e
 refine I.step (g':=s.gens) (d':=s.drawn) (ch:=[it]) (fun b hb=> ?_) (fun b o _ _ hc e _=>k b o (fun z=>hc (by simp[z])) e) (fun b o _ _ hc e _=>⟨o.slots,k b o (fun z=>hc (by simp[z])) e⟩) (fun _ _ _ _ n=>n)
  (fun b o hc e=>⟨o,k b o (fun z=>hc (by simp[z])) e⟩) (fun _ _ e=>e) (fun _ _ _ e=>e) (fun b ps e=>⟨#[],by rw[e];simp⟩) (fun m hm=> ?_) (fun b u e=> ?_) I.bare
 ·have e:b=it:=by simpa using hb
  subst e
  exact ⟨h1,hL,h2,h3⟩
 ·obtain ⟨o,es,ep,ho,r⟩:=hm
  exact ⟨o,es,ep,k _ o (Ne.symm hL) ho,r⟩
 ·refine (I.hok b u e).stay (fun c v hc q=>k c v ?_ q) (fun _ q=>q) fun _ _ q=>q
  rcases hc with z | z
  ·rw[z];exact nit b u e
  ·exact nit c _ z
theorem Inv.tok (I:Inv X pins σ H s) (t:Nat):Inv X pins σ H { s with toks:=t }:=I.un (h':=s.heap) (t':=t) Un.refl I.hok
theorem Inv.kept {t':Nat} (I:Inv X pins σ H s) (k: ∀ b u,s.heap.get? b=some u->h'.get? b=some u):Inv X pins σ H { s with heap:=h',toks:=t' }:=I.un (Un.kept k) (I.hok.kept k)
theorem Inv.laid {a:Addr} {o:HO} {t':Nat} (I:Inv X pins σ H s) (k: ∀ b u,s.heap.get? b=some u->h'.get? b=some u) (hp:s.heap.objs.size<=a) (new:Zba X.prog X.w (upd H a o) h' a o):
  Inv X pins σ (upd H a o) { s with heap:=h',toks:=t' }:=I.un (Un.laid k hp (I.hok.fresh hp)) (I.hok.laid k hp new)
theorem Inv.write {x e:Addr} {o:HO} {t':Nat} (I:Inv X pins σ H s) (mu:Mut (H x)) (he:e=x\/H e=some (.own x)) (k: ∀ b u,b≠e->s.heap.get? b=some u->h'.get? b=some u) (heo: ∃ u,h'.get? e=some u)
  (new:Zba X.prog X.w (upd H x o) h' x o):Inv X pins σ (upd H x o) { s with heap:=h',toks:=t' }:=I.un (Un.write mu he k heo) (I.hok.write mu he k heo new)
theorem Inv.pins_of {pins':List (Addr × Obj)} (I:Inv X pins σ H s) (h: ∀ p∈pins',s.heap.get? p.1=some p.2/\H p.1=none/\p.1≠X.env.locals/\p.1 ∉ X.fs/\ ∀ v,p.2.data≠ .cell v):Inv X pins' σ H s:=
 ⟨I.ok,I.os,I.bare,I.base,I.loc,I.cell,I.free,I.freeC,fun p hp=>(List.mem_append.mp hp).elim (fun z=>I.pin p (List.mem_append_left _ z)) (h p),I.hok,I.len,I.qd⟩
theorem Zge {N:List Str} (hN:N.Nodup) {i j:Nat} {x:Str} (a:N[i]?=some x) (b:N[j]?=some x):i=j:=by
 obtain ⟨h1,e1⟩:=List.getElem?_eq_some_iff.mp a
 obtain ⟨h2,e2⟩:=List.getElem?_eq_some_iff.mp b
 exact (List.getElem_inj hN).mp (e1.trans e2.symm)
theorem ZeD {M:Model} {A:Around} {E:Value->Shared->Prop} {i:Nat} {x:Str} {v:V} {u:Value} {Q:Unit->Shared->Prop} (I:Inv X pins σ H s) (hN:X.N.Nodup) (hi:X.N[i]?=some x) (hx:Loc X.env.scope x) (r:ZV v u)
  (h: ∀ s',Inv X pins (σ.set i (some v)) H s'->(∃ a,Heap.SameBut a s.heap s'.heap/\(a=X.env.locals\/X.env.cells.lookup x=some a))->Q () s') (hf:X.fn x=true\/X.env.scope.names.lookup x=some .local:=by first | exact .inl rfl | exact .inr rfl | assumption):wpAny M A (storeName X.env x u) Q E s:=by
 obtain ⟨m,hn,hl⟩:=id I.loc
 have hcls:(X.env.scope.kind == .class || (X.env.scope.kind == .module && X.env.locals != X.env.globals))=false:=by rw[I.ok.kind];rfl
 have hiσ:i < σ.length:=by rw[I.len];exact (List.getElem?_eq_some_iff.mp hi).1
 have cne:=I.cne
 have tracked: ∀ {a:Addr} {h':Heap},(∃ o,s.heap.get? a=some o/\H a=none)->Heap.SameBut a s.heap h'->HOk X.prog X.w H h':=fun {a h'} ha hs b ob e=>by
  obtain ⟨_,_,hfree⟩:=ha
  refine (I.hok b ob e).stay (fun c w' hc q=>(hs.2 c ?_).trans q) (fun _ q=>q) fun _ _ q=>q
  rintro rfl
  rcases hc with rfl | hc
  ·rw[hfree] at e;cases e
  ·rw[hfree] at hc;cases hc
 rcases hx with hk | hk
 ·refine wpAny_storeName_local hk hn (fun h' hn' hs=> ?_) hcls
  obtain ⟨oL,_,_,hoL,_⟩:=id hn
  refine h _ ⟨I.ok,I.os,I.bare,⟨fun b o e n hb hx=> ?_,fun b o e n hb hx=> ?_,I.base.free,fun b o e hx=> ?_,I.base.tups,I.base.frzs,I.base.tbls⟩,⟨_,hn',fun j y v' e1 e2 e3=> ?_⟩,fun y c e=> ?_,I.free,I.freeC,fun p hp=> ?_,tracked ⟨oL,hoL,I.free⟩ hs,by simpa using I.len,I.qd⟩ ⟨_,hs,.inl rfl⟩
  ·exact (hs.2 b (Nat.ne_of_lt (Nat.lt_of_lt_of_le (Heap.lt_size e) I.ok.above))).trans (I.base.keep b o e n hb hx)
  ·obtain ⟨sl,e1⟩:=I.base.slot b o e n hb hx
   exact ⟨sl,(hs.2 b (Nat.ne_of_lt (Nat.lt_of_lt_of_le (Heap.lt_size e) I.ok.above))).trans e1⟩
  ·obtain ⟨o',e1⟩:=I.base.there b o e hx
   exact ⟨o',(hs.2 b (Nat.ne_of_lt (Nat.lt_of_lt_of_le (Heap.lt_size e) I.ok.above))).trans e1⟩
  ·by_cases hj:j=i
   ·subst hj
    rw[hi] at e1;cases e1
    rw[List.getElem?_set_self hiσ] at e2
    cases e2
    exact ⟨u,r,.inl ⟨hk,by simp⟩⟩
   ·rw[List.getElem?_set_ne (Ne.symm hj)] at e2
    obtain ⟨u',r',q⟩:=hl j y v' e1 e2 e3
    refine ⟨u',r',?_⟩
    rcases q with ⟨k,e⟩ | ⟨k,c,e,z⟩
    ·refine .inl ⟨k,?_⟩
     have:y≠x:=fun e=>hj (Zge hN e1 (e ▸ hi))
     simp[this,e]
    ·exact .inr ⟨k,c,e,z.sameBut hs (cne y c e)⟩
  ·obtain ⟨w',z⟩:=I.cell y c e
   exact ⟨w',z.sameBut hs (cne y c e)⟩
  ·obtain ⟨e,n,ne,nf,d⟩:=I.pin p hp
   exact ⟨(hs.2 p.1 ne).trans e,n,ne,nf,d⟩
 ·have hfn:X.fn x=true:=by
   rcases hf with z | z
   ·exact z
   ·rw[z] at hk;cases hk
  obtain ⟨c,hc⟩:=I.ok.has x (.inl hk)
  obtain ⟨w',z⟩:=I.cell x c hc
  refine wpAny_storeName_cell I.ok.kind hk hc z (fun h' hc' hs=> ?_)
  obtain ⟨oc,hoc,hocd⟩:=id z
  refine h { s with heap:=h' } ⟨I.ok,I.os,I.bare,⟨fun b o e n hb hx=> ?_,fun b o e n hb hx=> ?_,I.base.free,fun b o e hx=> ?_,I.base.tups,I.base.frzs,I.base.tbls⟩,⟨m,hn.sameBut hs (Ne.symm (cne x c hc)),fun j y v' e1 e2 e3=> ?_⟩,fun y c' e=> ?_,I.free,I.freeC,fun p hp=> ?_,tracked ⟨oc,hoc,I.freeC x c hc⟩ hs,by simpa using I.len,I.qd⟩ ⟨c,hs,.inr hc⟩
  ·exact (hs.2 b (Nat.ne_of_lt (Nat.lt_of_lt_of_le (Heap.lt_size e) (I.ok.cab x c hfn hc)))).trans (I.base.keep b o e n hb hx)
  ·obtain ⟨sl,e1⟩:=I.base.slot b o e n hb hx
   exact ⟨sl,(hs.2 b (Nat.ne_of_lt (Nat.lt_of_lt_of_le (Heap.lt_size e) (I.ok.cab x c hfn hc)))).trans e1⟩
  ·obtain ⟨o',e1⟩:=I.base.there b o e hx
   exact ⟨o',(hs.2 b (Nat.ne_of_lt (Nat.lt_of_lt_of_le (Heap.lt_size e) (I.ok.cab x c hfn hc)))).trans e1⟩
  ·by_cases hj:j=i
   ·subst hj
    rw[hi] at e1;cases e1
    rw[List.getElem?_set_self hiσ] at e2
    cases e2
    exact ⟨u,r,.inr ⟨.inl hk,c,hc,hc'⟩⟩
   ·rw[List.getElem?_set_ne (Ne.symm hj)] at e2
    obtain ⟨u',r',q⟩:=hl j y v' e1 e2 e3
    refine ⟨u',r',?_⟩
    rcases q with q | ⟨k,c',e,z'⟩
    ·exact .inl q
    ·refine .inr ⟨k,c',e,z'.sameBut hs ?_⟩
     rintro rfl
     exact hj (Zge hN e1 (I.ok.inj _ _ _ e hc ▸ hi))
  ·by_cases hcc:c'=c
   ·subst hcc;exact ⟨_,hc'⟩
   ·obtain ⟨w2,z2⟩:=I.cell y c' e
    exact ⟨w2,z2.sameBut hs hcc⟩
  ·obtain ⟨e,n,ne,nf,d⟩:=I.pin p hp
   refine ⟨(hs.2 p.1 ?_).trans e,n,ne,nf,d⟩
   intro q
   rw[q,hoc] at e
   have q':oc=p.2:=Option.some.inj e
   exact d w' (by rw[<- q'];exact hocd)
theorem ZcK {M:Model} {A:Around} {E:Value->Shared->Prop} {i:Nat} {x:Str} {v:V} {u:Value} {Q:Unit->Shared->Prop} (I:Inv X pins σ H s) (hN:X.N.Nodup) (hi:X.N[i]?=some x) (hx:Loc X.env.scope x) (r:ZV v u)
  (h: ∀ s',Inv X pins (σ.set i (some v)) H s'->Q () s') (hf:X.fn x=true\/X.env.scope.names.lookup x=some .local:=by first | exact .inl rfl | exact .inr rfl | assumption):wpAny M A (storeName X.env x u) Q E s:=
 ZeD I hN hi hx r (fun s' I' _=>h s' I') hf
theorem Inv.call' {s':Shared} {ch:List Addr} (I:Inv X pins σ H s) (ho:s'.os=s.os) (u:Un (frs X.stack) ch H H' s.heap s'.heap) (hok:HOk X.prog X.w H' s'.heap) (hg:AllBare s'.gens)
  (hch: ∀ b∈ch,(b∈X.ex\/X.s₀.heap.objs.size<=b)/\b≠X.env.locals/\(∀ x c,X.env.cells.lookup x=some c->c≠b)/\ ∀ p∈X.pn ++ pins,p.1≠b):Inv X pins σ H' s':=by
 obtain ⟨h',g',d',t',o'⟩:=s'
 have e:o'=s.os:=ho
 subst e
 exact I.call (g':=g') (t':=t') (d':=d') u hok hg hch
end
noncomputable abbrev XK:=Value->Option Addr->Hp->Prop
noncomputable abbrev St:=List (Option V)
noncomputable abbrev VK:=V->Hp->Prop
noncomputable abbrev TE:=St->Hp->VK->Prop
noncomputable abbrev TT:=St->Hp->(Bool->Hp->Prop)->Prop
noncomputable abbrev TA:=St->Hp->(List V->Hp->Prop)->Prop
structure Ends where
 nx:St->Hp->Prop
 rt:VK
 bk:St->Hp->Prop:=fun _ _=>False
 ct:St->Hp->Prop:=fun _ _=>False
noncomputable abbrev TS:=Ends->St->Hp->Prop
noncomputable def EP (X:Cx) (pins:List (Addr × Obj)) (σ:St) (Q:VK) (u:Value) (s':Shared):Prop:= ∃ v H',Inv X pins σ H' s'/\ZV v u/\Q v H'
noncomputable def TP (X:Cx) (pins:List (Addr × Obj)) (σ:St) (Q:Bool->Hp->Prop) (b:Bool) (s':Shared):Prop:= ∃ H',Inv X pins σ H' s'/\Q b H'
noncomputable def AP (X:Cx) (pins:List (Addr × Obj)) (σ:St) (Q:List V->Hp->Prop) (us:List Value) (s':Shared):Prop:= ∃ vs H',Inv X pins σ H' s'/\ZX vs us/\Q vs H'
noncomputable def SP (X:Cx) (pins:List (Addr × Obj)) (D:Ends) (f:Flow) (s':Shared):Prop:=
 match f with
 | .next=> ∃ σ' H',Inv X pins σ' H' s'/\D.nx σ' H'
 | .brk=> ∃ σ' H',Inv X pins σ' H' s'/\D.bk σ' H'
 | .cont=> ∃ σ' H',Inv X pins σ' H' s'/\D.ct σ' H'
 | .ret u=> ∃ v σ' H',Inv X pins σ' H' s'/\ZV v u/\D.rt v H'
noncomputable def PE (X:Cx) (e:Expr) (t:TE):Prop:=
 ∀ (pins:List (Addr × Obj)) (s:Shared) (σ:St) (H:Hp) (Q:VK),Inv X pins σ H s->t σ H Q->wpAny (model X.prog X.w) X.A (eval e X.env) (EP X pins σ Q) X.xe s
noncomputable def PT (X:Cx) (e:Expr) (t:TT):Prop:=
 ∀ (pins:List (Addr × Obj)) (s:Shared) (σ:St) (H:Hp) (Q:Bool->Hp->Prop),Inv X pins σ H s->t σ H Q->wpAny (model X.prog X.w) X.A (isTrue e X.env (eval e X.env)) (TP X pins σ Q) X.xe s
noncomputable def PW (X:Cx) (e:Expr) (t:TT):Prop:=
 ∀ (whole:Sem Value) (pins:List (Addr × Obj)) (s:Shared) (σ:St) (H:Hp) (Q:Bool->Hp->Prop),Inv X pins σ H s->t σ H Q->wpAny (model X.prog X.w) X.A (isTrue e X.env whole) (TP X pins σ Q) X.xe s
theorem PW.pt {X:Cx} {e:Expr} {t:TT} (h:PW X e t):PT X e t:=h _
noncomputable def PA (X:Cx) (es:List Expr) (t:TA):Prop:=
 ∀ (pos:Pos) (pins:List (Addr × Obj)) (s:Shared) (σ:St) (H:Hp) (Q:List V->Hp->Prop),Inv X pins σ H s->t σ H Q->wpAny (model X.prog X.w) X.A (spliced (backTo pos (starEach es X.env))) (AP X pins σ Q) X.xe s
noncomputable def PS (X:Cx) (st:Stmt) (t:TS):Prop:=
 ∀ (pins:List (Addr × Obj)) (s:Shared) (σ:St) (H:Hp) (D:Ends),Inv X pins σ H s->t D σ H->wpAny (model X.prog X.w) X.A (exec st X.env) (SP X pins D) X.xe s
noncomputable def PSs (X:Cx) (st:List Stmt) (t:TS):Prop:=
 ∀ (pins:List (Addr × Obj)) (s:Shared) (σ:St) (H:Hp) (D:Ends),Inv X pins σ H s->t D σ H->wpAny (model X.prog X.w) X.A (execs st X.env) (SP X pins D) X.xe s
theorem thn {α:Type} {t:Sem α} {Q Q':α->Shared->Prop} {M:Model} {A:Around} {E:Value->Shared->Prop} {s:Shared} (h:wpAny M A t Q E s) (hQ: ∀ a s,Q a s->Q' a s):wpAny M A t Q' E s:=wpAny_mono h hQ fun _ _ x=>x
end L2
namespace L2
open PySem PySem.Spec PyProof.Rows
section
variable {X:Cx}
theorem bin {a b:Expr} {ta tb:TE} (ha:PE X a ta) (hb:PE X b tb) {pins:List (Addr × Obj)} {s:Shared} {σ:St} {H:Hp} {R:V->V->Hp->Prop} (I:Inv X pins σ H s) (h:ta σ H fun x H1=>tb σ H1 fun y H2=>R x y H2)
  {α:Type} {Q:α->Shared->Prop} {f:Value->Value->Sem α}
  (hf: ∀ v u s2 x y H2,Inv X pins σ H2 s2->ZV x v->ZV y u->R x y H2->wpAny (model X.prog X.w) X.A (f v u) Q X.xe s2):
  wpAny (model X.prog X.w) X.A (eval a X.env) (fun v s₁=>wpAny (model X.prog X.w) X.A (eval b X.env) (fun u s₂=>wpAny (model X.prog X.w) X.A (f v u) Q X.xe s₂) X.xe s₁) X.xe s:=by
 refine thn (ha pins s σ H _ I h) fun v s1 ⟨x,H1,I1,r1,q1⟩=> ?_
 refine thn (hb pins s1 σ H1 _ I1 q1) fun u s2 ⟨y,H2,I2,r2,q2⟩=> ?_
 exact hf v u s2 x y H2 I2 r1 r2 q2
noncomputable def Zth (i:Nat):TE:=fun σ H Q=> ∃ v,σ[i]?=some (some v)/\Q v H
noncomputable def tC (v:V):TE:=fun _ H Q=>Q v H
theorem ZkI {i:Nat} {x:Str} {pos:Pos} (hN:X.N[i]?=some x) (hv:Vis X.env.scope x) (hd:(x == ("__debug__":Str))=false:=by decide) (hcd:(x == ("__classdict__":Str))=false:=by decide):PE X (.Name x pos) (Zth i):=by
 intro pins s σ H Q I h
 obtain ⟨v,e,h⟩:=h
 obtain ⟨m,hn,hl⟩:=I.loc
 obtain ⟨u,r,l⟩:=hl i x v hN e hv
 have fin:EP X pins σ Q u s:=⟨v,H,I,r,h⟩
 rcases l with ⟨hk,hm⟩ | ⟨hk,c,hc,hcell⟩
 ·exact wpAny_Name (wpAny_loadName_local I.ok.kind hk hn hm fin) hd
 ·rcases hk with hk | hk
  ·exact wpAny_Name (wpAny_loadName_cell I.ok.kind hk hc hcell fin) hd
  ·exact wpAny_Name (wpAny_loadName_free I.ok.kind hk hc hcell fin hcd) hd
theorem Zhz {i j pos}:PE X (.Constant (.int i) j pos) (tC (.int i)):=fun _ _ _ H _ I h=>wpAny_Constant_int ⟨.int i,H,I.tok _,⟨_,rfl⟩,h⟩
theorem Zq0 {b j pos}:PE X (.Constant (.bool b) j pos) (tC (.bl b)):=fun _ _ _ H _ I h=>Constant_bool ⟨.bl b,H,I,rfl,h⟩
theorem ZnD {j pos}:PE X (.Constant .none j pos) (tC .non):=fun _ _ _ H _ I h=>Constant_none ⟨.non,H,I,rfl,h⟩
theorem ZnE {x j pos}:PE X (.Constant (.str x) j pos) (tC (.str x)):=fun _ _ _ H _ I h=>Calls.Constant_str ⟨.str x,H,I.tok _,⟨_,rfl⟩,h⟩
noncomputable def Gl (X:Cx) (x:Str):Prop:=X.env.kindOf x=some .globalImplicit
theorem ZhA {E:Value->Shared->Prop} {pins:List (Addr × Obj)} {s:Shared} {σ:St} {H:Hp} {x:Str} {u:Value} {pos:Pos} {Q:Value->Shared->Prop} (I:Inv X pins σ H s) (hg:Gl X x) (hm:X.mg x=some u) (h:Q u s)
  (hd:(x == ("__debug__":Str))=false:=by decide):wpAny (model X.prog X.w) X.A (eval (.Name x pos) X.env) Q E s:=
 Calls.Name_function_global I.ok.kind hg (Calls.loadGlobal_global (by rw[I.ok.glob];exact I.mod.glob.keeps I.bk) hm h) hd
theorem Zb5 {E:Value->Shared->Prop} {pins:List (Addr × Obj)} {s:Shared} {σ:St} {H:Hp} {x:Str} {u:Value} {pos:Pos} {Q:Value->Shared->Prop} (I:Inv X pins σ H s) (hg:Gl X x) (hm:X.mg x=none) (hv:bootBuiltins x=some u) (h:Q u s)
  (hn:x≠"__name__":=by decide) (hd:(x == ("__debug__":Str))=false:=by decide):wpAny (model X.prog X.w) X.A (eval (.Name x pos) X.env) Q E s:=by
 obtain ⟨mb,h1,h2⟩:=I.mod.blt
 exact Calls.Name_function_global I.ok.kind hg (Calls.loadGlobal_builtin (by rw[I.ok.glob];exact I.mod.glob.keeps I.bk) hm (by rw[I.ok.blt];exact h1.keeps I.bk) ((h2 x hn).trans hv) h) hd
theorem Zlz {x:Str} {v:V} {u:Value} {pos:Pos} (hg:Gl X x) (hm:X.mg x=none) (hv:bootBuiltins x=some u) (r:ZV v u) (hn:x≠"__name__":=by decide) (hd:(x == ("__debug__":Str))=false:=by decide):PE X (.Name x pos) (tC v):=
 fun _ _ _ H _ I h=>Zb5 I hg hm hv ⟨v,H,I,r,h⟩ hn hd
variable {a b:Expr} {ta tb:TE} {pos:Pos}
noncomputable def PC (X:Cx) (op:CmpOp) (a b:Expr) (t:TE):Prop:=
 ∀ (pins:List (Addr × Obj)) (s:Shared) (σ:St) (H:Hp) (Q:VK),Inv X pins σ H s->t σ H Q->
  wpAny (model X.prog X.w) X.A (eval a X.env) (fun v s₁=>wpAny (model X.prog X.w) X.A (eval b X.env) (fun u s₂=>wpAny (model X.prog X.w) X.A (compareOp op v u) (EP X pins σ Q) X.xe s₂) X.xe s₁) X.xe s
theorem Zjz (b:Expr) {op:CmpOp} (h:op≠ .In) (h2:op≠ .NotIn):behindInMarks op b=false:=by
 have e1:(op == CmpOp.In)=false:=by cases op<;>first | rfl | exact absurd rfl h
 have e2:(op == CmpOp.NotIn)=false:=by cases op<;>first | rfl | exact absurd rfl h2
 cases b<;>simp[behindInMarks,e1,e2]
noncomputable def tB (t:TE):TT:=fun σ H Q=>t σ H fun x H1=> ∃ c,x= .bl c/\Q c H1
theorem Zti {op:CmpOp} {t:TE} (h:PC X op a b t) (h1:behindInMarks op b=false:=by first | exact Zjz _ (by decide) (by decide) | rfl):PT X (.Compare a [op] [b] pos) (tB t):=by
 intro pins s σ H Q I hw
 refine wpAny_isTrue_Compare1 (thn (h pins s σ H _ I hw) fun v s1 h1=>thn h1 fun u s2 h2=>thn h2 fun c s3 ⟨x,H1,I1,r1,q1⟩=> ?_) h1
 obtain ⟨d,rfl,q⟩:=q1
 cases r1
 exact wpAny_truthy_bool ⟨H1,I1,q⟩
theorem ZnF {e:Expr} {t:TE} (h:PE X e t) (he: ∀ whole,isTrue e X.env whole=(do let v <- whole;standAt e.pos;holding [v] (truthy v)):=by intro _;rfl):PT X e (tB t):=by
 intro pins s σ H Q I hw
 refine isTrue_plain (thn (h pins s σ H _ I hw) fun v s1 ⟨x,H1,I1,r1,q1⟩=> ?_) (he _)
 obtain ⟨d,rfl,q⟩:=q1
 cases r1
 exact wpAny_truthy_bool ⟨H1,I1,q⟩
variable {tA tB':TT} {rest:List Expr}
noncomputable def Zum (t u:TT):TT:=fun σ H Q=>t σ H fun c H1=>if c=true then u σ H1 Q else Q false H1
noncomputable def tOr (t u:TT):TT:=fun σ H Q=>t σ H fun c H1=>if c=true then Q true H1 else u σ H1 Q
noncomputable def Zun (t:TT):TT:=fun σ H Q=>t σ H fun c H1=>Q (!c) H1
theorem pw_and1 (ha:PT X a tA):PW X (.BoolOp .And [a] pos) tA:=by
 intro wh pins s σ H Q I h
 refine isTrue_and (thn (ha pins s σ H Q I h) fun c s1 e=> ?_)
 cases c with
 |true=>exact isTrue_and_nil e
 |false=>exact e
theorem pw_or1 (ha:PT X a tA):PW X (.BoolOp .Or [a] pos) tA:=by
 intro wh pins s σ H Q I h
 refine isTrue_or (thn (ha pins s σ H Q I h) fun c s1 e=> ?_)
 cases c with
 |false=>exact isTrue_or_nil e
 |true=>exact e
theorem pw_and (ha:PT X a tA) (hb:PW X (.BoolOp .And (b :: rest) pos) tB'):PW X (.BoolOp .And (a :: b :: rest) pos) (Zum tA tB'):=by
 intro wh pins s σ H Q I h
 refine isTrue_and (thn (ha pins s σ H _ I h) fun c s1 ⟨H1,I1,q1⟩=> ?_)
 cases c with
 |true=>exact hb wh pins s1 σ H1 Q I1 q1
 |false=>exact ⟨H1,I1,q1⟩
theorem pw_or (ha:PT X a tA) (hb:PW X (.BoolOp .Or (b :: rest) pos) tB'):PW X (.BoolOp .Or (a :: b :: rest) pos) (tOr tA tB'):=by
 intro wh pins s σ H Q I h
 refine isTrue_or (thn (ha pins s σ H _ I h) fun c s1 ⟨H1,I1,q1⟩=> ?_)
 cases c with
 |true=>exact ⟨H1,I1,q1⟩
 |false=>exact hb wh pins s1 σ H1 Q I1 q1
theorem ZnG (ha:PT X a tA):PT X (.UnaryOp .Not a pos) (Zun tA):=by
 intro pins s σ H Q I h
 exact isTrue_not (ha pins s σ H (fun c H1=>Q (!c) H1) I h)
noncomputable def Zq1 (ta tb:TE):TE:=fun σ H Q=>ta σ H fun x H1=> ∃ c,x= .bl c/\if c=true then tb σ H1 Q else Q (.bl false) H1
noncomputable def Zq2 (ta:TE):TE:=fun σ H Q=>ta σ H fun x H1=> ∃ c,x= .bl c/\Q (.bl (!c)) H1
theorem ZnH {op} {t:TE} (h:PE X a t):PE X (.BoolOp op [a] pos) t:=fun pins s σ H Q I hw=>BoolOp_one (h pins s σ H Q I hw)
theorem ZnI (ha:PE X a ta) (hb:PE X (.BoolOp .And (b :: rest) pos) tb):PE X (.BoolOp .And (a :: b :: rest) pos) (Zq1 ta tb):=by
 intro pins s σ H Q I h
 refine BoolOp_and (thn (ha pins s σ H _ I h) fun v s1 ⟨x,H1,I1,r1,q1⟩=> ?_)
 obtain ⟨c,rfl,q1⟩:=q1
 cases r1
 refine wpAny_truthy_bool ?_
 cases c with
 |true=>exact hb pins s1 σ H1 Q I1 q1
 |false=>exact ⟨.bl false,H1,I1,rfl,q1⟩
theorem ZnJ (ha:PE X a ta):PE X (.UnaryOp .Not a pos) (Zq2 ta):=by
 intro pins s σ H Q I h
 refine UnaryOp_ (thn (ha pins s σ H _ I h) fun v s1 ⟨x,H1,I1,r1,q1⟩=> ?_)
 obtain ⟨c,rfl,q1⟩:=q1
 cases r1
 exact not_of (wpAny_truthy_bool ⟨.bl (!c),H1,I1,rfl,q1⟩)
noncomputable def tIf (t:TT) (ta tb:TE):TE:=fun σ H Q=>t σ H fun c H1=>if c=true then ta σ H1 Q else tb σ H1 Q
theorem ZjA {c:Expr} (hc:PT X c tA) (ha:PE X a ta) (hb:PE X b tb):PE X (.IfExp c a b pos) (tIf tA ta tb):=by
 intro pins s σ H Q I h
 refine wpAny_IfExp (thn (hc pins s σ H _ I h) fun d s1 ⟨H1,I1,q1⟩=> ?_)
 cases d with
 |true=>exact ha pins s1 σ H1 Q I1 q1
 |false=>exact hb pins s1 σ H1 Q I1 q1
end
end L2
namespace L2
open PySem PySem.Spec PyProof.Rows
noncomputable def SqL (K:PySem.W.Frag) (H:Hp) (a:Addr) (xs:List V):Prop:=
 Rd H a (.lst xs)\/
  ∃ (o:Obj) (its:Array Value) (n:Nat),K.lookup a=some o/\o.cls= .type "list"/\o.dict=none/\o.data= .seq its n/\its.size<=sizeLine/\ZX xs its.toList
noncomputable def SqT (K:PySem.W.Frag) (H:Hp) (a:Addr) (xs:List V):Prop:=
 Rd H a (.tup xs)\/
  ∃ (o:Obj) (its:Array Value) (n:Nat),K.lookup a=some o/\o.cls= .type "tuple"/\o.data= .seq its n/\its.size<=sizeLine/\ZX xs its.toList
noncomputable def Zuo:Value->Option V
 | .none=>some .non
 | .bool b=>some (.bl b)
 | .int i _=>some (.int i)
 | .str x _=>some (.str x)
 | .bytes b _=>some (.byt b)
 | .float b _=>some (.flt b)
 | .ref a=>some (.ref a)
 | .type n=>some (.ty n)
 |_=>none
theorem ZV.abs {x:V} {u:Value} (r:ZV x u):Zuo u=some x:=by
 cases x with
 |non=>cases r;rfl
 |bl _=>cases r;rfl
 |int _=>obtain ⟨t,rfl⟩:=r;rfl
 |str _=>obtain ⟨t,rfl⟩:=r;rfl
 |byt _=>obtain ⟨t,rfl⟩:=r;rfl
 |flt _=>obtain ⟨t,rfl⟩:=r;rfl
 |ref _=>cases r;rfl
 |ty _=>cases r;rfl
theorem ZV.inj {x y:V} {u:Value} (r:ZV x u) (q:ZV y u):x=y:=Option.some.inj (r.abs.symm.trans q.abs)
theorem ZX.inj: ∀ {xs ys:List V} {us:List Value},ZX xs us->ZX ys us->xs=ys
 |_,_,_,.nil,.nil=>rfl
 |_,_,_,.cons r t,.cons r' t'=>by rw[r.inj r',ZX.inj t t']
section
variable {X:Cx} {pins:List (Addr × Obj)} {σ:St} {H:Hp} {s:Shared} {a:Addr} {xs ys:List V}
theorem SqL.of {K:PySem.W.Frag} (h:H a=some (.lst xs)):SqL K H a xs:= .inl (.inl h)
theorem SqT.of {K:PySem.W.Frag} (h:H a=some (.tup xs)):SqT K H a xs:= .inl (.inl h)
theorem Inv.list (I:Inv X pins σ H s) (h:SqL X.K H a xs): ∃ its:List Value,ZX xs its/\PlainL s.heap a its.toArray/\xs.length<=sizeLine:=by
 rcases h with h | ⟨o,its,n,hk,hc,hd,hs,hz,r⟩
 ·obtain ⟨z,its,n,r,e⟩:=h.ok I.hok
  exact ⟨its,r,⟨_,n,e,rfl,rfl,rfl⟩,z⟩
 ·refine ⟨its.toList,r,⟨o,n,I.kIn a o hk,hc,hd,by simpa using hs⟩,?_⟩
  have e:=r.length
  simp only[Array.length_toList] at e
  omega
theorem Inv.tuple (I:Inv X pins σ H s) (h:SqT X.K H a xs): ∃ its:List Value,ZX xs its/\IsTup s.heap a its.toArray/\xs.length<=sizeLine:=by
 rcases h with h | ⟨o,its,n,hk,hc,hs,hz,r⟩
 ·obtain ⟨z,its,r,p⟩:=h.ok I.hok
  exact ⟨its,r,p,z⟩
 ·refine ⟨its.toList,r,⟨o,I.kIn a o hk,hc,n,by simpa using hs⟩,?_⟩
  have e:=r.length
  simp only[Array.length_toList] at e
  omega
theorem Inv.list_inj (I:Inv X pins σ H s) (h:SqL X.K H a xs) (h':SqL X.K H a ys):xs=ys:=by
 obtain ⟨its,r,⟨o,n,e,_,_,d⟩,_⟩:=I.list h
 obtain ⟨its',r',⟨o',n',e',_,_,d'⟩,_⟩:=I.list h'
 rw[e] at e';cases e'
 rw[d] at d'
 injection d' with d1 _
 have:its=its':=by simpa using congrArg Array.toList d1
 subst this
 exact r.inj r'
theorem Inv.tuple_inj (I:Inv X pins σ H s) (h:SqT X.K H a xs) (h':SqT X.K H a ys):xs=ys:=by
 obtain ⟨its,r,⟨o,e,_,n,d⟩,_⟩:=I.tuple h
 obtain ⟨its',r',⟨o',e',_,n',d'⟩,_⟩:=I.tuple h'
 rw[e] at e';cases e'
 rw[d] at d'
 injection d' with d1 _
 have:its=its':=by simpa using congrArg Array.toList d1
 subst this
 exact r.inj r'
end
section
variable {X:Cx} {pins:List (Addr × Obj)} {σ:St} {H:Hp} {s:Shared} {E:Value->Shared->Prop}
end
section
variable {X:Cx} {st:Stmt} {rest:List Stmt} {t u:TS} {e:Expr} {te:TE} {pos:Pos}
noncomputable def tNext:TS:=fun D σ H=>D.nx σ H
noncomputable def Zup (t u:TS):TS:=fun D σ H=>t { D with nx:=u D } σ H
theorem ZlA:PSs X [] tNext:=fun _ _ σ H _ I h=>wpAny_execs_nil ⟨σ,H,I,h⟩
theorem ZjB (h1:PS X st t) (h2:PSs X rest u):PSs X (st :: rest) (Zup t u):=by
 intro pins s σ H D I h
 refine wpAny_execs_cons (thn (h1 pins s σ H { D with nx:=u D } I h) fun f s1 q=> ?_)
 cases f with
 |next=>
  obtain ⟨σ',H',I',q⟩:=q
  exact h2 pins s1 σ' H' D I' q
 |ret v=>exact q
 |brk=>exact q
 |cont=>exact q
theorem ZlB (h1:PS X st t):PSs X [st] t:=by
 intro pins s σ H D I h
 refine wpAny_execs_cons (thn (h1 pins s σ H D I h) fun f s1 q=> ?_)
 cases f with
 |next=>exact wpAny_execs_nil q
 |ret v=>exact q
 |brk=>exact q
 |cont=>exact q
theorem Inv.quiet {pins:List (Addr × Obj)} {σ:St} {H:Hp} {s:Shared} (I:Inv X pins σ H s):interactive X.env=false:=by simp[interactive,I.ok.kind]
noncomputable def Zq3 (te:TE):TS:=fun D σ H=>te σ H fun _ H1=>D.nx σ H1
theorem ZlC (he:PE X e te) (hs:swapsWith e none pos.line X.env=pure false:=by rfl):PS X (.Expr e pos) (Zq3 te):=by
 intro pins s σ H D I h
 exact wpAny_Expr_any (thn (he pins s σ H _ I h) fun v s1 ⟨x,H1,I1,r1,q1⟩=>⟨σ,H1,I1,q1⟩) I.quiet hs
noncomputable def Zuq (te:TE):TS:=fun D σ H=>te σ H D.rt
theorem ZnK (he:PE X e te):PS X (.Return (some e) pos) (Zuq te):=by
 intro pins s σ H D I h
 exact wpAny_Return_some (thn (he pins s σ H _ I h) fun v s1 ⟨x,H1,I1,r1,q1⟩=>⟨x,σ,H1,I1,r1,q1⟩)
noncomputable def Zur (c:TT) (t u:TS):TS:=fun D σ H=>c σ H fun b H1=>if b=true then t D σ H1 else u D σ H1
theorem Zq4 {c:Expr} {a b:List Stmt} {tc:TT} (hc:PT X c tc) (ha:PSs X a t) (hb:PSs X b u):PS X (.If c a b pos) (Zur tc t u):=by
 intro pins s σ H D I h
 refine wpAny_If (thn (hc pins s σ H _ I h) fun d s1 ⟨H1,I1,q1⟩=> ?_)
 cases d with
 |true=>exact ha pins s1 σ H1 D I1 q1
 |false=>exact hb pins s1 σ H1 D I1 q1
end
noncomputable abbrev TG:=V->St->Hp->(St->Hp->Prop)->Prop
noncomputable abbrev TGs:=List V->St->Hp->(St->Hp->Prop)->Prop
noncomputable def PG (X:Cx) (target:Expr) (t:TG):Prop:=
 ∀ (pins:List (Addr × Obj)) (s:Shared) (σ:St) (H:Hp) (v:V) (u:Value) (Q:St->Hp->Prop),Inv X pins σ H s->ZV v u->t v σ H Q->
  wpAny (model X.prog X.w) X.A (assign target X.env u) (fun _ s'=> ∃ σ' H',Inv X pins σ' H' s'/\Q σ' H') X.xe s
noncomputable def PGs (X:Cx) (ts:List Expr) (t:TGs):Prop:=
 ∀ (pins:List (Addr × Obj)) (s:Shared) (σ:St) (H:Hp) (vs:List V) (us:List Value) (Q:St->Hp->Prop),Inv X pins σ H s->ZX vs us->t vs σ H Q->
  wpAny (model X.prog X.w) X.A (assignInOrder ((assignEach ts X.env).map (·.2)) us) (fun _ s'=> ∃ σ' H',Inv X pins σ' H' s'/\Q σ' H') X.xe s
noncomputable abbrev Zq5:=V->V->V->Hp->(Hp->Prop)->Prop
noncomputable def Ztj (X:Cx) (t:Zq5):Prop:=
 ∀ (pins:List (Addr × Obj)) (s:Shared) (σ:St) (H:Hp) (o i v:V) (ov iv u:Value) (Q:Hp->Prop),Inv X pins σ H s->ZV o ov->ZV i iv->ZV v u->t o i v H Q->
  wpAny (model X.prog X.w) X.A (setItem ov iv u) (fun _ s'=> ∃ H',Inv X pins σ H' s'/\Q H') X.xe s
section
variable {X:Cx} {pos:Pos}
noncomputable def ZnL (i:Nat):TG:=fun v σ H Q=>Q (σ.set i (some v)) H
theorem ZlD {i:Nat} {x:Str} (hN:X.N.Nodup) (hi:X.N[i]?=some x) (hx:Loc X.env.scope x) (hf:X.fn x=true\/X.env.scope.names.lookup x=some .local:=by first | exact .inl rfl | exact .inr rfl | assumption):PG X (.Name x pos) (ZnL i):=by
 intro pins s σ H v u Q I r h
 exact wpAny_assign_Name (ZcK I hN hi hx r (fun s' I'=>⟨_,H,I',h⟩) hf)
noncomputable def gNil:TGs:=fun vs σ H Q=>vs=[]/\Q σ H
noncomputable def Zq6 (t:TG) (u:TGs):TGs:=fun vs σ H Q=> ∃ v r,vs=v :: r/\t v σ H fun σ' H'=>u r σ' H' Q
theorem ZlE:PGs X [] gNil:=by
 intro pins s σ H vs us Q I r h
 obtain ⟨e,h⟩:=h
 subst e
 cases r
 exact assignInOrder_nil ⟨σ,H,I,h⟩
theorem ZjC {e:Expr} {es:List Expr} {t:TG} {u:TGs} (h1:PG X e t) (h2:PGs X es u)
  (hs:(assignEach (e :: es) X.env).map (·.2)=assign e X.env :: (assignEach es X.env).map (·.2):=by rfl):PGs X (e :: es) (Zq6 t u):=by
 intro pins s σ H vs us Q I r h
 obtain ⟨v,vr,e1,h⟩:=h
 subst e1
 cases r with
 |cons r rr=>
  rw[hs]
  refine assignInOrder_cons (thn (h1 pins s σ H _ _ _ I r h) fun _ s1 ⟨σ1,H1,I1,q1⟩=> ?_)
  exact h2 pins s1 σ1 H1 _ _ Q I1 rr q1
noncomputable def Zus (K:PySem.W.Frag) (n:Nat) (t:TGs):TG:=fun v σ H Q=> ∃ a xs,v= .ref a/\SqT K H a xs/\xs.length=n/\t xs σ H Q
theorem ZnM {es:List Expr} {k:Nat} {t:TGs} {n:Nat} (hc:X.calm=true) (h:PGs X es t)
  (hn:(assignEach es X.env).length=n:=by rfl) (hst:(assignEach es X.env).findIdx? (·.1)=none:=by rfl):PG X (.Tuple es k pos) (Zus X.K n t):=by
 intro pins s σ H v u Q I r hw
 obtain ⟨a,xs,e1,hq,hl,hw⟩:=hw
 subst e1
 cases r
 obtain ⟨its,rv,ht,hz⟩:=I.tuple hq
 refine assign_Tuple_tuple (I.ok.hd hc) ht (by simp[hn,<- hl,rv.length]) hst fun h' hx=> ?_
 have I1:Inv X pins σ H { s with heap:=h' }:=I.kept (t':=s.toks) fun b o e=>hx b o (Nat.ne_of_lt (Heap.lt_size e)) e
 exact h pins _ σ H xs _ Q I1 (by simpa using rv) hw
noncomputable def Zut (to ti:TE) (t:Zq5):TG:=fun v σ H Q=>to σ H fun o H1=>ti σ H1 fun i H2=>t o i v H2 fun H3=>Q σ H3
theorem ZnN {o i:Expr} {to ti:TE} {t:Zq5} (ho:PE X o to) (hi:PE X i ti) (hs:Ztj X t)
  (ha: ∀ v,assign (.Subscript o i pos) X.env v=(do
   let ov <- holding [v] (eval o X.env)
   let iv <- holding [v,ov] (eval i X.env)
   standAt pos
   holding [v,ov,iv] (setItem ov iv v)
   release [v,ov,iv] []):=by intro _;rfl):PG X (.Subscript o i pos) (Zut to ti t):=by
 intro pins s σ H v u Q I r h
 rw[ha]
 refine wpAny_bind (wpAny_holding (thn (ho pins s σ H _ I h) fun ov s1 ⟨x,H1,I1,r1,q1⟩=> ?_))
 refine wpAny_bind (wpAny_holding (thn (hi pins s1 σ H1 _ I1 q1) fun iv s2 ⟨y,H2,I2,r2,q2⟩=> ?_))
 refine wpAny_bind (wpAny_standAt (wpAny_bind (wpAny_holding (thn (hs pins s2 σ H2 x y v ov iv u _ I2 r1 r2 r q2) fun _ s3 ⟨H3,I3,q3⟩=> ?_))))
 exact wpAny_release ⟨σ,H3,I3,q3⟩
noncomputable def Ztk (te:TE) (g:TG):TS:=fun D σ H=>te σ H fun x H1=>g x σ H1 D.nx
theorem ZkJ {tg e:Expr} {te:TE} {g:TG} (he:PE X e te) (hg:PG X tg g) (hs:swapsWithSole [tg] e pos.line X.env=pure false:=by rfl) (hw:swappedStores [tg] e X.env=pure none:=by rfl)
  (h1:(assignEach [tg] X.env).map (·.2)=[assign tg X.env]:=by rfl):PS X (.Assign [tg] e pos) (Ztk te g):=by
 intro pins s σ H D I h
 refine wpAny_Assign_stores (thn (he pins s σ H _ I h) fun v s1 ⟨x,H1,I1,r1,q1⟩=> ?_) hs hw
 rw[h1]
 exact thn (hg pins s1 σ H1 x v _ I1 r1 q1) fun _ s2 q=>q
theorem ZnO {i:Nat} {x:Str} {e:Expr} {te:TE} {pos':Pos} (hN:X.N.Nodup) (hi:X.N[i]?=some x) (hx:Loc X.env.scope x) (he:PE X e te) (hs:swapsWith e (some (.Name x pos')) pos.line X.env=pure false:=by rfl) (hf:X.fn x=true\/X.env.scope.names.lookup x=some .local:=by first | exact .inl rfl | exact .inr rfl | assumption):
  PS X (.Assign [.Name x pos'] e pos) (Ztk te (ZnL i)):=by
 intro pins s σ H D I h
 refine wpAny_Assign_Name (thn (he pins s σ H _ I h) fun v s1 ⟨y,H1,I1,r1,q1⟩=> ?_) hs
 exact ZcK I1 hN hi hx r1 (fun s2 I2=>⟨_,H1,I2,q1⟩) hf
noncomputable def Zuu (i j:Nat) (ta:TA):TS:=fun D σ H=>ta σ H fun vs H1=> ∃ v w,vs=[v,w]/\D.nx ((σ.set i (some v)).set j (some w)) H1
theorem ZnP {i j:Nat} {x y:Str} {a b:Expr} {ta:TA} {px py pt:Pos} {kt k2 pt2} (hc:X.calm=true) (hN:X.N.Nodup) (hi:X.N[i]?=some x) (hj:X.N[j]?=some y) (hij:i≠j)
  (hx:X.env.scope.names.lookup x=some .local) (hy:X.env.scope.names.lookup y=some .local) (ha:PA X [a,b] ta)
  (hw:swappedStores [.Tuple [.Name x px,.Name y py] kt pt] (.Tuple [a,b] k2 pt2) X.env=pure (some [x,y]))
  (hs:swapsWithSole [.Tuple [.Name x px,.Name y py] kt pt] (.Tuple [a,b] k2 pt2) pos.line X.env=pure false:=by rfl):
  PS X (.Assign [.Tuple [.Name x px,.Name y py] kt pt] (.Tuple [a,b] k2 pt2) pos) (Zuu i j ta):=by
 intro pins s σ H D I h
 rw[exec_Assign_arm]
 refine wpAny_bind (wpAny_standAt ?_)
 rw[hs]
 refine wpAny_bind (wpAny_pure ?_)
 rw[if_neg (by decide)]
 refine wpAny_bind (Tuple_ (thn (ha _ pins s σ H _ I h) fun us s1 ⟨vs,H1,I1,r1,q1⟩=> ?_))
 obtain ⟨v,w,e1,q1⟩:=q1
 subst e1
 obtain ⟨u1,u2,rfl,rv,rw'⟩: ∃ u1 u2,us=[u1,u2]/\ZV v u1/\ZV w u2:=by
  cases r1 with
  |cons p q=>
   cases q with
   |cons p' q'=>
    cases q'
    exact ⟨_,_,rfl,p,p'⟩
 refine wpAny_newObj_type ?_ (by show 2<=sizeLine;decide)
 have I2:Inv X pins σ H1 { s1 with heap:=s1.heap.push { cls:= .type "tuple",data:= .seq [u1,u2].toArray } }:=I1.kept (t':=s1.toks) fun b o e=>Heap.get?_push_of_some _ e
 rw[hw]
 refine wpAny_bind (wpAny_pure ?_)
 show wpAny (model X.prog X.w) X.A (do rule "assign.swapped-stores";let items <- unpackItems (.ref s1.heap.objs.size) 2 none;assignInOrder [fun v=>bindName X.env y v,fun v=>bindName X.env x v] items.reverse;pure Flow.next) _ _ _
 refine wpAny_bind (wpAny_rule (wpAny_bind (unpackItems_tuple (items:= #[u1,u2]) (I.ok.hd hc) (IsTup.new s1.heap _) fun h' hx'=> ?_)))
 have I3:=I2.kept (h':=h') (t':=s1.toks) fun b o e=>hx' b o (Nat.ne_of_lt (Heap.lt_size e)) e
 show wpAny _ _ (assignInOrder [fun v=>bindName X.env y v,fun v=>bindName X.env x v] [u2,u1] >>= fun _=>pure Flow.next) _ _ _
 refine wpAny_bind (assignInOrder_cons (wpAny_bindName (ZcK I3 hN hj (.inl hy) rw' (fun s2 I4=> ?_) (.inr hy))))
 refine assignInOrder_cons (wpAny_bindName (ZcK I4 hN hi (.inl hx) rv (fun s3 I5=>assignInOrder_nil (wpAny_pure ?_)) (.inr hx)))
 rw[List.set_comm _ _ (Ne.symm hij)] at I5
 exact ⟨_,H1,I5,q1⟩
end
section
variable {X:Cx} {pos:Pos}
noncomputable def ZnQ (c:TT) (tb:TS):TS:=fun D σ H=> ∃ W:Nat->St->Hp->Prop,(∃ m,W m σ H)/\ ∀ m σ H,W m σ H->
 c σ H fun b H1=>if b=true then ∃ N:St->Hp->Prop,(∀ σ' H',N σ' H'-> ∃ m',m' < m/\W m' σ' H')/\tb { D with nx:=N,ct:=N,bk:=D.nx } σ H1 else D.nx σ H1
theorem ZjD {c:Expr} {body:List Stmt} {tc:TT} {tb:TS} (hp:PassesOwn (model X.prog X.w) X.A X.env X.xe) (hc:PT X c tc) (hb:PSs X body tb):PS X (.While c body [] pos) (ZnQ tc tb):=by
 intro pins s σ H D I h
 obtain ⟨W,⟨m0,w0⟩,turn⟩:=h
 refine wpAny_While (codeAny_whileLoop (fun n s'=> ∃ σ' H',Inv X pins σ' H' s'/\W n σ' H') ?_ m0 ⟨σ,H,I,w0⟩)
 rintro n s1 ⟨σ1,H1,I1,w1⟩
 refine wpAny_passesOwn hp (thn (hc pins s1 σ1 H1 _ I1 (turn n σ1 H1 w1)) fun b s2 ⟨H2,I2,q2⟩=> ?_)
 cases b with
 |true=>
  obtain ⟨N,hN,q2⟩:=q2
  rw[if_pos rfl]
  refine wpAny_passesOwn hp (thn (hb pins s2 σ1 H2 _ I2 q2) fun f s3 q3=> ?_)
  cases f with
  |next=>
   obtain ⟨σ3,H3,I3,n3⟩:=q3
   obtain ⟨m',hm,w3⟩:=hN σ3 H3 n3
   exact ⟨m',hm,σ3,H3,I3,w3⟩
  |cont=>
   obtain ⟨σ3,H3,I3,n3⟩:=q3
   obtain ⟨m',hm,w3⟩:=hN σ3 H3 n3
   exact ⟨m',hm,σ3,H3,I3,w3⟩
  |brk=>exact q3
  |ret v=>exact q3
 |false=>
  rw[if_neg Bool.false_ne_true]
  exact wpAny_execs_nil ⟨σ1,H2,I2,q2⟩
end
structure It where
 go:Nat->Hp->Prop
 yld:Nat->Hp->V->Hp->Prop
 stop:Nat->Hp->Prop
noncomputable def ZdP (X:Cx) (pins:List (Addr × Obj)) (H:Hp) (b:Addr):Prop:=
 H b=none/\b≠X.env.locals/\b ∉ X.fs/\(b∈X.ex\/X.s₀.heap.objs.size<=b)/\(∀ x c,X.env.cells.lookup x=some c->c≠b)/\ ∀ p∈X.pn ++ pins,p.1≠b
theorem Inv.fpOk {X:Cx} {pins:List (Addr × Obj)} {σ:St} {H H':Hp} {s:Shared} {b:Addr} (I:Inv X pins σ H s) (hb:s.heap.objs.size<=b) (hn:H' b=none):ZdP X pins H' b:=by
 refine ⟨hn,Nat.ne_of_gt (Nat.lt_of_lt_of_le I.lt hb),I.nofs hb,.inr (Nat.le_trans I.sz hb),fun x c e z=> ?_,fun p hp z=> ?_⟩
 ·obtain ⟨v,q⟩:=I.cell x c e
  exact absurd (Nat.lt_of_lt_of_le q.lt (by rw[z];exact hb)) (Nat.lt_irrefl _)
 ·exact absurd (Nat.lt_of_lt_of_le (Heap.lt_size (I.pin p hp).1) (by rw[z];exact hb)) (Nat.lt_irrefl _)
structure Turn (P:Program) (w:World) (K:PySem.W.Frag) (B:Around) (tg:Expr) (J:It) (fp:List Addr) (it:Addr) (tn:Nat->Heap->Prop):Prop where
 mem:it∈fp
 obj: ∀ i h,tn i h-> ∀ b∈fp,∃ o,h.get? b=some o/\ ∀ v,o.data≠ .cell v
 keep: ∀ i h h',tn i h->(∀ b∈fp,∀ o,h.get? b=some o->h'.get? b=some o)->tn i h'
 item: ∀ (X:Cx),X.prog=P->X.w=w->X.K=K->X.A=B-> ∀ (i:Nat) (pins:List (Addr × Obj)) (s:Shared) (σ:St) (H:Hp) (E:Value->Shared->Prop),Inv X pins σ H s->(∀ b∈fp,ZdP X pins H b)->tn i s.heap->J.go i H->
  wpAny (model P w) X.A (pyNext (.ref it)) (fun r s1=> ∃ u,r=some u/\
   wpAny (model P w) X.A (letOwnedTupleGo tg (.ref it) u) (fun _ s2=> ∃ x H',Inv X pins σ H' s2/\ZV x u/\J.yld i H x H'/\tn (i + 1) s2.heap/\ ∀ b∈fp,H' b=none) E s1) E s
 done: ∀ (X:Cx),X.prog=P->X.w=w->X.K=K->X.A=B-> ∀ (i:Nat) (pins:List (Addr × Obj)) (s:Shared) (σ:St) (H:Hp) (E:Value->Shared->Prop),Inv X pins σ H s->(∀ b∈fp,ZdP X pins H b)->tn i s.heap->J.stop i H->
  wpAny (model P w) X.A (pyNext (.ref it)) (fun r s1=>r=none/\Inv X pins σ H s1) E s
 self: ∀ (A:Around) (i:Nat) (s:Shared) (Q:Value->Shared->Prop) (E:Value->Shared->Prop),tn i s.heap->Q (.ref it) s->wpAny (model P w) A (pyIter (.ref it)) Q E s
noncomputable abbrev TI:=St->Hp->(It->Hp->Prop)->Prop
noncomputable def PIE (X:Cx) (pins:List (Addr × Obj)) (σ:St) (tg:Expr) (R:It->Hp->Prop) (itv:Value) (s2:Shared):Prop:=
 ∃ (it:Addr) (fp:List Addr) (tn:Nat->Heap->Prop) (J:It) (H':Hp),itv= .ref it/\Inv X pins σ H' s2/\Turn X.prog X.w X.K X.A tg J fp it tn/\tn 0 s2.heap/\(∀ b∈fp,ZdP X pins H' b)/\R J H'
noncomputable def PI (X:Cx) (tg iter:Expr) (wi:TI):Prop:=
 ∀ (pins:List (Addr × Obj)) (s:Shared) (σ:St) (H:Hp) (R:It->Hp->Prop),Inv X pins σ H s->wi σ H R->
  wpAny (model X.prog X.w) X.A (eval iter X.env) (fun v s1=>wpAny (model X.prog X.w) X.A (pyIter v) (PIE X pins σ tg R) X.xe s1) X.xe s
theorem ZjE {M:Model} {A:Around} {E:Value->Shared->Prop} {s:Shared} {tg:Expr} {it:Addr} {u:Value} {o:Obj} {n:String} {vs:Array Value} {Q:Unit->Shared->Prop} (ho:s.heap.get? it=some o) (hc:o.cls= .type n) (hd:o.data= .fields vs)
  (hn:["enumerate","zip","dict_itemiterator","dict_reverseitemiterator","odict_iterator","itertools.zip_longest","itertools.pairwise"].contains n=false) (hQ:Q () s):wpAny M A (letOwnedTupleGo tg (.ref it) u) Q E s:=by
 unfold letOwnedTupleGo
 cases tg<;>first
  |exact wpAny_pure hQ
  | (cases u<;>first
    |exact wpAny_pure hQ
    | (refine wpAny_bind (wpAny_load ho ?_)
       rw[hc,hd]
       show wpAny M A (if (["enumerate","zip","dict_itemiterator","dict_reverseitemiterator","odict_iterator","itertools.zip_longest","itertools.pairwise"].contains n && vs[0]? == some (rawInt _))=true then _ else _) Q E s
       rw[if_neg (by intro h;rw[hn,Bool.false_and] at h;cases h)]
       exact wpAny_pure hQ))
noncomputable def Itl (K:PySem.W.Frag) (a:Addr):It:=
 ⟨fun i H=> ∃ xs x,SqL K H a xs/\xs[i]?=some x,fun i H x H'=>H'=H/\ ∀ xs,SqL K H a xs->xs[i]?=some x,fun i H=> ∃ xs,SqL K H a xs/\xs.length<=i⟩
noncomputable def Itt (K:PySem.W.Frag) (a:Addr):It:=
 ⟨fun i H=> ∃ xs x,SqT K H a xs/\xs[i]?=some x,fun i H x H'=>H'=H/\ ∀ xs,SqT K H a xs->xs[i]?=some x,fun i H=> ∃ xs,SqT K H a xs/\xs.length<=i⟩
noncomputable def Itr (lo:Int) (n:Nat):It:=⟨fun i _=>i < n,fun i H x H'=>H'=H/\x= .int (lo + i),fun i _=>n<=i⟩
theorem ZhB {P:Program} {w:World} {K:PySem.W.Frag} {B:Around} {tg:Expr} (a it:Addr):Turn P w K B tg (Itl K a) [it] it (fun i h=>h.IsListIter it a i) where
 mem:=by simp
 obj:=fun i h st b hb=>by
  have e:b=it:=by simpa using hb
  subst e
  obtain ⟨o,e,c,d⟩:=st
  exact ⟨o,e,fun v z=>by rw[d] at z;cases z⟩
 keep:=fun i h h' st k=>st.at fun o e=>k it (by simp) o e
 item:=by
  intro X hP hw hK hB i pins s σ H E I hf st hg
  subst hP hw hK
  obtain ⟨xs,x,hq,hx⟩:=hg
  obtain ⟨its,rv,p,hz⟩:=I.list hq
  obtain ⟨u,hu,ru⟩:=rv.get hx
  obtain ⟨f0,f1,f2,f3,f4,f5⟩:=hf it (by simp)
  refine wpAny_pyNext_list_item st p.isList (x:=u) (by simpa using hu) fun h' st' sb=> ?_
  have I1:Inv X pins σ H { s with heap:=h' }:=I.turned (t':=s.toks) (fun b o hb e=>(sb.2 b hb).trans e) f0 f1 f3 f4 f5
  obtain ⟨o,e,c,d⟩:=id st'
  exact ⟨u,rfl,ZjE (s:={ s with heap:=h' }) e c d (by decide) ⟨x,H,I1,ru,⟨rfl,fun ys hy=>by rw[I.list_inj hy hq];exact hx⟩,st',fun b hb=>(hf b hb).1⟩⟩
 done:=by
  intro X hP hw hK hB i pins s σ H E I hf st hg
  subst hP hw hK
  obtain ⟨xs,hq,hx⟩:=hg
  obtain ⟨its,rv,p,hz⟩:=I.list hq
  obtain ⟨f0,f1,f2,f3,f4,f5⟩:=hf it (by simp)
  have hl:=rv.length
  exact DQ.Zjy I.qh st p.isList (by simp;omega) fun h' eb=>⟨rfl,I.turned (t':=s.toks) (fun b o hb e=>eb b o hb e) f0 f1 f3 f4 f5⟩
 self:=fun _ _ _ _ _ st h=>wpAny_pyIter_listiter st h
theorem ZgO {P:Program} {w:World} {K:PySem.W.Frag} {B:Around} {tg:Expr} (a it:Addr):Turn P w K B tg (Itt K a) [it] it (fun i h=>h.IsTupleIter it a i) where
 mem:=by simp
 obj:=fun i h st b hb=>by
  have e:b=it:=by simpa using hb
  subst e
  obtain ⟨o,e,c,d⟩:=st
  exact ⟨o,e,fun v z=>by rw[d] at z;cases z⟩
 keep:=fun i h h' st k=>st.at fun o e=>k it (by simp) o e
 item:=by
  intro X hP hw hK hB i pins s σ H E I hf st hg
  subst hP hw hK
  obtain ⟨xs,x,hq,hx⟩:=hg
  obtain ⟨its,rv,p,hz⟩:=I.tuple hq
  obtain ⟨u,hu,ru⟩:=rv.get hx
  obtain ⟨f0,f1,f2,f3,f4,f5⟩:=hf it (by simp)
  refine wpAny_pyNext_tuple_item st (show s.heap.IsTuple a its.toArray from p) (x:=u) (by simpa using hu) fun h' st' sb=> ?_
  have I1:Inv X pins σ H { s with heap:=h' }:=I.turned (t':=s.toks) (fun b o hb e=>(sb.2 b hb).trans e) f0 f1 f3 f4 f5
  obtain ⟨o,e,c,d⟩:=id st'
  exact ⟨u,rfl,ZjE (s:={ s with heap:=h' }) e c d (by decide) ⟨x,H,I1,ru,⟨rfl,fun ys hy=>by rw[I.tuple_inj hy hq];exact hx⟩,st',fun b hb=>(hf b hb).1⟩⟩
 done:=by
  intro X hP hw hK hB i pins s σ H E I hf st hg
  subst hP hw hK
  obtain ⟨xs,hq,hx⟩:=hg
  obtain ⟨its,rv,p,hz⟩:=I.tuple hq
  obtain ⟨f0,f1,f2,f3,f4,f5⟩:=hf it (by simp)
  have hl:=rv.length
  exact DQ.Zhu I.qh st (show s.heap.IsTuple a its.toArray from p) (by simp;omega) fun h' eb=>⟨rfl,I.turned (t':=s.toks) (fun b o hb e=>eb b o hb e) f0 f1 f3 f4 f5⟩
 self:=fun _ _ _ _ _ st h=>wpAny_pyIter_tupleiter st h
theorem ZgP {P:Program} {w:World} {K:PySem.W.Frag} {B:Around} {tg:Expr} (it:Addr) (lo:Int) (n:Nat):Turn P w K B tg (Itr lo n) [it] it (fun i h=>IsRangeIter h it (lo + (i:Nat) * 1) ((n:Int) - (i:Nat)) 1) where
 mem:=by simp
 obj:=fun i h st b hb=>by
  have e:b=it:=by simpa using hb
  subst e
  exact ⟨_,st,fun v z=>by
   have z':Data.fields _=Data.cell v:=z
   cases z'⟩
 keep:=fun i h h' st k=>k it (by simp) _ st
 item:=by
  intro X hP hw hK hB i pins s σ H E I hf st hg
  subst hP hw hK
  obtain ⟨f0,f1,f2,f3,f4,f5⟩:=hf it (by simp)
  have hlt:i < n:=hg
  refine wpAny_pyNext_range_item st (by omega) fun h' st' sb=> ?_
  have I1:Inv X pins σ H { s with heap:=h',toks:=s.toks + 1 }:=I.turned (fun b o hb e=>(sb.2 b hb).trans e) f0 f1 f3 f4 f5
  have st2:IsRangeIter h' it (lo + ((i + 1:Nat):Int) * 1) ((n:Int) - ((i + 1:Nat):Int)) 1:=by
   have e1:lo + ((i + 1:Nat):Int) * 1=lo + (i:Nat) * 1 + 1:=by omega
   have e2:(n:Int) - ((i + 1:Nat):Int)=(n:Int) - (i:Nat) - 1:=by omega
   rw[e1,e2]
   exact st'
  refine ⟨_,rfl,ZjE (s:={ s with heap:=h',toks:=s.toks + 1 }) (n:="range_iterator") st2 rfl rfl (by decide) ⟨.int (lo + i),H,I1,⟨s.toks,?_⟩,⟨rfl,rfl⟩,st2,fun b hb=>(hf b hb).1⟩⟩
  rw[Int.mul_one]
 done:=by
  intro X hP hw hK hB i pins s σ H E I hf st hg
  subst hP hw hK
  obtain ⟨f0,f1,f2,f3,f4,f5⟩:=hf it (by simp)
  exact DQ.Zht I.qh st (by have:n<=i:=hg;omega) fun h' eb=>⟨rfl,I.turned (t':=s.toks) (fun b o hb e=>eb b o hb e) f0 f1 f3 f4 f5⟩
 self:=fun _ _ _ _ _ st h=>wpAny_pyIter_rangeiter st h
end L2
namespace L2
open PySem PySem.Spec PyProof.Rows
section
variable {X:Cx} {tg:Expr}
theorem ZjF {pins:List (Addr × Obj)} {σ:St} {H:Hp} {s:Shared} {R:It->Hp->Prop} {E:Value->Shared->Prop} {lo hi:Int} {t u v:Tok} {tk:Nat} (I:Inv X pins σ H s) (h1: -(2 ^ 62)<=lo) (h2:lo < 2 ^ 62) (h3: -(2 ^ 62)<=hi) (h4:hi < 2 ^ 62)
  (q:R (Itr lo (hi - lo).toNat) H):wpAny (model X.prog X.w) X.A (pyIter (.ref s.heap.objs.size)) (PIE X pins σ tg R) E { s with heap:=s.heap.push { cls:= .type "range",data:= .fields #[.int lo t,.int hi u,.int 1 v] },toks:=tk }:=by
 refine wpAny_pyIter_range (IsRange.new ..) (small_one h1 h2 h3 h4) ?_
 have I1:Inv X pins σ H { s with heap:=s.heap.push { cls:= .type "range",data:= .fields #[.int lo t,.int hi u,.int 1 v] },toks:=tk }:=I.kept fun b o e=>Heap.get?_push_of_some _ e
 refine ⟨(s.heap.push { cls:= .type "range",data:= .fields #[.int lo t,.int hi u,.int 1 v] }).objs.size,[(s.heap.push { cls:= .type "range",data:= .fields #[.int lo t,.int hi u,.int 1 v] }).objs.size],_,_,H,rfl,
  I1.kept (t':=tk) fun b o e=>Heap.get?_push_of_some _ e,ZgP _ lo (hi - lo).toNat,?_,fun b hb=> ?_,q⟩
 ·have e1:lo + ((0:Nat):Int) * 1=lo:=by simp
  have e2:(((hi - lo).toNat:Nat):Int) - ((0:Nat):Int)=Builtin.Range.rangeSize lo hi 1:=by rw[rangeSize_one];split<;>omega
  show IsRangeIter _ _ (lo + ((0:Nat):Int) * 1) ((((hi - lo).toNat:Nat):Int) - ((0:Nat):Int)) 1
  rw[e1,e2]
  exact Heap.get?_push_size _ rfl
 ·have e:b=(s.heap.push { cls:= .type "range",data:= .fields #[.int lo t,.int hi u,.int 1 v] }).objs.size:=by simpa using hb
  subst e
  exact I1.fpOk (Nat.le_refl _) (I1.hok.fresh (Nat.le_refl _))
noncomputable def Zq7 (ta:TA):TI:=fun σ H R=>ta σ H fun vs H1=> ∃ j:Int,vs=[.int j]/\ -(2 ^ 62)<=j/\j < 2 ^ 62/\R (Itr 0 j.toNat) H1
theorem ZeE {a:Expr} {ta:TA} {p pos:Pos} (hg:Gl X "range") (hm:X.mg "range"=none) (ha:PA X [a] ta) (hs:starEach [a] X.env=[(false,eval a X.env)]:=by rfl):PI X tg (.Call (.Name "range" p) [a] [] pos) (Zq7 ta):=by
 intro pins s σ H R I h
 refine Call_ (Zb5 I hg hm boot_range (PyProof.Rows.callWith_type1 (thn (ha pos pins s σ H _ I h) fun us s1 ⟨vs,H1,I1,r1,q1⟩=> ?_) hs rfl))
 obtain ⟨j,e,q1,q2,q⟩:=q1
 subst e
 cases r1 with
 |cons r rr=>
  cases rr
  obtain ⟨t,rfl⟩:=r
  exact call_range_1 (ZjF I1 (by omega) (by omega) q1 q2 (by simpa using q))
noncomputable def Zuv (wi:TI) (g:TG) (tb:TS):TS:=fun D σ H=>wi σ H fun J H1=> ∃ W:Nat->Nat->St->Hp->Prop,(∃ m,W 0 m σ H1)/\ ∀ i m σ H,W i m σ H->
 (J.stop i H/\D.nx σ H)\/(J.go i H/\ ∃ N:St->Hp->Prop,(∀ σ' H',N σ' H'-> ∃ m',m' < m/\W (i + 1) m' σ' H')/\ ∀ x H',J.yld i H x H'->g x σ H' fun σ2 H2=>tb { D with nx:=N,ct:=N,bk:=D.nx } σ2 H2)
noncomputable def Zb6 (fp:List Addr) (h:Heap):List (Addr × Obj):=fp.filterMap fun b=>(h.get? b).map fun o=>(b,o)
theorem ZaM {fp:List Addr} {h:Heap} {b:Addr} {o:Obj} (hb:b∈fp) (e:h.get? b=some o):(b,o)∈Zb6 fp h:=List.mem_filterMap.mpr ⟨b,hb,by rw[e];rfl⟩
theorem ZhC {fp:List Addr} {h:Heap} {p:Addr × Obj} (hp:p∈Zb6 fp h):p.1∈fp/\h.get? p.1=some p.2:=by
 obtain ⟨b,hb,e⟩:=List.mem_filterMap.mp hp
 cases q:h.get? b with
 |none=>rw[q] at e;cases e
 |some o=>
  rw[q] at e
  have e':(b,o)=p:=Option.some.inj e
  subst e'
  exact ⟨hb,q⟩
theorem Inv.pinned {pins:List (Addr × Obj)} {σ:St} {H:Hp} {s:Shared} {fp:List Addr} (I:Inv X pins σ H s) (hf: ∀ b∈fp,ZdP X pins H b) (ho: ∀ b∈fp,∃ o,s.heap.get? b=some o/\ ∀ v,o.data≠ .cell v):Inv X (pins ++ Zb6 fp s.heap) σ H s:=
 I.pins_of fun p hp=>(List.mem_append.mp hp).elim (fun z=>I.pin p (List.mem_append_right _ z)) fun z=>by
  obtain ⟨hb,e⟩:=ZhC z
  obtain ⟨f0,f1,f2,_⟩:=hf p.1 hb
  obtain ⟨o,e',d⟩:=ho p.1 hb
  rw[e] at e';cases e'
  exact ⟨e,f0,f1,f2,d⟩
theorem Inv.unpinned {pins pl:List (Addr × Obj)} {σ:St} {H:Hp} {s:Shared} (I:Inv X (pins ++ pl) σ H s):Inv X pins σ H s:=I.pins_of fun p hp=>I.pin p (List.mem_append_right _ (List.mem_append_left _ hp))
theorem ZhD {iter:Expr} {body:List Stmt} {wi:TI} {g:TG} {tb:TS} {pos:Pos} (hp:PassesOwn (model X.prog X.w) X.A X.env X.xe) (hi:PI X tg iter wi) (hg:PG X tg g) (hb:PSs X body tb)
  (hs: ∀ x,foldedSetIterable iter X.env x=pure x:=by intro _;rfl):PS X (.For tg iter body [] pos) (Zuv wi g tb):=by
 intro pins s σ H D I h
 refine wpAny_For (thn (hi pins s σ H _ I h) fun v s1 h1=>thn h1 fun itv s2 h2=> ?_) hs
 obtain ⟨it,fp,tn,J,H2,e,I2,T,st2,f2,W,⟨m0,w0⟩,turn⟩:=h2
 subst e
 have stat: ∀ {H':Hp},(∀ b∈fp,H' b=none)-> ∀ b∈fp,ZdP X pins H' b:=fun hn b hb=>⟨hn b hb,(f2 b hb).2⟩
 refine codeAny_forLoop_any (fun n s'=> ∃ i σ' H',Inv X pins σ' H' s'/\tn i s'.heap/\(∀ b∈fp,H' b=none)/\W i n σ' H') ?_ m0 ⟨0,σ,H2,I2,st2,fun b hb=>(f2 b hb).1,w0⟩
 rintro n s3 ⟨i,σ3,H3,I3,st3,fr3,w3⟩
 rcases turn i n σ3 H3 w3 with ⟨stop,qn⟩ | ⟨go,N,hN,step⟩
 ·refine wpAny_passesOwn hp (thn (T.done X rfl rfl rfl rfl i pins s3 σ3 H3 X.xe I3 (stat fr3) st3 stop) fun r s4 ⟨hr,I4⟩=> ?_)
  subst hr
  exact wpAny_execs_nil ⟨σ3,H3,I4,qn⟩
 ·refine wpAny_passesOwn hp (thn (T.item X rfl rfl rfl rfl i pins s3 σ3 H3 X.xe I3 (stat fr3) st3 go) fun r s4 ⟨u,hr,h4⟩=> ?_)
  subst hr
  refine wpAny_passesOwn hp (thn h4 fun _ s5 ⟨x,H5,I5,r5,y5,st5,fr5⟩=> ?_)
  have I5':=I5.pinned (stat fr5) (T.obj _ _ st5)
  refine wpAny_passesOwn hp (thn (hg _ s5 σ3 H5 x u _ I5' r5 (step x H5 y5)) fun _ s6 ⟨σ6,H6,I6,q6⟩=> ?_)
  refine wpAny_passesOwn hp (thn (hb _ s6 σ6 H6 _ I6 q6) fun f s7 q7=> ?_)
  have again: ∀ {σ7:St} {H7:Hp},Inv X (pins ++ Zb6 fp s5.heap) σ7 H7 s7->N σ7 H7-> ∃ m,m < n/\ ∃ i σ' H',Inv X pins σ' H' s7/\tn i s7.heap/\(∀ b∈fp,H' b=none)/\W i m σ' H':=fun {σ7 H7} I7 n7=>by
   obtain ⟨m',hm,w7⟩:=hN σ7 H7 n7
   refine ⟨m',hm,i + 1,σ7,H7,I7.unpinned,T.keep _ _ _ st5 fun b hb o e=>(I7.pin (b,o) (List.mem_append_right _ (List.mem_append_right _ (ZaM hb e)))).1,fun b hb=> ?_,w7⟩
   obtain ⟨o,e,d⟩:=T.obj _ _ st5 b hb
   exact (I7.pin (b,o) (List.mem_append_right _ (List.mem_append_right _ (ZaM hb e)))).2.1
  cases f with
  |next=>obtain ⟨σ7,H7,I7,n7⟩:=q7;exact again I7 n7
  |cont=>obtain ⟨σ7,H7,I7,n7⟩:=q7;exact again I7 n7
  |brk=>obtain ⟨σ7,H7,I7,q7⟩:=q7;exact ⟨σ7,H7,I7.unpinned,q7⟩
  |ret v=>obtain ⟨x7,σ7,H7,I7,r7,q7⟩:=q7;exact ⟨x7,σ7,H7,I7.unpinned,r7,q7⟩
end
theorem ZjG {K:PySem.W.Frag} {a:Addr} {xs:List V} {g:TG} {tb:TS} {D:Ends} {σ:St} {H:Hp} (Pv:Nat->St->Hp->Prop) (h0:Pv 0 σ H) (hl: ∀ i σ H,i<=xs.length->Pv i σ H->SqL K H a xs)
  (hs: ∀ i x σ H,xs[i]?=some x->Pv i σ H->g x σ H fun σ2 H2=>tb { D with nx:=Pv (i + 1),ct:=Pv (i + 1),bk:=D.nx } σ2 H2) (hd: ∀ σ H,Pv xs.length σ H->D.nx σ H):
  ∃ W:Nat->Nat->St->Hp->Prop,(∃ m,W 0 m σ H)/\ ∀ i m σ H,W i m σ H->
   ((Itl K a).stop i H/\D.nx σ H)\/((Itl K a).go i H/\ ∃ N:St->Hp->Prop,(∀ σ' H',N σ' H'-> ∃ m',m' < m/\W (i + 1) m' σ' H')/\ ∀ x H',(Itl K a).yld i H x H'->g x σ H' fun σ2 H2=>tb { D with nx:=N,ct:=N,bk:=D.nx } σ2 H2):=by
 refine ⟨fun i m σ H=>m=xs.length - i/\i<=xs.length/\Pv i σ H,⟨xs.length,by simp,Nat.zero_le _,h0⟩,?_⟩
 rintro i m σ H ⟨rfl,hi,p⟩
 have q:=hl i σ H hi p
 by_cases hlt:i < xs.length
 ·refine .inr ⟨⟨xs,xs[i],q,by simp[hlt]⟩,Pv (i + 1),fun σ' H' p'=>⟨xs.length - (i + 1),by omega,rfl,hlt,p'⟩,fun x H' y=> ?_⟩
  obtain ⟨e,y⟩:=y
  subst e
  exact hs i x σ _ (y xs q) p
 ·have e:i=xs.length:=by omega
  subst e
  exact .inl ⟨⟨xs,q,Nat.le_refl _⟩,hd σ H p⟩
theorem ZlF {K:PySem.W.Frag} {a:Addr} {xs:List V} {g:TG} {tb:TS} {D:Ends} {σ:St} {H:Hp} (Pv:Nat->St->Hp->Prop) (h0:Pv 0 σ H) (hl: ∀ i σ H,i<=xs.length->Pv i σ H->SqT K H a xs)
  (hs: ∀ i x σ H,xs[i]?=some x->Pv i σ H->g x σ H fun σ2 H2=>tb { D with nx:=Pv (i + 1),ct:=Pv (i + 1),bk:=D.nx } σ2 H2) (hd: ∀ σ H,Pv xs.length σ H->D.nx σ H):
  ∃ W:Nat->Nat->St->Hp->Prop,(∃ m,W 0 m σ H)/\ ∀ i m σ H,W i m σ H->
   ((Itt K a).stop i H/\D.nx σ H)\/((Itt K a).go i H/\ ∃ N:St->Hp->Prop,(∀ σ' H',N σ' H'-> ∃ m',m' < m/\W (i + 1) m' σ' H')/\ ∀ x H',(Itt K a).yld i H x H'->g x σ H' fun σ2 H2=>tb { D with nx:=N,ct:=N,bk:=D.nx } σ2 H2):=by
 refine ⟨fun i m σ H=>m=xs.length - i/\i<=xs.length/\Pv i σ H,⟨xs.length,by simp,Nat.zero_le _,h0⟩,?_⟩
 rintro i m σ H ⟨rfl,hi,p⟩
 have q:=hl i σ H hi p
 by_cases hlt:i < xs.length
 ·refine .inr ⟨⟨xs,xs[i],q,by simp[hlt]⟩,Pv (i + 1),fun σ' H' p'=>⟨xs.length - (i + 1),by omega,rfl,hlt,p'⟩,fun x H' y=> ?_⟩
  obtain ⟨e,y⟩:=y
  subst e
  exact hs i x σ _ (y xs q) p
 ·have e:i=xs.length:=by omega
  subst e
  exact .inl ⟨⟨xs,q,Nat.le_refl _⟩,hd σ H p⟩
theorem ZhE {lo:Int} {n:Nat} {g:TG} {tb:TS} {D:Ends} {σ:St} {H:Hp} (Pv:Nat->St->Hp->Prop) (h0:Pv 0 σ H)
  (hs: ∀ i σ H,i < n->Pv i σ H->g (.int (lo + i)) σ H fun σ2 H2=>tb { D with nx:=Pv (i + 1),ct:=Pv (i + 1),bk:=D.nx } σ2 H2) (hd: ∀ σ H,Pv n σ H->D.nx σ H):
  ∃ W:Nat->Nat->St->Hp->Prop,(∃ m,W 0 m σ H)/\ ∀ i m σ H,W i m σ H->
   ((Itr lo n).stop i H/\D.nx σ H)\/((Itr lo n).go i H/\ ∃ N:St->Hp->Prop,(∀ σ' H',N σ' H'-> ∃ m',m' < m/\W (i + 1) m' σ' H')/\ ∀ x H',(Itr lo n).yld i H x H'->g x σ H' fun σ2 H2=>tb { D with nx:=N,ct:=N,bk:=D.nx } σ2 H2):=by
 refine ⟨fun i m σ H=>m=n - i/\i<=n/\Pv i σ H,⟨n,by simp,Nat.zero_le _,h0⟩,?_⟩
 rintro i m σ H ⟨rfl,hi,p⟩
 by_cases hlt:i < n
 ·refine .inr ⟨hlt,Pv (i + 1),fun σ' H' p'=>⟨n - (i + 1),by omega,rfl,hlt,p'⟩,fun x H' y=> ?_⟩
  obtain ⟨e,y⟩:=y
  subst e y
  exact hs i σ _ hlt p
 ·have e:i=n:=by omega
  subst e
  exact .inl ⟨Nat.le_refl _,hd σ H p⟩
end L2
namespace L2
open PySem PySem.Spec PyProof.Rows
noncomputable abbrev R2:=V->V->Hp->VK->Prop
noncomputable def OpR (X:Cx) (f:Value->Value->Sem Value) (r:R2):Prop:=
 ∀ (pins:List (Addr × Obj)) (s:Shared) (σ:St) (H:Hp) (x y:V) (v u:Value) (Q:VK),Inv X pins σ H s->ZV x v->ZV y u->r x y H Q->
  wpAny (model X.prog X.w) X.A (f v u) (EP X pins σ Q) X.xe s
noncomputable def UnR (X:Cx) (f:Value->Sem Value) (r:V->Hp->VK->Prop):Prop:=
 ∀ (pins:List (Addr × Obj)) (s:Shared) (σ:St) (H:Hp) (x:V) (v:Value) (Q:VK),Inv X pins σ H s->ZV x v->r x H Q->
  wpAny (model X.prog X.w) X.A (f v) (EP X pins σ Q) X.xe s
noncomputable def Zco (X:Cx) (f:Value) (r:List V->Hp->VK->Prop):Prop:=
 ∀ (pins:List (Addr × Obj)) (s:Shared) (σ:St) (H:Hp) (xs:List V) (us:List Value) (Q:VK),Inv X pins σ H s->ZX xs us->r xs H Q->
  wpAny (model X.prog X.w) X.A (call f us) (EP X pins σ Q) X.xe s
noncomputable def tOp (r:R2) (ta tb:TE):TE:=fun σ H Q=>ta σ H fun x H1=>tb σ H1 fun y H2=>r x y H2 Q
noncomputable def tUn (r:V->Hp->VK->Prop) (ta:TE):TE:=fun σ H Q=>ta σ H fun x H1=>r x H1 Q
noncomputable def rI (C:Int->Int->Prop) (g:Int->Int->V):R2:=fun x y H Q=> ∃ i j,x= .int i/\y= .int j/\C i j/\Q (g i j) H
noncomputable def rI0 (g:Int->Int->V):R2:=fun x y H Q=> ∃ i j,x= .int i/\y= .int j/\Q (g i j) H
noncomputable def rU (g:Int->V):V->Hp->VK->Prop:=fun x H Q=> ∃ i,x= .int i/\Q (g i) H
section
variable {X:Cx} {a b c:Expr} {ta tb tc:TE} {pos:Pos}
theorem Zq8 (ha:PE X a ta) (hb:PE X b tb) {pins:List (Addr × Obj)} {s:Shared} {σ:St} {H:Hp} {R:V->V->Hp->Prop} (I:Inv X pins σ H s)
  (h:ta σ H fun x H1=>tb σ H1 fun y H2=>R x y H2) {Q:Value->Shared->Prop} {f:Value->Value->Sem Value}
  (hf: ∀ v u s2 x y H2,Inv X pins σ H2 s2->ZV x v->ZV y u->R x y H2->wpAny (model X.prog X.w) X.A (f v u) Q X.xe s2):
  wpAny (model X.prog X.w) X.A (eval a X.env) (fun v s₁=>wpAny (model X.prog X.w) X.A (eval b X.env) (fun u s₂=>wpAny (model X.prog X.w) X.A (f v u) Q X.xe s₂) X.xe s₁) X.xe s:=by
 refine thn (ha pins s σ H _ I h) fun v s1 ⟨x,H1,I1,r1,q1⟩=> ?_
 refine thn (hb pins s1 σ H1 _ I1 q1) fun u s2 ⟨y,H2,I2,r2,q2⟩=> ?_
 exact hf v u s2 x y H2 I2 r1 r2 q2
theorem Zq9 {op:Operator} {r:R2} (ho:OpR X (binaryOp op) r) (ha:PE X a ta) (hb:PE X b tb):PE X (.BinOp a op b pos) (tOp r ta tb):=by
 intro pins s σ H Q I h
 exact wpAny_BinOp (Zq8 ha hb I h fun v u s2 x y H2 I2 rx ry q=>ho pins s2 σ H2 x y v u Q I2 rx ry q)
theorem ZnR {op:UnaryOp} {r:V->Hp->VK->Prop} (ho:UnR X (unaryOp op) r) (ha:PE X a ta):PE X (.UnaryOp op a pos) (tUn r ta):=by
 intro pins s σ H Q I h
 exact UnaryOp_ (thn (ha pins s σ H _ I h) fun v s1 ⟨x,H1,I1,r1,q1⟩=>ho pins s1 σ H1 x v Q I1 r1 q1)
theorem opI {f:Value->Value->Sem Value} {C:Int->Int->Prop} {g:Int->Int->Int}
  (rule: ∀ (i j:Int) (t u:Tok) (s:Shared) (Q:Value->Shared->Prop) (E:Value->Shared->Prop),C i j->Q (.int (g i j) s.toks) { s with toks:=s.toks + 1 }->wpAny (model X.prog X.w) X.A (f (.int i t) (.int j u)) Q E s):
  OpR X f (rI C fun i j=> .int (g i j)):=by
 intro pins s σ H x y v u Q I rx ry h
 obtain ⟨i,j,rfl,rfl,hc,q⟩:=h
 obtain ⟨t,rfl⟩:=rx
 obtain ⟨t',rfl⟩:=ry
 exact rule i j t t' s _ _ hc ⟨.int (g i j),H,I.tok _,⟨_,rfl⟩,q⟩
theorem Ztl {f:Value->Value->Sem Value} {g:Int->Int->Int}
  (rule: ∀ (i j:Int) (t u:Tok) (s:Shared) (Q:Value->Shared->Prop) (E:Value->Shared->Prop),Q (.int (g i j) s.toks) { s with toks:=s.toks + 1 }->wpAny (model X.prog X.w) X.A (f (.int i t) (.int j u)) Q E s):
  OpR X f (rI0 fun i j=> .int (g i j)):=by
 intro pins s σ H x y v u Q I rx ry h
 obtain ⟨i,j,rfl,rfl,q⟩:=h
 obtain ⟨t,rfl⟩:=rx
 obtain ⟨t',rfl⟩:=ry
 exact rule i j t t' s _ _ ⟨.int (g i j),H,I.tok _,⟨_,rfl⟩,q⟩
theorem ZqQ {f:Value->Value->Sem Value} {g:Int->Int->Bool}
  (rule: ∀ (i j:Int) (t u:Tok) (s:Shared) (Q:Value->Shared->Prop) (E:Value->Shared->Prop),Q (.bool (g i j)) s->wpAny (model X.prog X.w) X.A (f (.int i t) (.int j u)) Q E s):
  OpR X f (rI0 fun i j=> .bl (g i j)):=by
 intro pins s σ H x y v u Q I rx ry h
 obtain ⟨i,j,rfl,rfl,q⟩:=h
 obtain ⟨t,rfl⟩:=rx
 obtain ⟨t',rfl⟩:=ry
 exact rule i j t t' s _ _ ⟨.bl (g i j),H,I,rfl,q⟩
noncomputable def Ztm (i j:Int):Prop:=0<=j/\j<=1000000/\i.natAbs < 2 ^ 64
theorem ZnS:OpR X (binaryOp .Add) (rI0 fun i j=> .int (i + j)):=Ztl fun _ _ _ _ _ _ _ q=>add_int q
theorem ZnT:OpR X (binaryOp .Sub) (rI0 fun i j=> .int (i - j)):=Ztl fun _ _ _ _ _ _ _ q=>sub_int q
theorem ZlG:OpR X (binaryOp .Mod) (rI (fun _ j=>j≠0) fun i j=> .int (i.fmod j)):=opI fun _ _ _ _ _ _ _ hc q=>mod_int' hc q
theorem ZnU:OpR X (binaryOp .Pow) (rI Ztm fun i j=> .int (i ^ j.toNat)):=opI fun _ _ _ _ _ _ _ hc q=>pow_int_small hc.1 hc.2.1 hc.2.2 q
theorem unI {f:Value->Sem Value} {g:Int->Int}
  (rule: ∀ (i:Int) (t:Tok) (s:Shared) (Q:Value->Shared->Prop) (E:Value->Shared->Prop),Q (.int (g i) s.toks) { s with toks:=s.toks + 1 }->wpAny (model X.prog X.w) X.A (f (.int i t)) Q E s):
  UnR X f (rU fun i=> .int (g i)):=by
 intro pins s σ H x v Q I rx h
 obtain ⟨i,rfl,q⟩:=h
 obtain ⟨t,rfl⟩:=rx
 exact rule i t s _ _ ⟨.int (g i),H,I.tok _,⟨_,rfl⟩,q⟩
theorem ZkK:UnR X (unaryOp .USub) (rU fun i=> .int (-i)):=unI fun _ _ _ _ _ q=>neg_int q
end
section
variable {X:Cx} {a b c:Expr} {ta tb tc:TE} {pos:Pos}
theorem ZlH:OpR X (compareOp .Lt) (rI0 fun i j=> .bl (decide (i < j))):=ZqQ fun _ _ _ _ _ _ _ q=>lt_int q
theorem ZnV:OpR X (compareOp .LtE) (rI0 fun i j=> .bl (decide (i<=j))):=ZqQ fun _ _ _ _ _ _ _ q=>le_int q
theorem Zd0:OpR X (compareOp .Gt) (rI0 fun i j=> .bl (decide (j < i))):=ZqQ fun _ _ _ _ _ _ _ q=>gt_int q
theorem Zra:OpR X (compareOp .GtE) (rI0 fun i j=> .bl (decide (j<=i))):=ZqQ fun _ _ _ _ _ _ _ q=>ge_int q
theorem OpR.or {f:Value->Value->Sem Value} {r r':R2} (h:OpR X f r) (h':OpR X f r'):OpR X f (fun x y H Q=>r x y H Q\/r' x y H Q):=by
 intro pins s σ H x y v u Q I rx ry q
 rcases q with q | q
 ·exact h pins s σ H x y v u Q I rx ry q
 ·exact h' pins s σ H x y v u Q I rx ry q
theorem ZkL (b:Expr) {op:CmpOp} (h:op≠ .In:=by decide) (h2:op≠ .NotIn:=by decide):behindInMarks op b=false:=by
 have e1:(op == CmpOp.In)=false:=by cases op<;>first | rfl | exact absurd rfl h
 have e2:(op == CmpOp.NotIn)=false:=by cases op<;>first | rfl | exact absurd rfl h2
 cases b<;>simp[behindInMarks,e1,e2]
theorem ZlI {op:CmpOp} {r:R2} (ho:OpR X (compareOp op) r) (ha:PE X a ta) (hb:PE X b tb) (hm:behindInMarks op b=false):PE X (.Compare a [op] [b] pos) (tOp r ta tb):=by
 intro pins s σ H Q I h
 exact wpAny_Compare1 (Zq8 ha hb I h fun v u s2 x y H2 I2 rx ry q=>ho pins s2 σ H2 x y v u Q I2 rx ry q) hm
noncomputable def ZnW (t:TE):TT:=fun σ H Q=>t σ H fun x H'=> ∃ k,x= .bl k/\Q k H'
theorem ZlJ {op:CmpOp} {r:R2} (ho:OpR X (compareOp op) r) (ha:PE X a ta) (hb:PE X b tb) (hm:behindInMarks op b=false):PT X (.Compare a [op] [b] pos) (ZnW (tOp r ta tb)):=by
 intro pins s σ H Q I h
 refine wpAny_isTrue_Compare1 (thn (ha pins s σ H _ I h) fun v s1 ⟨x,H1,I1,r1,q1⟩=>thn (hb pins s1 σ H1 _ I1 q1) fun u s2 ⟨y,H2,I2,r2,q2⟩=>
  thn (ho pins s2 σ H2 x y v u _ I2 r1 r2 q2) fun c s3 ⟨z,H3,I3,r3,k,e,q3⟩=> ?_) hm
 subst e
 cases r3
 exact wpAny_truthy_bool ⟨H3,I3,q3⟩
theorem Zgf:(sizeLine:Nat) < 2 ^ 63:=by rw[sizeLine_eq];decide
theorem ZgQ:OpR X (binaryOp .Add) (fun x y H Q=> ∃ i j,x= .str i/\y= .str j/\i.length + j.length<=sizeLine/\Q (.str (i ++ j)) H):=by
 intro pins s σ H x y v u Q I rx ry h
 obtain ⟨i,j,rfl,rfl,hz,q⟩:=h
 obtain ⟨t,rfl⟩:=rx
 obtain ⟨t',rfl⟩:=ry
 exact add_str (fun t' tk=>⟨.str (i ++ j),H,I.tok _,⟨_,rfl⟩,q⟩) hz
theorem ZcV {x:V} {us:List Value} (r:ZX [x] us): ∃ u,us=[u]/\ZV x u:=by
 cases r with
 |cons r1 r2=>cases r2;exact ⟨_,rfl,r1⟩
theorem ZjH {x y:V} {us:List Value} (r:ZX [x,y] us): ∃ u w',us=[u,w']/\ZV x u/\ZV y w':=by
 cases r with
 |cons r1 r2=>
  cases r2 with
  |cons r3 r4=>cases r4;exact ⟨_,_,rfl,r1,r3⟩
theorem Zbn:Zco X (.builtin "abs") (fun xs H Q=> ∃ i,xs=[.int i]/\Q (.int (if i < 0 then -i else i)) H):=by
 intro pins s σ H xs us Q I r h
 obtain ⟨i,rfl,q⟩:=h
 obtain ⟨u,rfl,t,rfl⟩:=ZcV r
 exact call_abs_int fun u tk=>⟨.int (if i < 0 then -i else i),H,I.tok _,⟨_,rfl⟩,q⟩
theorem ZcW (hc:X.calm=true):Zco X (.builtin "max") (fun xs H Q=> ∃ i j,xs=[.int i,.int j]/\Q (.int (if j > i then j else i)) H):=by
 intro pins s σ H xs us Q I r h
 obtain ⟨i,j,rfl,q⟩:=h
 obtain ⟨u,w',rfl,⟨t,rfl⟩,⟨t',rfl⟩⟩:=ZjH r
 refine max_two_ints (I.ok.hd hc) fun h' tk k=>⟨_,H,I.kept k,?_,q⟩
 by_cases hj:j > i
 ·rw[if_pos hj,if_pos hj];exact ⟨_,rfl⟩
 ·rw[if_neg hj,if_neg hj];exact ⟨_,rfl⟩
theorem ZhF (hc:X.calm=true):Zco X (.builtin "min") (fun xs H Q=> ∃ i j,xs=[.int i,.int j]/\Q (.int (if j < i then j else i)) H):=by
 intro pins s σ H xs us Q I r h
 obtain ⟨i,j,rfl,q⟩:=h
 obtain ⟨u,w',rfl,⟨t,rfl⟩,⟨t',rfl⟩⟩:=ZjH r
 refine min_two_ints (I.ok.hd hc) fun h' tk k=>⟨_,H,I.kept k,?_,q⟩
 by_cases hj:j < i
 ·rw[if_pos hj,if_pos hj];exact ⟨_,rfl⟩
 ·rw[if_neg hj,if_neg hj];exact ⟨_,rfl⟩
theorem Zbb:Zco X (.type "int") (fun xs H Q=>(∃ i,xs=[.int i]/\Q (.int i) H)\/ ∃ k,xs=[.bl k]/\Q (.int (if k then 1 else 0)) H):=by
 intro pins s σ H xs us Q I r h
 rcases h with ⟨i,rfl,q⟩ | ⟨k,rfl,q⟩
 ·obtain ⟨u,rfl,t,rfl⟩:=ZcV r
  exact call_int_int ⟨.int i,H,I,⟨_,rfl⟩,q⟩
 ·obtain ⟨u,rfl,r1⟩:=ZcV r
  cases r1
  exact call_int_bool ⟨.int (if k then 1 else 0),H,I.tok _,⟨_,rfl⟩,q⟩
end
end L2
namespace L2
open PySem PySem.Spec PyProof.Rows
section
variable {prog:Program} {w:World} {A:Around} {E:Value->Shared->Prop} {s:Shared} {K:PySem.W.Frag} {x dx C f:Addr} {mA:Str->Option Value} {name:Str} {v:Value}
end
section
variable {P:Program} {w:World} {H H':Hp} {h h':Heap} {a C dx:Addr} {fs fs':List (Str × V)}
end
section
variable {X:Cx} {pins:List (Addr × Obj)} {σ:St} {H:Hp} {s:Shared} {a C dx:Addr} {fs:List (Str × V)} {f:Str} {v:V} {A:Around} {E:Value->Shared->Prop}
end
section
variable {X:Cx} {o e value:Expr} {f:Str} {pos pos' tpos:Pos} {ta tv:TE}
end
section
variable {X:Cx} {pins:List (Addr × Obj)} {σ:St} {H:Hp} {s:Shared} {A:Around} {E:Value->Shared->Prop} {Q:Value->Shared->Prop} {c:Value} {b:Bool}
end
end L2
namespace L2
open PySem PySem.Spec PyProof.Rows
structure Room (k:Nat) (A:Around):Prop where
 hd:100<=k->A.handled=none
 dp:A.depth + 3 * k + 5 < recursionLimit
 un:A.units + 16 * k + 200 < cLine
theorem Room.mono {j k:Nat} {A:Around} (r:Room k A) (h:j<=k):Room j A:=⟨fun z=>r.hd (Nat.le_trans z h),by have:=r.dp;omega,by have:=r.un;omega⟩
theorem Room.deeper {k:Nat} {A:Around} (r:Room (k + 1) A) (env:Env):Room k (A.deeper env):=
 ⟨fun z=>r.hd (Nat.le_succ_of_le z),by have:=r.dp;show A.depth + 1 + 3 * k + 5 < _;omega,by have:=r.un;show A.units + 3 + 16 * k + 200 < _;omega⟩
theorem Room.depth {k:Nat} {A:Around} (r:Room k A):A.depth < recursionLimit:=by have:=r.dp;omega
theorem Room.units {k:Nat} {A:Around} (r:Room k A):A.units + 64 < cLine:=by have:=r.un;omega
noncomputable def tNil:TA:=fun _ H Q=>Q [] H
noncomputable def Zrb (ta:TE) (tr:TA):TA:=fun σ H Q=>ta σ H fun x H1=>tr σ H1 fun xs H2=>Q (x :: xs) H2
section
variable {X:Cx} {e:Expr} {es:List Expr} {te:TE} {t:TA} {pos:Pos}
theorem ZkM:PA X [] tNil:=fun _ _ _ _ H Q I h=>Calls.spliced_nil ⟨[],H,I,.nil,h⟩
theorem Zfx (ha:PE X e te) (hr:PA X es t) (hs:starEach (e :: es) X.env=(false,eval e X.env) :: starEach es X.env:=by rfl):PA X (e :: es) (Zrb te t):=by
 intro pos pins s σ H Q I h
 rw[hs]
 show wpAny _ _ (spliced ((false,eval e X.env) :: backTo pos (starEach es X.env))) _ _ s
 refine Calls.spliced_cons (thn (ha pins s σ H _ I h) fun u s1 ⟨x,H1,I1,r1,q1⟩=> ?_)
 exact thn (hr pos pins s1 σ H1 _ I1 q1) fun us s2 ⟨xs,H2,I2,r2,q2⟩=>⟨x :: xs,H2,I2,.cons r1 r2,q2⟩
noncomputable def Zuw (t:TA):TE:=fun σ H Q=>t σ H fun xs H1=>xs.length<=sizeLine/\ ∀ p,H1 p=none->Q (.ref p) (upd H1 p (.tup xs))
noncomputable def Zux (t:TA):TE:=fun σ H Q=>t σ H fun xs H1=>xs.length<=sizeLine/\ ∀ p,H1 p=none->Q (.ref p) (upd H1 p (.lst xs))
theorem ZnX {x1} (h:PA X es t):PE X (.Tuple es x1 pos) (Zuw t):=by
 intro pins s σ H Q I hq
 refine wpAny_Tuple_spliced (thn (h pos pins s σ H _ I hq) fun us s1 ⟨xs,H1,I1,r,z,q⟩=>⟨by rw[<- r.length];exact z,?_⟩)
 have hf:H1 s1.heap.objs.size=none:=I1.hok.fresh (Nat.le_refl _)
 refine ⟨.ref s1.heap.objs.size,upd H1 s1.heap.objs.size (.tup xs),I1.laid (t':=s1.toks) (fun b u e=>Heap.get?_push_of_some _ e) (Nat.le_refl _) ?_,rfl,q _ hf⟩
 exact ⟨z,us,r,⟨_,Heap.get?_push_size _ rfl,rfl,_,rfl⟩⟩
theorem ZnY (h:PA X es t):PE X (.List es pos) (Zux t):=by
 intro pins s σ H Q I hq
 refine wpAny_List_spliced (thn (h pos pins s σ H _ I hq) fun us s1 ⟨xs,H1,I1,r,z,q⟩=>⟨by rw[<- r.length];exact z,?_⟩)
 have hf:H1 s1.heap.objs.size=none:=I1.hok.fresh (Nat.le_refl _)
 refine ⟨.ref s1.heap.objs.size,upd H1 s1.heap.objs.size (.lst xs),I1.laid (t':=s1.toks) (fun b u e=>Heap.get?_push_of_some _ e) (Nat.le_refl _) ?_,rfl,q _ hf⟩
 exact ⟨z,us,0,r,Heap.get?_push_size _ rfl⟩
end
noncomputable abbrev Sp:=List V->Hp->VK->XK->Prop
noncomputable abbrev CXT:=List Env->Hp->Shared->XK->Value->Shared->Prop
structure Env0 (P:Program) (w:World) (K:PySem.W.Frag) (mg:Str->Option Value) (base:Heap) (A:Around) (outer:List Env) (s:Shared) (H:Hp):Prop where
 frames:A.frames=some outer
 mod:Mod K mg base
 bs: ∀ b o,base.get? b=some o->s.heap.get? b=some o/\H b=none
 bsz:base.objs.size<=s.heap.objs.size
 funs:s.heap.FunFrames base outer
 frf: ∀ b∈frs outer,H b=none
 hok:HOk P w H s.heap
 bare:AllBare s.gens
 qd:Qd A H
noncomputable def CE (outer:List Env) (P:Program) (w:World) (H:Hp) (s:Shared) (Q:VK) (u:Value) (s':Shared):Prop:=
 ∃ v H',s'.os=s.os/\AllBare s'.gens/\Un (frs outer) [] H H' s.heap s'.heap/\HOk P w H' s'.heap/\ZV v u/\Q v H'
noncomputable def CR (CX:CXT) (outer:List Env) (P:Program) (w:World) (H:Hp) (s:Shared) (Q:VK) (E:XK) (r:Result) (s':Shared):Prop:=
 match r with
 | .ok (.ret u)=>CE outer P w H s Q u s'
 | .ok _=>False
 | .error e=>CX outer H s E e s'
structure FnOk (P:Program) (w:World) (K:PySem.W.Frag) (mg:Str->Option Value) (base:Heap) (CX:CXT) (k:Nat) (f:Addr) (fd:FuncData) (ps:List Str) (sp:Sp):Prop where
 len: ∀ vs H Q E,sp vs H Q E->vs.length=ps.length
 run: ∀ (A:Around) (outer:List Env) (s:Shared) (H:Hp) (args:Args) (us:List Value) (vs:List V) (Q:VK) (E:XK),Room k A->Env0 P w K mg base A outer s H->BindsTo s fd args (ps.zip us)->ZX vs us->sp vs H Q E->
  codeAny (model P w) A (.call (.ref f) args) (CR CX outer P w H s Q E) s
section
variable {X:Cx} {pins:List (Addr × Obj)} {σ:St} {H:Hp} {s s':Shared}
theorem Inv.env0 (I:Inv X pins σ H s):Env0 X.prog X.w X.K X.mg X.base X.A X.stack s H:=
 ⟨I.ok.frames,I.ok.mod,I.bs,Nat.le_trans I.ok.bsz I.sz,I.stack,I.stkFree,I.hok,I.bare,I.qd⟩
theorem Inv.after {Q:VK} {u:Value} (I:Inv X pins σ H s) (h:CE X.stack X.prog X.w H s Q u s'):EP X pins σ Q u s':=by
 obtain ⟨v,H',os,bare,un,hok,r,q⟩:=h
 obtain ⟨hh,g,d,t,os'⟩:=s'
 obtain rfl:os'=s.os:=os
 exact ⟨v,H',I.call (h':=hh) (g':=g) (d':=d) (t':=t) (ch:=[]) un hok bare (fun b z=>absurd z (by simp)),r,q⟩
end
noncomputable def Zrc (sp:Sp) (dvs:List V) (E:XK) (t:TA):TE:=fun σ H Q=>t σ H fun vs H1=>sp (vs ++ dvs) H1 Q E
noncomputable def Zfy (K:PySem.W.Frag) (fd:FuncData) (ps:List Str) (ds:List Value):Prop:=
 ∀ (s:Shared) (us:List Value),K.In s.heap->(us ++ ds).length=ps.length->BindsTo s fd ⟨us,[]⟩ (ps.zip (us ++ ds))
theorem Zfy.all {K:PySem.W.Frag} {fd:FuncData} {ps:List Str} (h: ∀ us:List Value,us.length=ps.length->bindArgs fd ⟨us,[]⟩=pure (ps.zip us)):Zfy K fd ps []:=fun s us _ hl=>by
 rw[List.append_nil] at hl ⊢
 exact .of_eq (h us hl)
noncomputable def ZhG (CX:CXT) (X:Cx) (E:XK):Prop:= ∀ (pins:List (Addr × Obj)) (σ:St) (H:Hp) (s:Shared) (e:Value) (s':Shared),Inv X pins σ H s->CX X.stack H s E e s'->X.xe e s'
section
variable {X:Cx} {CX:CXT} {k:Nat} {f C:Addr} {fd:FuncData} {ps:List Str} {sp:Sp} {dvs:List V} {ds:List Value} {E:XK} {x m:Str} {p pos apos:Pos} {e o:Expr} {es:List Expr} {ta:TE} {t:TA}
theorem ZnZ {pins:List (Addr × Obj)} {σ:St} {H:Hp} {s:Shared} {Q:VK} {us:List Value} {vs:List V} (F:FnOk X.prog X.w X.K X.mg X.base CX k f fd ps sp) (hr:Room k X.A) (hb:Zfy X.K fd ps ds) (hd:ZX dvs ds) (hx:ZhG CX X E)
  (I:Inv X pins σ H s) (r:ZX vs us) (h:sp (vs ++ dvs) H Q E):wpAny (model X.prog X.w) X.A (call (.ref f) us) (EP X pins σ Q) X.xe s:=by
 have r2:ZX (vs ++ dvs) (us ++ ds):=r.append hd
 have hl:(us ++ ds).length=ps.length:=by rw[<- r2.length];exact F.len _ _ _ _ h
 refine wpAny_call (codeAny_mono (F.run X.A X.stack s H ⟨us,[]⟩ (us ++ ds) (vs ++ dvs) Q E hr I.env0 (hb s us I.kIn hl) r2 h) fun r s' hq=> ?_)
 cases r with
 |error e=>exact hx pins σ H s e s' I hq
 |ok fl=>
  cases fl with
  |ret u=>exact I.after hq
  |next=>exact False.elim hq
  |brk=>exact False.elim hq
  |cont=>exact False.elim hq
theorem ZlK (F:FnOk X.prog X.w X.K X.mg X.base CX k f fd ps sp) (hr:Room k X.A) (hg:Gl X x) (hm:X.mg x=some (.ref f)) (hk:PySem.W.keepIn X.K (.ref f)=true) (hb:Zfy X.K fd ps ds) (hd:ZX dvs ds) (hx:ZhG CX X E)
  (ha:PA X (e :: es) t) (hdb:(x == ("__debug__":Str))=false:=by decide) (he:starEach (e :: es) X.env=(false,eval e X.env) :: starEach es X.env:=by rfl) (hpl:(backTo pos (starEach es X.env)).any (·.1)=false:=by rfl):
  PE X (.Call (.Name x p) (e :: es) [] pos) (Zrc sp dvs E t):=by
 intro pins s σ H Q I h
 refine wpAny_Call_Name_kw (ZhA I hg hm ?_ hdb)
 refine PySem.W.callWith_K (h₀:=X.base) I.ok.mod.kin hk (thn (ha pos pins s σ H _ I h) fun us s1 ⟨vs,H1,I1,r,q⟩=>⟨I1.kIn,?_⟩) he hpl
 exact ZnZ F hr hb hd hx I1 r q
end
section
variable {X:Cx} {CX:CXT} {k:Nat} {f C:Addr} {fd:FuncData} {ps ks:List Str} {sp:Sp} {E:XK} {x m:Str} {p pos apos kpos:Pos} {e o:Expr} {es:List Expr} {kws:List Keyword} {te ta:TE} {t tk:TA} {nm:Option Str}
variable {g:List Value->List Value->List Value} {gV:List V->List V->List V}
end
structure FnScope (N P:List Str) (sc:Scope):Prop where
 kind:sc.kind= .function
 co:sc.isCoroutine=false
 gen:sc.isGenerator=false
 nd:N.Nodup
 pre:N.take P.length=P
 par: ∀ x∈P,sc.names.lookup x=some .local\/sc.names.lookup x=some .cell
 nofree: ∀ y∈sc.names,y.2≠ .free
theorem ZeF {kindOf:Str->Option NameKind} {x:Str}: ∀ {binds:List (Str × Value)} {m:Str->Option Value},(∀ v,(x,v) ∉ binds)->bindL kindOf binds m x=m x
 | [],_,_=>rfl
 | (n,v) :: r,m,h=>by
  unfold bindL
  rw[ZeF fun w hw=>h w (List.mem_cons_of_mem _ hw)]
  split
  ·have:x≠n:=by rintro rfl;exact h v List.mem_cons_self
   simp[this]
  ·rfl
theorem ZeG {kindOf:Str->Option NameKind} {x:Str}: ∀ {binds:List (Str × Value)} {m:Str->Option Value},(∀ v,(x,v) ∉ binds)->bindC kindOf binds m x=m x
 | [],_,_=>rfl
 | (n,v) :: r,m,h=>by
  unfold bindC
  rw[ZeG fun w hw=>h w (List.mem_cons_of_mem _ hw)]
  split
  ·rfl
  ·have:x≠n:=by rintro rfl;exact h v List.mem_cons_self
   simp[this]
theorem ZeH {kindOf:Str->Option NameKind} {x:Str} {v:Value}: ∀ {P:List Str} {vs:List Value} {i:Nat} {m:Str->Option Value},P.Nodup->P[i]?=some x->vs[i]?=some v->kindOf x=some .local->
  bindL kindOf (P.zip vs) m x=some v
 | [],_,_,_,_,h,_,_=>by simp at h
 |_ :: _,[],_,_,_,_,h,_=>by simp at h
 |p :: P,w :: vs,0,m,nd,h1,h2,hk=>by
  simp at h1 h2;subst h1;subst h2
  show bindL kindOf ((p,w) :: P.zip vs) m p=_
  unfold bindL
  rw[ZeF fun v hv=>(List.nodup_cons.mp nd).1 (List.of_mem_zip hv).1,if_pos hk]
  simp
 |p :: P,w :: vs,i + 1,m,nd,h1,h2,hk=>by
  show bindL kindOf ((p,w) :: P.zip vs) m x=_
  unfold bindL
  exact ZeH (i:=i) (List.nodup_cons.mp nd).2 (by simpa using h1) (by simpa using h2) hk
theorem ZeI {kindOf:Str->Option NameKind} {x:Str} {v:Value}: ∀ {P:List Str} {vs:List Value} {i:Nat} {m:Str->Option Value},P.Nodup->P[i]?=some x->vs[i]?=some v->kindOf x≠some .local->
  bindC kindOf (P.zip vs) m x=some v
 | [],_,_,_,_,h,_,_=>by simp at h
 |_ :: _,[],_,_,_,_,h,_=>by simp at h
 |p :: P,w :: vs,0,m,nd,h1,h2,hk=>by
  simp at h1 h2;subst h1;subst h2
  show bindC kindOf ((p,w) :: P.zip vs) m p=_
  unfold bindC
  rw[ZeG fun v hv=>(List.nodup_cons.mp nd).1 (List.of_mem_zip hv).1,if_neg hk]
  simp
 |p :: P,w :: vs,i + 1,m,nd,h1,h2,hk=>by
  show bindC kindOf ((p,w) :: P.zip vs) m x=_
  unfold bindC
  exact ZeI (i:=i) (List.nodup_cons.mp nd).2 (by simpa using h1) (by simpa using h2) hk
noncomputable def start (N:List Str) (vs:List V):St:=vs.map some ++ List.replicate (N.length - vs.length) none
noncomputable def Zft (CX:CXT) (P:Program) (w:World) (K:PySem.W.Frag) (mg:Str->Option Value) (base:Heap) (N:List Str) (qual:Str) (scope:Scope) (f:Addr) (cd:Value) (A:Around) (outer:List Env) (s:Shared) (H:Hp) (E:XK):Cx where
 prog:=P
 w:=w
 K:=K
 mg:=mg
 base:=base
 A:=A.deeper (envOfC qual scope s.heap.objs.size f cd)
 N:=N
 s₀:=s
 H₀:=H
 env:=envOfC qual scope s.heap.objs.size f cd
 outer:=outer
 stack:=envOfC qual scope s.heap.objs.size f cd :: outer
 ex:=[]
 calm:=A.handled.isNone
 fn:=fun _=>true
 pn:=[]
 xe:=fun e s'=>wpAny (model P w) (A.deeper (envOfC qual scope s.heap.objs.size f cd)) (leaving (envOfC qual scope s.heap.objs.size f cd) e) (fun _ s''=>CX outer H s E e s'') (fun e' s''=>CX outer H s E e' s'') s'
theorem Zgg {sc:Scope} {n:Nat} {x:Str} (h:sc.names.lookup x=some .cell): ∃ c,(cellsFrom n sc.names []).lookup x=some c:=by
 have q:=PySem.W.cellsFrom_some sc.names n [] (.inl h)
 exact Option.isSome_iff_exists.mp q
theorem ZhH {CX:CXT} {P:Program} {w:World} {K:PySem.W.Frag} {mg:Str->Option Value} {base:Heap} {N ps:List Str} {qual:Str} {scope:Scope} {f:Addr} {cd:Value} {A:Around} {outer:List Env} {s s1:Shared} {H:Hp} {E:XK} {us:List Value} {vs:List V}
  (S:FnScope N ps scope) (e0:Env0 P w K mg base A outer s H) (hl:vs.length=ps.length) (r:ZX vs us)
  (x:InCallC s s.heap.objs.size (bindL (envOfC qual scope s.heap.objs.size f cd).kindOf (ps.zip us) fun _=>none) (cellsFrom (s.heap.objs.size + 1) scope.names []) (bindC (envOfC qual scope s.heap.objs.size f cd).kindOf (ps.zip us) fun _=>none) s1):
  Inv (Zft CX P w K mg base N qual scope f cd A outer s H E) [] (start N vs) H s1:=by
 have hpl:ps.length<=N.length:=by have:=congrArg List.length S.pre;rw[List.length_take] at this;omega
 obtain ⟨h1,tk,rfl,hk⟩:=x.done
 have noA: ∀ b:Addr,b ∉ (Zft CX P w K mg base N qual scope f cd A outer s H E).ex:=fun b z=>absurd (show b∈([]:List Addr) from z) (by simp)
 refine ⟨⟨e0.mod,S.kind,rfl,rfl,Nat.le_refl _,fun y z c h1 h2=> ?_,fun y hy=> ?_,fun y c _ h=> ?_,fun z=>Option.isNone_iff_eq_none.mp z,Around.frames_deeper e0.frames,.inr ⟨rfl,rfl⟩,fun b z=>absurd z (noA b),e0.bs,e0.bsz,fun b _ _=>noA b,fun b z=>absurd z (noA b),e0.funs,e0.frf⟩,
  rfl,e0.bare,Un.kept hk,⟨_,x.toInCall.ns,fun i y v h1 h2 h3=> ?_⟩,fun y c h=>⟨_,x.cell y c h⟩,e0.hok.fresh (Nat.le_refl _),fun y c h=> ?_,fun p hp=>absurd (show p∈([]:List (Addr × Obj)) from hp) (by simp),e0.hok.kept hk,?_,e0.qd⟩
 ·exact name_of_addr x.apart (PySem.mem_of_lookup h1) (PySem.mem_of_lookup h2)
 ·have hy:scope.names.lookup y=some .cell\/scope.names.lookup y=some .free:=hy
  rcases hy with hy | hy
  ·exact Zgg hy
  ·exact absurd rfl (S.nofree _ (PySem.mem_of_lookup hy))
 ·exact Nat.le_of_lt (x.above y c (PySem.mem_of_lookup h))
 ·have hi:i < vs.length:=by
   unfold start at h2
   by_cases hi:i < vs.length
   ·exact hi
   ·rw[List.getElem?_append_right (by simpa using hi)] at h2
    rw[List.getElem?_replicate] at h2
    split at h2<;>cases h2
  have ha:vs[i]?=some v:=by
   unfold start at h2
   rw[List.getElem?_append_left (by simpa using hi),List.getElem?_map] at h2
   cases e:vs[i]? with
   |none=>rw[e] at h2;cases h2
   |some a=>rw[e] at h2;cases h2;rfl
  obtain ⟨u,hu,rv⟩:=r.get ha
  have hp:ps[i]?=some y:=by
   rw[<- S.pre,List.getElem?_take_of_lt (by omega)];exact h1
  have ndP:ps.Nodup:=by rw[<- S.pre];exact S.nd.sublist (List.take_sublist _ _)
  refine ⟨u,rv,?_⟩
  rcases S.par y (List.mem_of_getElem? hp) with k | k
  ·exact .inl ⟨k,ZeH ndP hp hu k⟩
  ·obtain ⟨c,e⟩:=Zgg (n:=s.heap.objs.size + 1) k
   refine .inr ⟨.inl k,c,e,?_⟩
   have q:=x.cell y c e
   rw[ZeI ndP hp hu (by show scope.names.lookup y≠_;rw[k];decide)] at q
   exact q
 ·exact e0.hok.fresh (Nat.le_of_lt (x.above y c (PySem.mem_of_lookup h)))
 ·unfold start
  show _=N.length
  rw[List.length_append,List.length_map,List.length_replicate]
  omega
theorem Zrd {CX:CXT} {P:Program} {w:World} {K:PySem.W.Frag} {mg:Str->Option Value} {base:Heap} {k:Nat} {f:Addr} {name qual:Str} {params:Arguments} {body:List Stmt} {scope:Scope} {dV kV doc pm cdv ct oc:Value} {an od:Option Addr}
  {osl:Array (Option Value)} {N ps:List Str} {sp:Sp} (lk:K.lookup f=some ⟨oc,od,.func (PySem.W.fnOf name qual params body scope dV kV doc pm an cdv ct),osl⟩) (hcd:PySem.W.codeIn K cdv qual=true) (S:FnScope N ps scope)
  (len: ∀ vs H Q E,sp vs H Q E->vs.length=ps.length)
  (hbody: ∀ (A:Around) (outer:List Env) (s:Shared) (H:Hp) (vs:List V) (Q:VK) (E:XK),Room k (A.deeper (envOfC qual scope s.heap.objs.size f cdv))->sp vs H Q E->
   ∃ t,PSs (Zft CX P w K mg base N qual scope f cdv A outer s H E) body t/\t { nx:=fun _ H'=>Q .non H',rt:=Q } (start N vs) H):
  FnOk P w K mg base CX (k + 1) f (PySem.W.fnOf name qual params body scope dV kV doc pm an cdv ct) ps sp:=by
 refine ⟨len,fun A outer s H args us vs Q E hr e0 hb r hsp=> ?_⟩
 have hl:=len _ _ _ _ hsp
 have KX:K.In s.heap:=e0.mod.kin.keeps fun b o e=>(e0.bs b o e).1
 have lim:s.heap.NoLimit:=e0.mod.nolimit.keeps fun b o e=>(e0.bs b o e).1
 have hkind: ∀ y∈ps.zip us,scope.names.lookup y.1=some .local\/(scope.names.lookup y.1=some .cell/\((cellsFrom (s.heap.objs.size + 1) scope.names []).lookup y.1).isSome=true):=fun ⟨n,v⟩ hy=>by
  rcases S.par n (List.of_mem_zip hy).1 with q | q
  ·exact .inl q
  ·exact .inr ⟨q,PySem.W.cellsFrom_some _ _ _ (.inl q)⟩
 refine codeAny_call_function hr.depth (KX _ _ lk) rfl S.co S.gen rfl (PySem.W.codeRec_of KX hcd) (hb _ _ _ _ ?_)
 refine wpAny_newFunctionEnv_cells S.kind hkind fun env he s1 x=> ?_
 subst he
 refine ⟨lim.keeps x.toInCall.keep,codeAny_func ?_⟩
 obtain ⟨t,ht,hq⟩:=hbody A outer s H vs Q E (hr.deeper _) hsp
 have I:Inv (Zft CX P w K mg base N qual scope f cdv A outer s H E) [] (start N vs) H s1:=ZhH S e0 hl r x
 refine wpAny_mono (ht [] s1 (start N vs) H _ I hq) (fun fl s' hs=> ?_) fun e s' hs=>hs
 have fin: ∀ {σ':St} {H':Hp} {v:V} {u:Value},Inv (Zft CX P w K mg base N qual scope f cdv A outer s H E) [] σ' H' s'->ZV v u->Q v H'->CE outer P w H s Q u s':=
  fun {σ' H' v u} J rv q=>⟨v,H',J.os,J.bare,J.base,J.hok,rv,q⟩
 cases fl with
 |ret u=>
  obtain ⟨v,σ',H',J,rv,q⟩:=hs
  exact fin J rv q
 |next=>
  obtain ⟨σ',H',J,q⟩:=hs
  exact fin (v:=V.non) (u:=Value.none) J rfl q
 |brk=>
  obtain ⟨_,_,_,q⟩:=hs
  exact False.elim q
 |cont=>
  obtain ⟨_,_,_,q⟩:=hs
  exact False.elim q
end L2
namespace L2
open PySem PySem.Spec PyProof.Rows
section
variable {X:Cx} {x:Str} {p pos:Pos} {e:Expr} {es:List Expr} {t:TA} {id T:String} {r:List V->Hp->VK->Prop}
noncomputable def tCB (r:List V->Hp->VK->Prop) (t:TA):TE:=fun σ H Q=>t σ H fun vs H1=>r vs H1 Q
theorem Zgh (hc:Zco X (.builtin id) r) (hg:Gl X x) (hm:X.mg x=none) (hv:bootBuiltins x=some (.builtin id)) (ha:PA X (e :: es) t) (hn:x≠"__name__":=by decide) (hdb:(x == ("__debug__":Str))=false:=by decide)
  (he:starEach (e :: es) X.env=(false,eval e X.env) :: starEach es X.env:=by rfl) (hpl:(backTo pos (starEach es X.env)).any (·.1)=false:=by rfl):PE X (.Call (.Name x p) (e :: es) [] pos) (tCB r t):=by
 intro pins s σ H Q I h
 refine wpAny_Call_Name_kw (Zb5 I hg hm hv ?_ hn hdb)
 exact PyProof.Rows.callWith_builtin1 (thn (ha pos pins s σ H _ I h) fun us s1 ⟨vs,H1,I1,r1,q1⟩=>hc pins s1 σ H1 vs us Q I1 r1 q1) he hpl
theorem ZhI (hc:Zco X (.type T) r) (hg:Gl X x) (hm:X.mg x=none) (hv:bootBuiltins x=some (.type T)) (ha:PA X (e :: es) t) (hn:x≠"__name__":=by decide) (hdb:(x == ("__debug__":Str))=false:=by decide)
  (he:starEach (e :: es) X.env=(false,eval e X.env) :: starEach es X.env:=by rfl) (hpl:(backTo pos (starEach es X.env)).any (·.1)=false:=by rfl):PE X (.Call (.Name x p) (e :: es) [] pos) (tCB r t):=by
 intro pins s σ H Q I h
 refine wpAny_Call_Name_kw (Zb5 I hg hm hv ?_ hn hdb)
 exact PyProof.Rows.callWith_type1 (thn (ha pos pins s σ H _ I h) fun us s1 ⟨vs,H1,I1,r1,q1⟩=>hc pins s1 σ H1 vs us Q I1 r1 q1) he hpl
end
end L2
namespace HT
open PySem PyProof.Rows
noncomputable def Zaa:List Int->List Int->Bool
 | [],[]=>false
 | [],_ :: _=>true
 |_ :: _,[]=>false
 |x :: xs,y :: ys=>if x=y then Zaa xs ys else decide (x < y)
theorem Z5 (x y:Int) (xs ys:List Int):Zaa (x :: xs) (y :: ys)=if x=y then Zaa xs ys else decide (x < y):=rfl
theorem Zb7:Zaa [] []=false:=rfl
theorem ZdI (y:Int) (ys:List Int):Zaa [] (y :: ys)=true:=rfl
theorem ZdJ (x:Int) (xs:List Int):Zaa (x :: xs) []=false:=rfl
theorem Zgi (A:Around) (s:Shared) (a:Int) (t:Tok) (c:Int) (u:Tok): ∃ e,SeqAt.EqAt A s (.int a t) (.int c u) e/\(e=true ↔ a=c):=
 ⟨(a == c),SeqAt.EqAt.int_int a t c u,by simp⟩
theorem Zgj (A:Around) (s:Shared) (a:Int) (t:Tok) (c:Int) (u:Tok) (prog:Program) (w:World) (E:Value->Shared->Prop) (Q:Value->Shared->Prop) (h:Q (.bool (decide (a < c))) s):
  wpAny (model prog w) A (richCompare .Lt (.int a t) (.int c u)) Q E s:=
 (PyProof.Rows.lt_int h:wpAny (model prog w) A (compareOp .Lt (.int a t) (.int c u)) Q E s)
section
open PySem.SeqAt
open PySem.AutoSeq1 (wpAny_loadPart')
open PySem.MeetsSeq PySem.MeetsSeq2 PySem.MeetsSeq3
theorem Zd1 (l b:Addr) (items items2:Array Value) (n n2:Nat) (dd dd2:Option Addr) (sl sl2:Array (Option Value)) (ns ms:List Int) (hi:IntsAre items.toList ns) (hj:IntsAre items2.toList ms):
  Meets (Builtin.«tuple.__lt__» ⟨[.ref l,.ref b],[]⟩)
   (fun _ R s=>s.heap.get? l=some { cls:= .type "tuple",dict:=dd,data:= .seq items n,slots:=sl }/\s.heap.get? b=some { cls:= .type "tuple",dict:=dd2,data:= .seq items2 n2,slots:=sl2 }/\
    R (.ok (.ret (.bool (Zaa ns ms)))) s):=
 .of_wp fun prog w A R s h=>by
  obtain ⟨hp,g,d,tk,os⟩:=s;obtain ⟨hl,hb,h⟩:=h
  have f2:=AutoSeq1.sub_tuple_tuple
  have z1:items.size=ns.length:=by rw[<- hi.length];simp
  have z2:items2.size=ms.length:=by rw[<- hj.length];simp
  wp_walk using wpAny_loadPart' hl,wpAny_loadPart' hb,wpAny_forIn_list _ (fun rest b s'=>b.1=none/\s'=⟨hp,g,d,tk,os⟩/\ ∃ (vs ws:List Value) (ns' ms':List Int),rest=vs.zip ws/\
   IntsAre vs ns'/\IntsAre ws ms'/\ns'.length + items2.size=ms'.length + items.size/\R (.ok (.ret (.bool (Zaa ns' ms')))) ⟨hp,g,d,tk,os⟩) _
  case turn=>
   rintro ⟨y,x⟩ rest b s' ⟨hb',rfl,vs,ws,ns',ms',hz,hvi,hwi,hlen,hR⟩
   cases hvi with
   |nil=>rw[List.zip_nil_left] at hz;cases hz
   |cons a t hvi'=>
    cases hwi with
    |nil=>rw[List.zip_nil_right] at hz;cases hz
    |cons c u hwi'=>
     rw[List.zip_cons_cons] at hz
     injection hz with hyx hrest
     injection hyx with hy hx
     subst hy hx
     rw[Z5] at hR
     simp only[List.length_cons] at hlen
     obtain ⟨e,he,hiff⟩:=Zgi A.in1 ⟨hp,g,d,tk,os⟩ a t c u
     refine wpAny_bind (he prog w _ _ ?_)
     cases e with
     |true=>
      rw[if_pos (hiff.mp rfl)] at hR
      wp_walk
      exact ⟨rfl,rfl,_,_,_,_,hrest,hvi',hwi',by omega,hR⟩
     |false=>
      rw[if_neg (fun q=>absurd (hiff.mpr q) Bool.false_ne_true)] at hR
      have hri:=Zgj A.in1 ⟨hp,g,d,tk,os⟩ a t c u prog w
      wp_walk using hri
      exact ⟨_,rfl,by simpa using hR⟩
  case fin=>
   rintro ⟨b1,b2⟩ s' ⟨hb',rfl,vs,ws,ns',ms',hz,hvi,hwi,hlen,hR⟩
   simp only at hb'
   subst hb'
   have hv:Zaa ns' ms'=decide (items.size < items2.size):=by
    cases hvi with
    |nil=>
     cases hwi with
     |nil=>
      simp only[List.length_nil] at hlen
      rw[Zb7]
      exact (decide_eq_false (by omega)).symm
     |cons c u hw=>
      simp only[List.length_nil,List.length_cons] at hlen
      rw[ZdI]
      exact (decide_eq_true (by omega)).symm
    |cons a t hv=>
     cases hwi with
     |nil=>
      simp only[List.length_nil,List.length_cons] at hlen
      rw[ZdJ]
      exact (decide_eq_false (by omega)).symm
     |cons c u hw=>
      rw[List.zip_cons_cons] at hz
      cases hz
   rw[hv] at hR
   wp_walk
   exact ⟨_,rfl,by simpa [Builtin.Tuple.tupleCompareSizes] using hR⟩
  case h=>
   exact ⟨rfl,rfl,items.toList,items2.toList,ns,ms,rfl,hi,hj,by omega,h⟩
end
section
variable {prog:Program} {w:World} {A:Around} {E:Value->Shared->Prop} {s:Shared}
theorem ZgR {l b:Addr} {items items2:Array Value} {ns ms:List Int} {Q:Value->Shared->Prop} (hl:IsTup s.heap l items) (hb:IsTup s.heap b items2) (hi:IntsAre items.toList ns) (hj:IntsAre items2.toList ms)
  (hu:A.units < cLine) (h:Q (.bool (Zaa ns ms)) s):wpAny (model prog w) A (compareOp .Lt (.ref l) (.ref b)) Q E s:=by
 obtain ⟨⟨cls,dd,data,sl⟩,ho,hc,n,hd⟩:=id hl
 obtain ⟨⟨cls2,dd2,data2,sl2⟩,ho2,hc2,n2,hd2⟩:=id hb
 simp only at hc hd hc2 hd2
 subst hc hd hc2 hd2
 exact richCompare_meets_room (op:= .Lt) ⟨_,ho,rfl⟩ ⟨_,ho2,rfl⟩ PySem.F.slot_tuple_lt PySem.F.entry_tuple_lt (PySem.F.args_tuple_lt_2 _ _) (Zd1 l b items items2 n n2 dd dd2 sl sl2 ns ms hi hj)
  ⟨ho,ho2,show Value.bool (Zaa ns ms)≠Value.notImplemented/\Q (.bool (Zaa ns ms)) s from ⟨(fun x=>nomatch x),h⟩⟩ hu
theorem ZlL {t b:Addr} {vs ws:List Value} {Q:Value->Shared->Prop} (ht:IsTup s.heap t vs.toArray) (hb:IsTup s.heap b ws.toArray) (hv:vs≠[])
  (h1:ws=[]->Q (.ref t) s) (h2:ws≠[]->Q (.ref s.heap.objs.size) { s with heap:=s.heap.push { cls:= .type "tuple",data:= .seq (vs ++ ws).toArray } })
  (hsz:vs.length + ws.length<=sizeLine):wpAny (model prog w) A (binaryOp .Add (.ref t) (.ref b)) Q E s:=by
 obtain ⟨⟨cls,dd,data,sl⟩,ho,hc,n,hd⟩:=id ht
 obtain ⟨⟨cls2,dd2,data2,sl2⟩,ho2,hc2,n2,hd2⟩:=id hb
 simp only at hc hd hc2 hd2
 subst hc hd hc2 hd2
 have e:vs.toArray ++ ws.toArray=(vs ++ ws).toArray:=by simp
 by_cases hw:ws=[]
 ·exact concat_meets ⟨_,ho,rfl⟩ ⟨_,ho2,rfl⟩ noFill_tuple_add seq_tuple_add PySem.F.slot_tuple_add PySem.F.entry_tuple_add (PySem.F.args_tuple_add_2 _ _)
   (tuple_addW1 t b vs.toArray ws.toArray n n2 dd dd2 sl sl2 (by simpa using hv) (by simp[hw])) ⟨ho,ho2,h1 hw⟩
 ·refine concat_meets ⟨_,ho,rfl⟩ ⟨_,ho2,rfl⟩ noFill_tuple_add seq_tuple_add PySem.F.slot_tuple_add PySem.F.entry_tuple_add (PySem.F.args_tuple_add_2 _ _)
   (tuple_addW2 t b vs.toArray ws.toArray n n2 dd dd2 sl sl2 (by simpa using hv) (by simpa using hw) (by rw[List.size_toArray,List.size_toArray];exact hsz)) ⟨ho,ho2,?_⟩
  rw[e]
  exact h2 hw
noncomputable def sIx (n d:Nat):Option Int->Nat
 |none=>d
 |some v=>if v < 0 then (v + (n:Int)).toNat else min v.toNat n
theorem Zn0 (n d:Nat) (hd:d<=n) (o:Option Int):sIx n d o<=n:=by
 cases o with
 |none=>exact hd
 |some v=>
  show (if v < 0 then (v + (n:Int)).toNat else min v.toNat n)<=n
  by_cases hv:v < 0
  ·rw[if_pos hv];omega
  ·rw[if_neg hv];exact Nat.min_le_right _ _
theorem ZhJ (v:Int) (n d:Nat):(if v < 0 then max (v + (n:Int)) 0 else min v (n:Int))=((sIx n d (some v):Nat):Int):=by
 show (if v < 0 then max (v + (n:Int)) 0 else min v (n:Int))=(((if v < 0 then (v + (n:Int)).toNat else min v.toNat n):Nat):Int)
 by_cases hv:v < 0
 ·simp only[if_pos hv];omega
 ·simp only[if_neg hv];omega
theorem ZgS (lo hi:Option Int) (n:Nat):Builtin.Slice.sliceAdjust lo hi 1 (n:Int)=(((sIx n 0 lo:Nat):Int),((sIx n n hi:Nat):Int)):=by
 have h1: ¬ ((1:Int) < 0):=by omega
 unfold Builtin.Slice.sliceAdjust
 simp only[h1,if_false]
 refine Prod.ext ?_ ?_
 ·cases lo with
  |none=>rfl
  |some v=>exact ZhJ v n 0
 ·cases hi with
  |none=>rfl
  |some v=>exact ZhJ v n n
theorem ZgT (i j:Nat):Builtin.Slice.slicePlaces (i:Int) (j:Int) 1=j - i:=by
 unfold Builtin.Slice.slicePlaces
 have h1:(1:Int) > 0:=by omega
 simp only[h1,if_true,Int.ediv_one]
 split<;>omega
theorem ZdQ {v:Value} {o:Option Int} {Q:Option Int->Shared->Prop} (p:IsPart v o) (h:Q o s):wpAny (model prog w) A (Builtin.Slice.slicePartIndex v) Q E s:=by
 cases p with
 |none=>exact slicePart_none h
 |int i t=>exact slicePart_int h
theorem ZcH {sl:Addr} {vl vu:Value} {lo hi:Option Int} {n:Nat} {Q:Int × Int × Nat->Shared->Prop} (hs:s.heap.IsSliceOf sl vl vu .none) (pl:IsPart vl lo) (pu:IsPart vu hi)
  (h:Q (((sIx n 0 lo:Nat):Int),1,sIx n n hi - sIx n 0 lo) s):wpAny (model prog w) A (Builtin.Slice.sliceApplied (.ref sl) (pure (n:Int))) Q E s:=by
 obtain ⟨os,hos,hcs,hds⟩:=id hs
 unfold Builtin.Slice.sliceApplied Builtin.Slice.sliceFields
 refine wpAny_bind (wpAny_bind (wpAny_field hos hds (x:=vl) rfl (wpAny_bind (wpAny_field hos hds (x:=vu) rfl (wpAny_bind (wpAny_field hos hds (x:= .none) rfl (wpAny_pure ?_)))))))
 refine wpAny_bind (slicePart_none ?_)
 show wpAny _ _ (if ((1:Int) == 0)=true then _ else _) _ _ s
 rw[if_neg (by decide)]
 refine wpAny_bind (ZdQ pl (wpAny_bind (ZdQ pu (wpAny_bind (wpAny_pure ?_)))))
 show wpAny _ _ (match Builtin.Slice.sliceAdjust lo hi 1 (n:Int) with | (lo,hi)=>pure (lo,(1:Int),Builtin.Slice.slicePlaces lo hi 1)) _ _ s
 rw[ZgS lo hi n]
 show wpAny _ _ (pure (((sIx n 0 lo:Nat):Int),(1:Int),Builtin.Slice.slicePlaces ((sIx n 0 lo:Nat):Int) ((sIx n n hi:Nat):Int) 1)) _ _ s
 rw[ZgT]
 exact wpAny_pure h
theorem ZjI (xs:Array Value) (i k:Nat):((List.range k).filterMap fun (m:Nat)=>xs[((i:Int) + (m:Int) * 1).toNat]?).toArray=((xs.toList.drop i).take k).toArray:=by
 have e:(fun (m:Nat)=>xs[((i:Int) + (m:Int) * 1).toNat]?)=fun m=>xs[i + m]?:=by
  funext m
  have:((i:Int) + (m:Int) * 1).toNat=i + m:=by omega
  rw[this]
 rw[e]
 have:=pick_run xs i k
 rw[List.filterMap_map] at this
 have e2:((fun x=>xs[x]?) ∘ fun x=>i + x)=fun m=>xs[i + m]?:=rfl
 rw[e2] at this
 rw[this]
theorem Zcp {t sl:Addr} {items:Array Value} {vl vu:Value} {lo hi:Option Int} {Q:Value->Shared->Prop} (ht:IsTup s.heap t items) (hs:s.heap.IsSliceOf sl vl vu .none) (pl:IsPart vl lo) (pu:IsPart vu hi)
  (hw: ¬ (sIx items.size 0 lo=0/\sIx items.size items.size hi=items.size))
  (h:Q (.ref s.heap.objs.size) { s with heap:=s.heap.push { cls:= .type "tuple",data:= .seq ((items.toList.drop (sIx items.size 0 lo)).take (sIx items.size items.size hi - sIx items.size 0 lo)).toArray } })
  (hsz:items.size<=sizeLine):wpAny (model prog w) A (getItem (.ref t) (.ref sl)) Q E s:=by
 have htake:sizeOk (.seq ((items.toList.drop (sIx items.size 0 lo)).take (sIx items.size items.size hi - sIx items.size 0 lo)).toArray):=by
  show ((items.toList.drop (sIx items.size 0 lo)).take (sIx items.size items.size hi - sIx items.size 0 lo)).toArray.size<=sizeLine
  rw[List.size_toArray,List.length_take,List.length_drop,Array.length_toList]
  omega
 have hj:sIx items.size items.size hi<=items.size:=Zn0 _ _ (Nat.le_refl _) hi
 obtain ⟨os,hos,hcs,hds⟩:=id hs
 have hTs:s.TypeIs (.ref sl) "slice":=⟨os,hos,hcs⟩
 unfold getItem
 try with_reducible refine wpAny_holding ?_
 first | refine wpAny_bind (wpAny_pure ?_) | skip
 refine wpAny_bind (wpAny_sequenceKey ht.typeIs (by decide) ?_)
 refine wpAny_bind (wpAny_callSpecial?_slot (name:=Str.ofString "__getitem__") ht.typeIs PyProof.Rows.slot_tuple_getitem
  (wpAny_call_entry PyProof.Rows.slot_tuple_getitem ht.typeIs entry_tuple_getitem ?_ (args_tuple_getitem _ _)))
 show wpAny _ _ (Builtin.Tuple.tupleItemsOf (.ref t) >>= _) _ _ s
 refine wpAny_bind (tupleItemsOf_ ht ?_)
 refine wpAny_bind (wpAny_typeOf hTs ?_)
 rw[if_pos (by decide)]
 refine wpAny_bind (ZcH hs pl pu ?_)
 have hno: ¬ ((((sIx items.size 0 lo:Nat):Int) == 0 && (1:Int) == 1 && (sIx items.size items.size hi - sIx items.size 0 lo) == items.size)=true):=by
  intro q
  rw[Bool.and_eq_true,Bool.and_eq_true] at q
  have q1:((sIx items.size 0 lo:Nat):Int)=0:=eq_of_beq q.1.1
  have q2:sIx items.size items.size hi - sIx items.size 0 lo=items.size:=eq_of_beq q.2
  exact hw ⟨by omega,by omega⟩
 show wpAny _ _ (if (((sIx items.size 0 lo:Nat):Int) == 0 && (1:Int) == 1 && (sIx items.size items.size hi - sIx items.size 0 lo) == items.size)=true then _ else _) _ _ s
 rw[if_neg hno,ZjI]
 first
  |exact wpAny_bind (m:=Builtin.Tuple.tupleExact _) (wpAny_newObj_type (wpAny_pure ⟨_,rfl,wpAny_pure h⟩) htake)
  |exact wpAny_bind (m:=Builtin.Tuple.tupleExact _) (wpAny_newObj_type (wpAny_bind (wpAny_pure (wpAny_pure ⟨_,rfl,wpAny_pure h⟩))) htake)
  |exact wpAny_bind (wpAny_bind (m:=Builtin.Tuple.tupleExact _) (wpAny_newObj_type (wpAny_pure (wpAny_pure ⟨_,rfl,wpAny_pure h⟩)) htake))
  |exact wpAny_bind (wpAny_bind (m:=Builtin.Tuple.tupleExact _) (wpAny_newObj_type (wpAny_pure ⟨_,rfl,wpAny_pure h⟩) htake))
end
end HT
namespace L2
open PySem PySem.Spec PyProof.Rows
noncomputable abbrev TO:=St->Hp->(Option Int->Hp->Prop)->Prop
noncomputable def PO (X:Cx) (e:Option Expr) (t:TO):Prop:=
 ∀ (pins:List (Addr × Obj)) (s:Shared) (σ:St) (H:Hp) (Q:Option Int->Hp->Prop),Inv X pins σ H s->t σ H Q->
  wpAny (model X.prog X.w) X.A (evalPart e X.env) (fun u s'=> ∃ o H',Inv X pins σ H' s'/\IsPart u o/\Q o H') X.xe s
noncomputable def tNoPart:TO:=fun _ H Q=>Q none H
noncomputable def Zre (t:TE):TO:=fun σ H Q=>t σ H fun x H1=> ∃ i,x= .int i/\Q (some i) H1
theorem Zcq {ns:List Int}: ∀ {us:List Value},ZX (ns.map V.int) us->IntsAre us ns:=by
 induction ns with
 |nil=>intro us r;rw[List.map_nil] at r;cases r;exact .nil
 |cons n ns ih=>
  intro us r
  rw[List.map_cons] at r
  cases r with
  |cons r1 r2=>
   obtain ⟨t,e⟩:=r1
   subst e
   exact .cons n t (ih r2)
section
variable {X:Cx} {e:Expr} {te:TE} {lo hi:Option Expr} {tl th:TO} {pos p2:Pos}
theorem ZlM:PO X none tNoPart:=by
 intro pins s σ H Q I h
 rw[evalPart_none]
 exact wpAny_pure ⟨none,H,I,.none,h⟩
theorem ZlN (h:PE X e te):PO X (some e) (Zre te):=by
 intro pins s σ H Q I hw
 rw[evalPart_some]
 refine thn (h pins s σ H _ I hw) fun u s1 ⟨x,H1,I1,r1,q1⟩=> ?_
 obtain ⟨i,rfl,q⟩:=q1
 obtain ⟨t,rfl⟩:=r1
 exact ⟨some i,H1,I1,.int i t,q⟩
noncomputable def SlR (X:Cx) (r:V->Option Int->Option Int->Hp->VK->Prop):Prop:=
 ∀ (pins:List (Addr × Obj)) (s:Shared) (σ:St) (H:Hp) (x:V) (v vl vu:Value) (lo hi:Option Int) (sl:Addr) (Q:VK),Inv X pins σ H s->ZV x v->s.heap.IsSliceOf sl vl vu .none->IsPart vl lo->IsPart vu hi->r x lo hi H Q->
  ∃ T id,typeLookup (.type T) "__getitem__"=pure (some (.builtin id))/\s.TypeIs v T/\wpAny (model X.prog X.w) X.A (getItem v (.ref sl)) (EP X pins σ Q) X.xe s
theorem SlR.or {r r':V->Option Int->Option Int->Hp->VK->Prop} (h:SlR X r) (h':SlR X r'):SlR X (fun x lo hi H Q=>r x lo hi H Q\/r' x lo hi H Q):=by
 intro pins s σ H x v vl vu lo hi sl Q I rx hs pl pu q
 rcases q with q | q
 ·exact h pins s σ H x v vl vu lo hi sl Q I rx hs pl pu q
 ·exact h' pins s σ H x v vl vu lo hi sl Q I rx hs pl pu q
noncomputable def tSl (r:V->Option Int->Option Int->Hp->VK->Prop) (te:TE) (tl th:TO):TE:=fun σ H Q=>te σ H fun x H1=>tl σ H1 fun l H2=>th σ H2 fun u H3=>r x l u H3 Q
theorem ZjJ {r:V->Option Int->Option Int->Hp->VK->Prop} (hr:SlR X r) (he:PE X e te) (hl:PO X lo tl) (hu:PO X hi th):PE X (.Subscript e (.Slice lo hi none p2) pos) (tSl r te tl th):=by
 intro pins s σ H Q I h
 refine Subscript_ (thn (he pins s σ H _ I h) fun v s1 ⟨x,H1,I1,r1,q1⟩=> ?_)
 refine wpAny_Slice (thn (hl pins s1 σ H1 _ I1 q1) fun vl s2 ⟨l,H2,I2,pl,q2⟩=>thn (hu pins s2 σ H2 _ I2 q2) fun vu s3 ⟨u,H3,I3,pu,q3⟩=> ?_)
 rw[evalPart_none]
 refine wpAny_pure ?_
 have I4:Inv X pins σ H3 { s3 with heap:=s3.heap.push { cls:= .type "slice",data:= .fields #[vl,vu,.none] } }:=I3.kept (t':=s3.toks) fun b ob q=>Heap.get?_push_of_some _ q
 obtain ⟨T,id,hT,ht,hg⟩:=hr pins { s3 with heap:=s3.heap.push { cls:= .type "slice",data:= .fields #[vl,vu,.none] } } σ H3 x v vl vu l u s3.heap.objs.size Q I4 r1 (Heap.IsSliceOf.new ..) pl pu q3
 show wpAny (model X.prog X.w) X.A (subscriptTail e (.Slice lo hi none p2) v (.ref s3.heap.objs.size)) (EP X pins σ Q) X.xe { s3 with heap:=s3.heap.push { cls:= .type "slice",data:= .fields #[vl,vu,.none] } }
 exact tail_any (ops:=[.ref s3.heap.objs.size,v]) ht hT hg (by with_unfolding_all rfl)
noncomputable def ZkN (xs:List V) (lo hi:Option Int):List V:=(xs.drop (HT.sIx xs.length 0 lo)).take (HT.sIx xs.length xs.length hi - HT.sIx xs.length 0 lo)
theorem ZcX (xs:List V) (lo hi:Option Int):(ZkN xs lo hi).length<=xs.length:=by
 unfold ZkN
 rw[List.length_take,List.length_drop]
 omega
noncomputable def Zuy (K:PySem.W.Frag):V->Option Int->Option Int->Hp->VK->Prop:=fun x lo hi H Q=> ∃ a xs,x= .ref a/\SqT K H a xs/\
 ¬ (HT.sIx xs.length 0 lo=0/\HT.sIx xs.length xs.length hi=xs.length)/\ ∀ p,H p=none->Q (.ref p) (upd H p (.tup (ZkN xs lo hi)))
theorem Zn1:SlR X (Zuy X.K):=by
 intro pins s σ H x v vl vu lo hi sl Q I rx hs pl pu h
 obtain ⟨a,xs,rfl,hx,hw,q⟩:=h
 cases rx
 obtain ⟨its,r,ht,hz⟩:=I.tuple hx
 have hlen:its.toArray.size=xs.length:=by rw[List.size_toArray];exact r.length.symm
 refine ⟨"tuple",_,PyProof.Rows.slot_tuple_getitem.lookup,ht.typeIs,?_⟩
 refine HT.Zcp ht hs pl pu (by rw[hlen];exact hw) ?_ (by rw[hlen];exact hz)
 rw[hlen]
 refine ⟨.ref s.heap.objs.size,_,I.laid (t':=s.toks) (o:= .tup (ZkN xs lo hi)) (fun b ob q=>Heap.get?_push_of_some _ q) (Nat.le_refl _) ?_,rfl,q _ (I.hok.fresh (Nat.le_refl _))⟩
 exact ⟨Nat.le_trans (ZcX xs lo hi) hz,_,(r.drop (HT.sIx xs.length 0 lo)).take (HT.sIx xs.length xs.length hi - HT.sIx xs.length 0 lo),IsTup.new _ _⟩
noncomputable def ZlO (K:PySem.W.Frag):R2:=fun x y H Q=> ∃ a b xs ys,x= .ref a/\y= .ref b/\SqT K H a xs/\SqT K H b ys/\xs≠[]/\xs.length + ys.length<=sizeLine/\
 (ys=[]->Q (.ref a) H)/\(ys≠[]-> ∀ p,H p=none->Q (.ref p) (upd H p (.tup (xs ++ ys))))
theorem ZX.nil_iff {xs:List V} {us:List Value} (r:ZX xs us):us=[] ↔ xs=[]:=by
 cases r with
 |nil=>simp
 |cons _ _=>simp
theorem ZlP:OpR X (binaryOp .Add) (ZlO X.K):=by
 intro pins s σ H x y v u Q I rx ry h
 obtain ⟨a,b,xs,ys,rfl,rfl,ha,hb,hx,hz,q1,q2⟩:=h
 cases rx
 cases ry
 obtain ⟨its,r1,p1,_⟩:=I.tuple ha
 obtain ⟨its2,r2,p2,_⟩:=I.tuple hb
 refine HT.ZlL p1 p2 (fun z=>hx (r1.nil_iff.mp z)) (fun z=>⟨.ref a,H,I,rfl,q1 (r2.nil_iff.mp z)⟩) (fun z=> ?_) (by rw[<- r1.length,<- r2.length];exact hz)
 refine ⟨.ref s.heap.objs.size,_,I.laid (t':=s.toks) (o:= .tup (xs ++ ys)) (fun b ob q=>Heap.get?_push_of_some _ q) (Nat.le_refl _) ?_,rfl,q2 (fun w=>z (r2.nil_iff.mpr w)) _ (I.hok.fresh (Nat.le_refl _))⟩
 exact ⟨by rw[List.length_append];exact hz,_,r1.append r2,IsTup.new _ _⟩
end
end L2
namespace L2
open PySem PySem.Spec PyProof.Rows
noncomputable def ixN (n:Nat) (i:Int):Option Nat:=if 0<=i then (if i < n then some i.toNat else none) else if -(n:Int)<=i then some (i + n).toNat else none
noncomputable def atI {α:Type} (xs:List α) (i:Int):Option α:=(ixN xs.length i).bind fun j=>xs[j]?
theorem ZhK {n:Nat} {i:Int} {j:Nat} (h:ixN n i=some j):seqIndex? i n=some j/\j < n/\ -(n:Int)<=i/\i < n:=by
 unfold ixN at h
 by_cases h0:0<=i
 ·rw[if_pos h0] at h
  by_cases h1:i < n
  ·rw[if_pos h1] at h
   have e:i.toNat=j:=Option.some.inj h
   exact ⟨by rw[seqIndex_of h0 h1,e],by omega,by omega,h1⟩
  ·rw[if_neg h1] at h;cases h
 ·rw[if_neg h0] at h
  by_cases h1: -(n:Int)<=i
  ·rw[if_pos h1] at h
   have e:(i + n).toNat=j:=Option.some.inj h
   exact ⟨by rw[seqIndex_neg (by omega) h1,e],by omega,h1,by omega⟩
  ·rw[if_neg h1] at h;cases h
theorem ZhL {α:Type} {xs:List α} {i:Int} {v:α} (h:atI xs i=some v): ∃ j,seqIndex? i xs.length=some j/\xs[j]?=some v/\j < xs.length/\ -(xs.length:Int)<=i/\i < xs.length:=by
 unfold atI at h
 cases e:ixN xs.length i with
 |none=>rw[e] at h;cases h
 |some j=>
  rw[e] at h
  obtain ⟨h1,h2,h3,h4⟩:=ZhK e
  exact ⟨j,h1,h,h2,h3,h4⟩
theorem ZlQ {α:Type} {xs:List α} {j:Nat} {v:α} (h:xs[j]?=some v):atI xs (j:Int)=some v:=by
 have hj:j < xs.length:=(List.getElem?_eq_some_iff.mp h).1
 have e:ixN xs.length (j:Int)=some j:=by
  unfold ixN
  rw[if_pos (by omega),if_pos (by omega)];simp
 unfold atI;rw[e];exact h
noncomputable def ZhM (b:Expr):Prop:= ∀ o i,subscripted b false o i=operate [o,i] (getItem o i)
noncomputable def IxR (X:Cx) (r:R2):Prop:=
 ∀ (value slice:Expr) (pins:List (Addr × Obj)) (s:Shared) (σ:St) (H:Hp) (x y:V) (v u:Value) (Q:VK),Inv X pins σ H s->ZV x v->ZV y u->r x y H Q->
  subscripted slice false v u=operate [v,u] (getItem v u)->wpAny (model X.prog X.w) X.A (subscriptTail value slice v u) (EP X pins σ Q) X.xe s
noncomputable def MtR (X:Cx) (id:String) (r:V->List V->Hp->VK->Prop):Prop:=
 ∀ (pins:List (Addr × Obj)) (s:Shared) (σ:St) (H:Hp) (x:V) (xs:List V) (v:Value) (us:List Value) (Q:VK),Inv X pins σ H s->ZV x v->ZX xs us->r x xs H Q->
  wpAny (model X.prog X.w) X.A (call (.builtin id) (v :: us)) (EP X pins σ Q) X.xe s
section
variable {X:Cx} {a b:Expr} {ta tb:TE} {pos:Pos}
theorem IxR.or {r r':R2} (h:IxR X r) (h':IxR X r'):IxR X (fun x y H Q=>r x y H Q\/r' x y H Q):=by
 intro value slice pins s σ H x y v u Q I rx ry q hs
 rcases q with q | q
 ·exact h value slice pins s σ H x y v u Q I rx ry q hs
 ·exact h' value slice pins s σ H x y v u Q I rx ry q hs
theorem Zrf {r:R2} (hr:IxR X r) (ha:PE X a ta) (hb:PE X b tb) (hs:ZhM b):PE X (.Subscript a b pos) (tOp r ta tb):=by
 intro pins s σ H Q I h
 exact Subscript_ (Zq8 ha hb I h fun v u s2 x y H2 I2 rx ry q=>hr a b pins s2 σ H2 x y v u Q I2 rx ry q (hs _ _))
noncomputable def Ztn (K:PySem.W.Frag):R2:=fun x y H Q=> ∃ p xs i v,x= .ref p/\y= .int i/\SqL K H p xs/\atI xs i=some v/\Q v H
noncomputable def Zto (K:PySem.W.Frag):R2:=fun x y H Q=> ∃ p xs i v,x= .ref p/\y= .int i/\SqT K H p xs/\atI xs i=some v/\Q v H
theorem ZlR:IxR X (Ztn X.K):=by
 intro value slice pins s σ H x y v u Q I rx ry h hs
 obtain ⟨p,xs,i,z,rfl,rfl,hq,he,q⟩:=h
 cases rx
 obtain ⟨t,rfl⟩:=ry
 obtain ⟨its,r,pl,hz⟩:=I.list hq
 obtain ⟨j,h1,h2,h3,h4,h5⟩:=ZhL he
 obtain ⟨w,ew,rw'⟩:=r.get h2
 have hl:=r.length
 have hn:=Zgf
 have fin:EP X pins σ Q w s:=⟨z,H,I,rw',q⟩
 by_cases h0:0<=i
 ·have hj:i.toNat=j:=by
   rw[seqIndex_of h0 h5] at h1
   exact Option.some.inj h1
  exact item_listR pl.isList h0 (by omega) (by rw[hj];simpa using ew) fin hs
 ·have hj:(i + (its.toArray.size:Int)).toNat=j:=by
   rw[seqIndex_neg (by omega) h4] at h1
   rw[List.size_toArray,<- hl]
   exact Option.some.inj h1
  exact subscriptTail_builtinR (x:=w) pl.isList.typeIs slot_list_getitem.lookup
   (wpAny_getItem_list_neg (Q:=fun r s'=>r=w/\EP X pins σ Q r s') pl.isList (by omega) (by rw[List.size_toArray]<;>omega) (by omega) (by rw[hj];simpa using ew) ⟨rfl,fin⟩) hs
theorem Zn2:IxR X (Zto X.K):=by
 intro value slice pins s σ H x y v u Q I rx ry h hs
 obtain ⟨p,xs,i,z,rfl,rfl,hq,he,q⟩:=h
 cases rx
 obtain ⟨t,rfl⟩:=ry
 obtain ⟨its,r,pl,hz⟩:=I.tuple hq
 obtain ⟨j,h1,h2,h3,h4,h5⟩:=ZhL he
 obtain ⟨w,ew,rw'⟩:=r.get h2
 have hl:=r.length
 have hn:=Zgf
 have fin:EP X pins σ Q w s:=⟨z,H,I,rw',q⟩
 exact subscriptTail_builtinR (x:=w) pl.typeIs slot_tuple_getitem.lookup
  (getItem_tuple (j:=j) (Q:=fun r s'=>r=w/\EP X pins σ Q r s') pl (by omega) (by omega) (by rw[List.size_toArray,<- hl];exact h1) (by simpa using ew) ⟨rfl,fin⟩) hs
theorem ZgU (its:List Value) (n j:Nat) (u:Value):Obj.mapSeq (·.setIfInBounds j u) { cls:= .type "list",data:= .seq its.toArray n }={ cls:= .type "list",data:= .seq (its.set j u).toArray n }:=by
 simp[Obj.mapSeq]
theorem Inv.lst {pins:List (Addr × Obj)} {σ:St} {H:Hp} {s:Shared} {p:Addr} {xs:List V} (I:Inv X pins σ H s) (h:H p=some (.lst xs)):
  ∃ (its:List Value) (n:Nat),ZX xs its/\s.heap.get? p=some { cls:= .type "list",data:= .seq its.toArray n }/\xs.length<=sizeLine:=by
 obtain ⟨z,its,n,r,e⟩:=I.hok p _ h
 exact ⟨its,n,r,e,z⟩
theorem Inv.lstUpd {pins:List (Addr × Obj)} {σ:St} {H:Hp} {s:Shared} {p:Addr} {xs ys:List V} {its its':List Value} {n n':Nat} {f:Obj->Obj} (I:Inv X pins σ H s) (h:H p=some (.lst xs))
  (ho:s.heap.get? p=some { cls:= .type "list",data:= .seq its.toArray n }) (hf:f { cls:= .type "list",data:= .seq its.toArray n }={ cls:= .type "list",data:= .seq its'.toArray n' }) (r:ZX ys its') (hz:ys.length<=sizeLine) (t:Nat):
  Inv X pins σ (upd H p (.lst ys)) { s with heap:=s.heap.update p f,toks:=t }:=by
 have e:(s.heap.update p f).get? p=some { cls:= .type "list",data:= .seq its'.toArray n' }:=by
  rw[Heap.get?_update_self f ho (by rw[hf]<;>rfl),hf]
 refine I.write (x:=p) (e:=p) (by rw[h];trivial) (.inl rfl) (fun b u hb q=>(Heap.get?_update_other _ _ (Ne.symm hb)).trans q) ⟨_,e⟩ ?_
 exact ⟨hz,its',n',r,e⟩
noncomputable def rSetL:V->V->V->Hp->(Hp->Prop)->Prop:=fun o i v H Q=> ∃ p xs k j,o= .ref p/\i= .int k/\H p=some (.lst xs)/\ixN xs.length k=some j/\Q (upd H p (.lst (xs.set j v)))
theorem ZjK:Ztj X rSetL:=by
 intro pins s σ H o i v ov iv u Q I ro ri rv h
 obtain ⟨p,xs,k,j,rfl,rfl,hp,hj,q⟩:=h
 cases ro
 obtain ⟨t,rfl⟩:=ri
 obtain ⟨its,n,r,ho,hz⟩:=I.lst hp
 obtain ⟨h1,h2,h3,h4⟩:=ZhK hj
 have hl:=r.length
 have hn:=Zgf
 have I':Inv X pins σ (upd H p (.lst (xs.set j v))) { s with heap:=s.heap.update p (Obj.mapSeq (·.setIfInBounds j u)) }:=
  I.lstUpd hp ho (ZgU its n j u) (r.set rv j) (by rw[List.length_set];exact hz) s.toks
 by_cases h0:0<=k
 ·have hk:k.toNat=j:=by
   rw[seqIndex_of h0 h4] at h1
   exact Option.some.inj h1
  exact PySem.W.ki_setAt ho h0 (by omega) (by rw[List.size_toArray,<- hl];exact h4) (by rw[hk];exact ⟨_,I',q⟩)
 ·have hk:(k + (its.toArray.size:Int)).toNat=j:=by
   rw[seqIndex_neg (by omega) h3] at h1
   rw[List.size_toArray,<- hl]
   exact Option.some.inj h1
  exact PySem.W.ki_setBack ho (by omega) (by rw[List.size_toArray,<- hl];exact h3) (by omega) (by rw[hk];exact ⟨_,I',q⟩)
theorem ZeJ (lo hi:Option Int) (n:Nat):(sliceBounds lo hi none n).1=((HT.sIx n 0 lo:Nat):Int)/\(sliceBounds lo hi none n).2.1=((HT.sIx n n hi:Nat):Int)/\(sliceBounds lo hi none n).2.2=1:=by
 refine ⟨?_,?_,rfl⟩
 ·cases lo with
  |none=>simp[sliceBounds,HT.sIx]
  |some i=>
   simp only[sliceBounds,HT.sIx,Option.getD_none,show (1:Int) > 0 by decide,if_true]
   by_cases h:i < 0
   ·simp only[h,if_true]<;>omega
   ·simp only[h,if_false]<;>omega
 ·cases hi with
  |none=>simp[sliceBounds,HT.sIx]
  |some i=>
   simp only[sliceBounds,HT.sIx,Option.getD_none,show (1:Int) > 0 by decide,if_true]
   by_cases h:i < 0
   ·simp only[h,if_true]<;>omega
   ·simp only[h,if_false]<;>omega
theorem Zd2 (its:List Value) (lo hi:Option Int):slicePick its.toArray lo hi none=((its.drop (HT.sIx its.length 0 lo)).take (HT.sIx its.length its.length hi - HT.sIx its.length 0 lo)).toArray:=by
 obtain ⟨h1,h2,h3⟩:=ZeJ lo hi its.toArray.size
 unfold slicePick
 rw[h1,h2,h3]
 simp only[sliceRange_one,pick_run,List.size_toArray]<;>rfl
noncomputable def Zuz (K:PySem.W.Frag):V->Option Int->Option Int->Hp->VK->Prop:=fun x lo hi H Q=> ∃ a xs,x= .ref a/\SqL K H a xs/\ ∀ p,H p=none->Q (.ref p) (upd H p (.lst (ZkN xs lo hi)))
theorem ZlS:SlR X (Zuz X.K):=by
 intro pins s σ H x v vl vu lo hi sl Q I rx hs pl pu h
 obtain ⟨a,xs,rfl,hx,q⟩:=h
 cases rx
 obtain ⟨its,r,ht,hz⟩:=I.list hx
 have hlen:=r.length
 refine ⟨"list",_,slot_list_getitem.lookup,ht.isList.typeIs,?_⟩
 refine wpAny_getItem_list_slice ht.isList hs pl pu .none (by simp) ?_ (by rw[List.size_toArray]<;>omega)
 rw[Zd2,<- hlen]
 refine ⟨.ref s.heap.objs.size,_,I.laid (t':=s.toks) (o:= .lst (ZkN xs lo hi)) (fun b ob q=>Heap.get?_push_of_some _ q) (Nat.le_refl _) ?_,rfl,q _ (I.hok.fresh (Nat.le_refl _))⟩
 exact ⟨Nat.le_trans (ZcX xs lo hi) hz,_,0,(r.drop (HT.sIx xs.length 0 lo)).take (HT.sIx xs.length xs.length hi - HT.sIx xs.length 0 lo),Heap.get?_push_size _ rfl⟩
noncomputable def ZcI:V->Bool
 | .non=>true
 | .bl _=>true
 | .int _=>true
 | .str _=>true
 |_=>false
noncomputable def eqV:V->V->Bool
 | .non,.non=>true
 | .bl a,.bl b=>a == b
 | .bl a,.int b=>(if a then 1 else 0) == b
 | .int a,.bl b=>a == (if b then 1 else 0)
 | .int a,.int b=>a == b
 | .str a,.str b=>a == b
 |_,_=>false
theorem Zn3 {A:Around} {s:Shared} {y x:V} {u v:Value} (ry:ZV y u) (rx:ZV x v) (fy:ZcI y=true) (fx:ZcI x=true):SeqAt.EqAt A s u v (eqV y x):=by
 cases y with
 |non=>
  cases ry
  cases x with
  |non=>cases rx;exact SeqAt.EqAt.same _
  |bl b=>cases rx;exact SeqAt.EqAt.none_bool b
  |int b=>obtain ⟨t,rfl⟩:=rx;exact SeqAt.EqAt.none_int b t
  |str b=>obtain ⟨t,rfl⟩:=rx;exact SeqAt.EqAt.none_str b t
  |_=>exact absurd (show false=true from fx) Bool.false_ne_true
 |bl a=>
  cases ry
  cases x with
  |non=>cases rx;exact SeqAt.EqAt.bool_none a
  |bl b=>cases rx;exact SeqAt.EqAt.bool_bool a b
  |int b=>obtain ⟨t,rfl⟩:=rx;exact SeqAt.EqAt.bool_int a b t
  |str b=>obtain ⟨t,rfl⟩:=rx;exact SeqAt.EqAt.bool_str a b t
  |_=>exact absurd (show false=true from fx) Bool.false_ne_true
 |int a=>
  obtain ⟨t',rfl⟩:=ry
  cases x with
  |non=>cases rx;exact SeqAt.EqAt.int_none a t'
  |bl b=>cases rx;exact SeqAt.EqAt.int_bool a t' b
  |int b=>obtain ⟨t,rfl⟩:=rx;exact SeqAt.EqAt.int_int a t' b t
  |str b=>obtain ⟨t,rfl⟩:=rx;exact SeqAt.EqAt.int_str a t' b t
  |_=>exact absurd (show false=true from fx) Bool.false_ne_true
 |str a=>
  obtain ⟨t',rfl⟩:=ry
  cases x with
  |non=>cases rx;exact SeqAt.EqAt.str_none a t'
  |bl b=>cases rx;exact SeqAt.EqAt.str_bool a t' b
  |int b=>obtain ⟨t,rfl⟩:=rx;exact SeqAt.EqAt.str_int a t' b t
  |str b=>obtain ⟨t,rfl⟩:=rx;exact SeqAt.EqAt.str_str a t' b t
  |_=>exact absurd (show false=true from fx) Bool.false_ne_true
 |_=>exact absurd (show false=true from fy) Bool.false_ne_true
noncomputable def eqU (x:V) (u:Value):Bool:=match u with
 | .none=>eqV .non x
 | .bool b=>eqV (.bl b) x
 | .int i _=>eqV (.int i) x
 | .str z _=>eqV (.str z) x
 |_=>false
theorem ZkO {x y:V} {u:Value} (r:ZV y u) (f:ZcI y=true):eqU x u=eqV y x:=by
 cases y with
 |non=>cases r;rfl
 |bl b=>cases r;rfl
 |int i=>obtain ⟨t,rfl⟩:=r;rfl
 |str z=>obtain ⟨t,rfl⟩:=r;rfl
 |_=>exact absurd (show false=true from f) Bool.false_ne_true
theorem Zfz {x:V}: ∀ {xs:List V} {us:List Value},ZX xs us->xs.all ZcI=true->us.any (eqU x)=xs.any fun y=>eqV y x
 |_,_,.nil,_=>rfl
 |y :: xs,u :: us,.cons r t,f=>by
  rw[List.all_cons,Bool.and_eq_true] at f
  rw[List.any_cons,List.any_cons,ZkO r f.1,Zfz t f.2]
theorem Zd3 {A:Around} {s:Shared} {x:V} {v:Value} (rx:ZV x v) (fx:ZcI x=true): ∀ {xs:List V} {us:List Value},ZX xs us->xs.all ZcI=true-> ∀ u∈us,SeqAt.EqAt A s u v (eqU x u)
 |_,_,.nil,_=>fun u hu=>by cases hu
 |y :: xs,u :: us,.cons r t,f=>fun u' hu=>by
  rw[List.all_cons,Bool.and_eq_true] at f
  rcases List.mem_cons.mp hu with rfl | hu
  ·rw[ZkO r f.1];exact Zn3 r rx f.1 fx
  ·exact Zd3 rx fx t f.2 u' hu
noncomputable def inV (x:V) (xs:List V):Bool:=xs.any fun y=>eqV y x
noncomputable def rIn (K:PySem.W.Frag) (neg:Bool):R2:=fun x y H Q=> ∃ p xs,y= .ref p/\(SqL K H p xs\/SqT K H p xs)/\ZcI x=true/\xs.all ZcI=true/\Q (.bl (if neg then !inV x xs else inV x xs)) H
theorem ZeK:OpR X (compareOp .NotIn) (rIn X.K true):=by
 intro pins s σ H x y v u Q I rx ry h
 obtain ⟨p,xs,rfl,hq,fx,fs,q⟩:=h
 cases ry
 rcases hq with hq | hq
 ·obtain ⟨its,r,pl,hz⟩:=I.list hq
  refine SeqAt.notIn_listAt (eqU x) pl.isList (fun w hw=>Zd3 rx fx r fs w (by simpa using hw)) ⟨.bl _,H,I,rfl,?_⟩
  rw[show its.toArray.any (eqU x)=its.any (eqU x) by simp,Zfz r fs]
  exact q
 ·obtain ⟨its,r,pl,hz⟩:=I.tuple hq
  refine SeqAt.notIn_tupleAt (eqU x) pl (fun w hw=>Zd3 rx fx r fs w (by simpa using hw)) ⟨.bl _,H,I,rfl,?_⟩
  rw[show its.toArray.any (eqU x)=its.any (eqU x) by simp,Zfz r fs]
  exact q
theorem Zu:Zco X (.builtin "len") (fun xs H Q=> ∃ p ys,xs=[.ref p]/\(SqL X.K H p ys\/SqT X.K H p ys)/\Q (.int ys.length) H):=by
 intro pins s σ H xs us Q I r h
 obtain ⟨p,ys,rfl,hq,q⟩:=h
 obtain ⟨u,rfl,rx⟩:=ZcV r
 cases rx
 have hn:=Zgf
 rcases hq with hq | hq
 ·obtain ⟨its,r',pl,hz⟩:=I.list hq
  have hlen:=r'.length
  exact Calls.call_len_list pl.isList (by simp only[List.size_toArray]<;>omega) ⟨.int ys.length,H,I.tok _,⟨s.toks + 1,by rw[List.size_toArray,hlen]⟩,q⟩
 ·obtain ⟨its,r',pl,hz⟩:=I.tuple hq
  have hlen:=r'.length
  exact len_tuple pl (by simp only[List.size_toArray]<;>omega) ⟨.int ys.length,H,I.tok _,⟨s.toks + 1,by rw[List.size_toArray,hlen]⟩,q⟩
theorem Za1:Zco X (.type "list") (fun xs H Q=> ∃ p ys,xs=[.ref p]/\(SqL X.K H p ys\/SqT X.K H p ys)/\ ∀ l,H l=none->Q (.ref l) (upd H l (.lst ys))):=by
 intro pins s σ H xs us Q I r h
 obtain ⟨p,ys,rfl,hq,q⟩:=h
 obtain ⟨u,rfl,rx⟩:=ZcV r
 cases rx
 have fin: ∀ (its:List Value),ZX ys its->ys.length<=sizeLine-> ∀ (h':Heap) (c':Nat),(∀ b o',s.heap.get? b=some o'->h'.get? b=some o')->
   h'.get? s.heap.objs.size=some { cls:= .type "list",dict:=none,data:= .seq its.toArray c',slots:= #[] }->EP X pins σ Q (.ref s.heap.objs.size) { s with heap:=h' }:=fun its r' hz h' c' kp e=>
  ⟨.ref s.heap.objs.size,_,I.laid (t':=s.toks) kp (Nat.le_refl _) (show Zba X.prog X.w _ h' _ (.lst ys) from ⟨hz,its,c',r',e⟩),rfl,q _ (I.hok.fresh (Nat.le_refl _))⟩
 rcases hq with hq | hq
 ·obtain ⟨its,r',pl,hz⟩:=I.list hq
  have hlen:=r'.length
  obtain ⟨o,ho,hc,n,hd⟩:=pl.isList
  exact call_list_seq p (.inl rfl) ho hc hd (fun h' c' kp e=>fin its r' hz h' c' kp e) (by simp only[List.size_toArray]<;>omega)
 ·obtain ⟨its,r',pl,hz⟩:=I.tuple hq
  have hlen:=r'.length
  obtain ⟨o,ho,hc,n,hd⟩:=pl
  exact call_list_seq p (.inr rfl) ho hc hd (fun h' c' kp e=>fin its r' hz h' c' kp e) (by simp only[List.size_toArray]<;>omega)
noncomputable def tyV (K:PySem.W.Frag) (T:String) (x:V) (H:Hp):Prop:=match x with
 | .str _=>T="str"
 | .int _=>T="int"
 | .ref p=>(T="list"/\ ∃ xs,SqL K H p xs)\/(T="tuple"/\ ∃ o,K.lookup p=some o/\o.cls= .type "tuple"/\o.dict=none)\/
   (T="dict"/\((∃ kvs,H p=some (.dK kvs))\/ ∃ kvs,H p=some (.dT kvs)))\/(T="set"/\ ∃ S n,H p=some (.set S n))
 |_=>False
theorem Zn4 {pins:List (Addr × Obj)} {σ:St} {H:Hp} {s:Shared} {T:String} {x:V} {v:Value} (I:Inv X pins σ H s) (r:ZV x v) (ty:tyV X.K T x H):
  s.TypeIs v T/\ ∀ a,v= .ref a-> ∃ ob,s.heap.get? a=some ob/\ob.dict=none:=by
 cases x with
 |str z=>
  obtain ⟨t,rfl⟩:=r
  cases (show T="str" from ty)
  exact ⟨typeIs_str s z t,fun _ e=>nomatch e⟩
 |int i=>
  obtain ⟨t,rfl⟩:=r
  cases (show T="int" from ty)
  exact ⟨typeIs_int s i t,fun _ e=>nomatch e⟩
 |ref p=>
  cases r
  rcases ty with ⟨rfl,xs,hq⟩ | ⟨rfl,o,hk,hc,hd⟩ | ⟨rfl,hk⟩ | ⟨rfl,S,n,hk⟩
  ·obtain ⟨its,_,pl,_⟩:=I.list hq
   refine ⟨pl.isList.typeIs,fun a e=> ?_⟩
   cases e
   obtain ⟨o,n,e,c,hd,_⟩:=pl
   exact ⟨o,e,hd⟩
  ·refine ⟨⟨o,I.kIn p o hk,hc⟩,fun a e=> ?_⟩
   cases e
   exact ⟨o,I.kIn _ o hk,hd⟩
  ·have z: ∃ o,s.heap.get? p=some o/\o.ExactDict:=by
    rcases hk with ⟨kvs,hk⟩ | ⟨kvs,hk⟩
    ·obtain ⟨_,_,_,_,o,_,_,e,ex,_⟩:=I.hok p _ hk
     exact ⟨o,e,ex⟩
    ·obtain ⟨_,_,_,_,o,_,_,e,ex,_⟩:=I.hok p _ hk
     exact ⟨o,e,ex⟩
   obtain ⟨o,e,ex⟩:=z
   refine ⟨⟨o,e,ex.1⟩,fun a e2=> ?_⟩
   cases e2
   exact ⟨o,e,ex.2.1⟩
  ·obtain ⟨o,_,_,_,e,ex,_⟩:=I.hok p _ hk
   refine ⟨⟨o,e,ex.1⟩,fun a e2=> ?_⟩
   cases e2
   exact ⟨o,e,ex.2.1⟩
 |_=>exact False.elim ty
noncomputable def tBM (K:PySem.W.Frag) (T:String) (r:V->List V->Hp->VK->Prop) (to:TE) (t:TA):TE:=fun σ H Q=>to σ H fun x H1=>tyV K T x H1/\t σ H1 fun xs H2=>r x xs H2 Q
variable {o e:Expr} {es:List Expr} {to:TE} {t:TA} {name:Str} {apos cpos:Pos} {T id:String} {r:V->List V->Hp->VK->Prop}
theorem Zrg (pa:PlainAttrs T) (slot:Slot T name id) (hty:typeOf (.builtin id)=pure (.type "method_descriptor")) (hm:MtR X id r) (ho:PE X o to) (ha:PA X (e :: es) t)
  (hbase:attributeBase o name X.env (eval o X.env)=eval o X.env:=by rfl)
  (hfew:((backTo cpos (starEach (e :: es) X.env)).all (fun x=> !x.1) && (backToKw cpos (keywordEach [] X.env)).all (fun x=>x.1.isSome)
   && decide ((e :: es).length + ([]:List Keyword).length + (if ([]:List Keyword).isEmpty then 0 else 1) < 30))=true:=by rfl)
  (hline:(apos.endLine == cpos.line)=true:=by rfl) (hs:starEach (e :: es) X.env=(false,eval e X.env) :: starEach es X.env:=by rfl) (hplain:(backTo cpos (starEach es X.env)).any (·.1)=false:=by rfl):
  PE X (.Call (.Attribute o name apos) (e :: es) [] cpos) (tBM X.K T r to t):=by
 intro pins s σ H Q I h
 refine wpAny_Call_method_late hbase hfew hline rfl (thn (ho pins s σ H _ I h) fun v s1 ⟨x,H1,I1,r1,ty,q1⟩=> ?_)
 obtain ⟨h1,h2⟩:=Zn4 I1 r1 ty
 refine ⟨T,id,pa,slot,hty,h1,h2,?_⟩
 have hA:=ha cpos pins s1 σ H1 _ I1 q1
 rw[hs] at hA ⊢
 refine Calls.callWith_builtin (by show (false || (backTo cpos (starEach es X.env)).any (·.1))=false;rw[hplain]<;>rfl) (Calls.evalArgs_plain ?_)
 exact thn hA fun us s2 ⟨vs,H2,I2,r2,q2⟩=>hm pins s2 σ H2 x vs v us Q I2 r1 r2 q2
end
end L2
namespace L2
open PySem PySem.Spec PyProof.Rows
noncomputable def MtM (X:Cx) (id:String) (r:V->List V->Hp->VK->Prop):Prop:=
 ∀ (pins:List (Addr × Obj)) (s:Shared) (σ:St) (H:Hp) (x:V) (xs:List V) (v:Value) (us:List Value) (Q:VK),Inv X pins σ H s->ZV x v->ZX xs us->r x xs H Q->
  wpAny (model X.prog X.w) X.A (call (.builtin id) (v :: us)) (EP X pins σ Q) X.xe s
theorem ZX.one: ∀ {x:V} {us:List Value},ZX [x] us-> ∃ u,us=[u]/\ZV x u
 |_,_,.cons r .nil=>⟨_,rfl,r⟩
theorem ZX.reverse {xs:List V} {us:List Value} (h:ZX xs us):ZX xs.reverse us.reverse:=by
 induction h with
 |nil=>exact .nil
 |cons r t ih=>rw[List.reverse_cons,List.reverse_cons];exact ZX.append ih (.cons r .nil)
section
variable {X:Cx} {pins:List (Addr × Obj)} {σ:St} {H:Hp} {s:Shared} {l b:Addr} {xs ys zs:List V}
theorem Inv.lset {its its':List Value} {n:Nat} {f:Array Value->Array Value} {t':Nat} (I:Inv X pins σ H s) (hH:H l=some (.lst xs))
  (e:s.heap.get? l=some { cls:= .type "list",data:= .seq its.toArray n }) (hf:f its.toArray=its'.toArray) (hv:ZX ys its') (hz:ys.length<=sizeLine):
  Inv X pins σ (upd H l (.lst ys)) { s with heap:=s.heap.update l (Obj.mapSeq f),toks:=t' }:=by
 have q:=PySem.IsL.update e f
 rw[hf] at q
 refine I.write (x:=l) (e:=l) (by rw[hH];exact trivial) (.inl rfl) (fun b' u hb hu=>(Heap.get?_update_other s.heap (Obj.mapSeq f) (Ne.symm hb)).trans hu) ⟨_,q⟩ ?_
 exact ⟨hz,its',_,hv,q⟩
theorem Inv.lnew {its:List Value} {t':Nat} (I:Inv X pins σ H s) (hv:ZX ys its) (hz:ys.length<=sizeLine):
  Inv X pins σ (upd H s.heap.objs.size (.lst ys)) { s with heap:=s.heap.push { cls:= .type "list",data:= .seq its.toArray },toks:=t' }:=
 I.laid (fun _ _ q=>Heap.get?_push_of_some _ q) (Nat.le_refl _) ⟨hz,its,0,hv,Heap.get?_push_size _ rfl⟩
theorem Inv.fresh (I:Inv X pins σ H s):H s.heap.objs.size=none:=I.hok.fresh (Nat.le_refl _)
theorem Inv.lstM (I:Inv X pins σ H s) (hH:H l=some (.lst xs)):xs.length<=sizeLine/\ ∃ (its:List Value) (n:Nat),ZX xs its/\xs.length=its.length/\s.heap.get? l=some { cls:= .type "list",data:= .seq its.toArray n }:=by
 obtain ⟨z,its,n,r,e⟩:=I.hok l _ hH
 exact ⟨z,its,n,r,r.length,e⟩
theorem ZjL {n:Nat} (h:n<=sizeLine):Builtin.List.listTooLong n=false:=by
 unfold Builtin.List.listTooLong
 exact decide_eq_false (by omega)
end
section
variable {X:Cx}
noncomputable def rAppend:V->List V->Hp->VK->Prop:=fun x vs H Q=> ∃ l xs y,x= .ref l/\vs=[y]/\H l=some (.lst xs)/\xs.length < sizeLine/\Q .non (upd H l (.lst (xs ++ [y])))
theorem ZeL:MtM X "list.append" rAppend:=by
 intro pins s σ H x vs v us Q I rx rv h
 obtain ⟨l,xs,y,rfl,rfl,hH,hz,q⟩:=h
 cases rx
 obtain ⟨u,rfl,ru⟩:=rv.one
 obtain ⟨z,its,n,r,hl,e⟩:=I.lstM hH
 refine call_meets F.slot_list_append ⟨_,e,rfl⟩ F.entry_list_append (F.args_list_append_2 _ _) (PySem.list_append l its.toArray n u (by rw[List.size_toArray];omega)) ⟨e,?_⟩
 refine ⟨.non,_,I.lset (its':=its ++ [u]) hH e (by simp) (r.append (.cons ru .nil)) ?_,rfl,q⟩
 rw[List.length_append,List.length_singleton]
 omega
noncomputable def rExtend:V->List V->Hp->VK->Prop:=fun x vs H Q=> ∃ l b xs zs,x= .ref l/\vs=[.ref b]/\H l=some (.lst xs)/\H b=some (.lst zs)/\xs.length + zs.length<=sizeLine/\Q .non (upd H l (.lst (xs ++ zs)))
theorem ZhN:MtM X "list.extend" rExtend:=by
 intro pins s σ H x vs v us Q I rx rv h
 obtain ⟨l,b,xs,zs,rfl,rfl,hH,hB,hz,q⟩:=h
 cases rx
 obtain ⟨u,rfl,ru⟩:=rv.one
 cases ru
 obtain ⟨z,its,n,r,hl,e⟩:=I.lstM hH
 obtain ⟨z2,its2,n2,r2,hl2,e2⟩:=I.lstM hB
 have hsz:its.toArray.size + its2.toArray.size<=sizeLine:=by rw[List.size_toArray,List.size_toArray];omega
 have hlong: ¬ (!its.toArray.isEmpty && Builtin.List.listTooLong (its.toArray.size + its2.toArray.size))=true:=by
  rw[ZjL hsz,Bool.and_false]
  exact Bool.false_ne_true
 refine call_meets F.slot_list_extend ⟨_,e,rfl⟩ F.entry_list_extend (F.args_list_extend_2 _ _)
  (AutoSeq1.list_extend_list_list_0 l its.toArray n b its2.toArray n2 hlong (by rw[List.size_toArray];omega) (by omega)) ⟨e,e2,?_⟩
 refine ⟨.non,_,I.lset (its':=its ++ its2) hH e (by simp) (r.append r2) ?_,rfl,q⟩
 rw[List.length_append]
 omega
noncomputable def rCat:R2:=fun x y H Q=> ∃ l b xs zs,x= .ref l/\y= .ref b/\H l=some (.lst xs)/\H b=some (.lst zs)/\xs.length + zs.length<=sizeLine/\ ∀ p,H p=none->Q (.ref p) (upd H p (.lst (xs ++ zs)))
theorem Zn5:OpR X (binaryOp .Add) rCat:=by
 intro pins s σ H x y v u Q I rx ry h
 obtain ⟨l,b,xs,zs,rfl,rfl,hH,hB,hz,q⟩:=h
 cases rx
 cases ry
 obtain ⟨z,its,n,r,hl,e⟩:=I.lstM hH
 obtain ⟨z2,its2,n2,r2,hl2,e2⟩:=I.lstM hB
 refine PySem.P.add_list e e2 ?_ (by rw[List.size_toArray,List.size_toArray];omega)
 have ea:its.toArray ++ its2.toArray=(its ++ its2).toArray:=by simp
 rw[ea]
 exact ⟨.ref _,_,I.lnew (t':=s.toks) (r.append r2) (by rw[List.length_append];omega),rfl,q _ I.fresh⟩
end
section
variable {prog:Program} {w:World} {A:Around} {E:Value->Shared->Prop} {s:Shared}
end
section
variable {X:Cx}
end
end L2
namespace Att
open PySem PySem.W PySem.Calls PyProof.Rows
theorem ZcY {P:Params} {h:Heap}: ∀ (ns:List Int) (vs:List Value),WellAll P h vs (ns.map WData.int)->IntsAre vs ns:=by
 intro ns
 induction ns with
 |nil=>
  intro vs w
  rw[List.map_nil] at w
  cases w
  exact .nil
 |cons n ns ih=>
  intro vs w
  rw[List.map_cons] at w
  cases w with
  |cons a b=>
   cases a
   exact .cons _ _ (ih _ b)
theorem ZhO {l:OpenLaw} {n:Nat} (hn:l.most=some n) {P:Params} {h:Heap} {args:List WData} {vals:List Value}
  (hpre:l.row.toRowW.claim.pre args=true) (hwl:WellAll P h vals args):
  ∃ a vs ns,vals=[Value.ref a]/\args=[WData.list (ns.map WData.int)]/\h.get? a=some { cls:= .type "list",data:= .seq vs.toArray }/\IntsAre vs ns/\ns.length<=n:=by
 have hsh:WShape.hasAll [] args [.list .int]=true:=(pre_splitW hpre).1
 have hc:l.pre.holds [] { args:=args }=true:=(pre_splitW hpre).2
 obtain ⟨d,r,rfl,h1,h2⟩:=hasAllW_cons hsh
 obtain rfl:=hasAllW_nil h2
 obtain ⟨xs,rfl,h3⟩:=hasW_list h1
 obtain ⟨ns,rfl⟩:=items_int h3
 have hlen:ns.length<=n:=by
  unfold OpenLaw.pre at hc
  have h4:(WTm.not (.lt (.lit (.int (n:Int))) (.len (.arg 0)))).holds [] { args:=[.list (ns.map .int)] }=true:=by
   have h4:=(holds_andW hc).1
   rw[hn] at h4
   exact h4
  have h5:=condW_of h4 (w_not (w_lt w_lit (w_len_list (w_arg rfl))))
  rw[List.length_map] at h5
  refine Nat.le_of_not_lt fun q=> ?_
  have q':(n:Int) < ((ns.length:Nat):Int):=by omega
  first
   | (rw[decide_eq_true q'] at h5;exact absurd h5 (by decide))
   | (simp at h5;omega)
 cases hwl with
 |cons w1 w2=>
  cases w2
  cases w1 with
  |list ho hall=>exact ⟨_,_,ns,rfl,rfl,ho,ZcY ns _ hall,hlen⟩
theorem ZhP (l:OpenLaw) (args:List WData):l.row.toRowW.claim.post args (.bool true) args=true:=
 postW_of (r:=l.row.toRowW) (X:=(true == true))
  (show WShape.has [] (.bool true) .bool=true by first | rfl | decide | simp[WShape.has,WShape.arms,WShape.armsAll])
  (show (WTm.eq .res (.lit (.bool true))).value [] { args:=args,res:=some (.bool true),after:=args }=some (.bool (true == true)) from w_eq_bool (w_res rfl) w_lit) rfl
theorem ZfA {l:OpenLaw} {n:Nat} {q:Program} {loose:List Str} {XP:(Str->Option Value)->Heap->Prop} {YP:World->Heap->Prop} {d:DefRec}
  (hn:l.most=some n) (hdf:d.params.defaults=[])
  (call: ∀ (w:World) (s₀ s₁:Shared) (mg mb:Str->Option Value) (fa:Addr) (o:Obj) (pm cd doc:Value) (a:Addr) (vs:List Value) (ns:List Int),
   Ground q loose [] XP w s₀ mg mb s₁.heap->YP w s₁.heap->
   s₁.heap.get? fa=some o->o.data= .func (docDef d.name d.params d.body d.scope pm cd doc)->s₁.heap.CodeRec cd d.name->mg d.name=some (.ref fa)->
   s₁.heap.get? a=some { cls:= .type "list",data:= .seq vs.toArray }->IntsAre vs ns->ns.length<=n->s₁.gens= #[]->
   codeAny (model l.prog w) callerA (.call (.ref fa) ⟨[.ref a],[]⟩) (fun r s'=>r= .ok (.ret (.bool true))/\OldK s₁.heap s'.heap/\s'.os=s₁.os/\AllBare s'.gens) s₁):
  WalkO q loose XP YP l.row.toRowW d [] (fun f vs=>PySem.call f vs):=by
 intro w s₀ s₁ mg mb G Y fa o pm cd doc dV kV ho hd hcd hD hmg hg args vals as hpre hlay hrd hwl hlo
 obtain rfl:dV= .none:=Dflts.none hD hdf
 obtain rfl:kV= .none:=Dflts.noKw hD
 obtain ⟨a,vs,ns,rfl,rfl,hobj,hints,hlen⟩:=ZhO hn hpre hwl
 refine enter_call (codeAny_mono (call w s₀ s₁ mg mb fa o pm cd doc a vs ns G Y ho (fd_plain hd) hcd hmg hobj hints hlen hg) fun r s' hq=> ?_)
 obtain ⟨rfl,h2,h3,h4⟩:=hq
 exact ⟨.inl ⟨.bool true,.bool true,[],rfl,fun _=>rfl,.bool true,ZhP l _,fun _=>⟨List.Pairwise.nil,fun _ hm=>(nomatch hm)⟩⟩,h2,h3,h4⟩
section
variable {prog:Program} {w:World} {A:Around} {E:Value->Shared->Prop} {s:Shared} {K:Frag}
end
end Att
namespace L2
open PySem PySem.Spec PyProof.Rows
theorem ZeM: ∀ {vs:List Value} {ns:List Int},IntsAre vs ns->ZX (ns.map V.int) vs
 |_,_,.nil=> .nil
 |_,_,.cons n t h=> .cons ⟨t,rfl⟩ (ZeM h)
noncomputable def ZqR (H:Hp):Prop:= ∀ b,H b=none\/ ∃ o xs,H b=some (.frz o (.lst xs))
theorem ZjM {P:Program} {w:World} {K:PySem.W.Frag} {mg mb:Str->Option Value} {CX:CXT} {k:Nat} {fa a:Addr} {fd:FuncData} {x:Str} {sp:Sp} {s₁:Shared} {vs:List Value} {ns:List Int}
  (KX:K.In s₁.heap) (hns:s₁.heap.Ns mainGlobals mg) (hb:s₁.heap.Ns builtinsNs mb) (hbb: ∀ x:Str,x≠"__name__"->mb x=bootBuiltins x) (hlim:s₁.heap.NoLimit) (hg:s₁.gens= #[])
  (ha:s₁.heap.get? a=some { cls:= .type "list",data:= .seq vs.toArray }) (hi:IntsAre vs ns) (hl:ns.length<=sizeLine) (hr:Room k callerA)
  (F: ∀ base:Heap,K.In base->base.Ns mainGlobals mg->FnOk P w K mg base CX k fa fd [x] sp) (hbind: ∀ (s:Shared) (u:Value),BindsTo s fd ⟨[u],[]⟩ [(x,u)])
  (hsp: ∀ H:Hp,ZqR H->SqL K H a (ns.map V.int)->sp [.ref a] H (fun v _=>v= .bl true) fun _ _ _=>False)
  (hCX: ∀ H e s',CX [] H s₁ (fun _ _ _=>False) e s'->False):
  codeAny (model P w) callerA (.call (.ref fa) ⟨[.ref a],[]⟩) (fun r s'=>r= .ok (.ret (.bool true))/\OldK s₁.heap s'.heap/\s'.os=s₁.os/\AllBare s'.gens) s₁:=by
 have rv:=ZeM hi
 have lenV:=hi.length
 have core: ∀ H:Hp,ZqR H->SqL K H a (ns.map V.int)->HOk P w H s₁.heap->(∀ b,H b≠none->b=a)->(H a≠none->K.lookup a=none)->
   codeAny (model P w) callerA (.call (.ref fa) ⟨[.ref a],[]⟩) (fun r s'=>r= .ok (.ret (.bool true))/\OldK s₁.heap s'.heap/\s'.os=s₁.os/\AllBare s'.gens) s₁:=by
  intro H hO hS hok hA hK
  have base_of: ∀ {b:Addr} {o:Obj},s₁.heap.get? b=some o->H b=none->(Zjs s₁.heap H).get? b=some o:=fun e n=>Zgd e n
  have noA: ∀ {b:Addr} {o:Obj} {es:Array DictEntry} {ep:Nat},s₁.heap.get? b=some o->o.data= .dict es ep->H b=none:=fun {b o es ep} e d=>by
   cases q:H b with
   |none=>rfl
   |some u=>
    have e':b=a:=hA b (by rw[q];simp)
    subst e'
    rw[ha] at e;cases e
    have d':Data.seq vs.toArray _=Data.dict es ep:=d
    cases d'
  have nsK: ∀ {b:Addr} {m:Str->Option Value},s₁.heap.Ns b m->(Zjs s₁.heap H).Ns b m:=fun {b m} ⟨o,es,ep,e,d,r⟩=>⟨o,es,ep,base_of e (noA e d),d,r⟩
  have hKb:K.In (Zjs s₁.heap H):=fun b o e=>base_of (KX b o e) (by
   cases q:H b with
   |none=>rfl
   |some u=>
    have e':b=a:=hA b (by rw[q];simp)
    subst e'
    rw[hK (by rw[q];simp)] at e;cases e)
  have hM:Mod K mg (Zjs s₁.heap H):=⟨hKb,nsK hns,⟨mb,nsK hb,hbb⟩,let ⟨mc,h1,h2⟩:=hlim;⟨mc,nsK h1,h2⟩⟩
  have e0:Env0 P w K mg (Zjs s₁.heap H) callerA [] s₁ H:=⟨rfl,hM,fun b o e=>Zhy e,Nat.le_of_eq (Zhx _ _),trivial,fun b hb=>absurd (show b∈([]:List Addr) from hb) (by simp),hok,.of_eq hg,.inl rfl⟩
  refine codeAny_mono ((F _ hKb (nsK hns)).run callerA [] s₁ H ⟨[.ref a],[]⟩ [.ref a] [.ref a] _ _ hr e0 (hbind s₁ (.ref a)) (.cons rfl .nil) (hsp H hO hS)) fun r s' h=> ?_
  cases r with
  |error e=>exact (hCX H e s' h).elim
  |ok fl=>
   cases fl with
   |next=>exact False.elim h
   |brk=>exact False.elim h
   |cont=>exact False.elim h
   |ret u=>
    obtain ⟨v,H',os,bare,un,hok',r',q⟩:=h
    have q':v= .bl true:=q
    subst q'
    obtain rfl:u=Value.bool true:=r'
    refine ⟨rfl,OldK.of_keep fun b o e=> ?_,os,bare⟩
    cases q:H b with
    |none=>exact un.keep b o e q (by intro z;exact absurd (show b∈([]:List Addr) from z) (by simp)) (by simp)
    |some u=>
     rcases hO b with z | ⟨ob,xs,z⟩
     ·rw[q] at z;cases z
     ·have z2:=un.frzs b ob _ z
      obtain ⟨e1,_⟩:=hok b _ z
      obtain ⟨e2,_⟩:=hok' b _ z2
      rw[e] at e1;cases e1
      exact e2
 cases hk:K.lookup a with
 |some o=>
  have e:=KX a o hk
  rw[ha] at e
  cases e
  refine core (fun _=>none) (fun _=> .inl rfl) (.inr ⟨_,vs.toArray,_,hk,rfl,rfl,rfl,by rw[List.size_toArray,lenV];exact hl,by simpa using rv⟩) (fun b u z=>by have z':(none:Option HO)=some u:=z;cases z') (fun b z=>absurd rfl z) fun z=>absurd rfl z
 |none=>
  refine core (fun b=>if b=a then some (.frz { cls:= .type "list",data:= .seq vs.toArray } (.lst (ns.map V.int))) else none) (fun b=> ?_) (.inl (.inr ⟨{ cls:= .type "list",data:= .seq vs.toArray },if_pos rfl⟩)) (fun b u z=> ?_) (fun b z=> ?_) fun _=>hk
  ·by_cases hb:b=a
   ·exact .inr ⟨_,_,if_pos hb⟩
   ·exact .inl (if_neg hb)
  ·by_cases hb:b=a
   ·have z':=(if_pos hb).symm.trans z
    cases z'
    subst hb
    exact ⟨ha,by rw[List.length_map];exact hl,vs,_,rv,ha⟩
   ·have z':=(if_neg hb).symm.trans z
    cases z'
  ·by_cases hb:b=a
   ·exact hb
   ·exact absurd (if_neg hb) z
end L2
namespace L2
open PySem PySem.Spec PyProof.Rows
theorem ZlT {l:PySem.W.OpenLaw} {n k:Nat} {q:Program} {loose:List Str} {XP:(Str->Option Value)->Heap->Prop} {YP:World->Heap->Prop} {d:DefRec} {K:Params->PySem.W.Frag} {CX:World->CXT} {sp:World->Sp} {x:Str}
  (hn:l.most=some n) (hn2:n<=sizeLine) (hdf:d.params.defaults=[]) (hr:Room k callerA)
  (hY: ∀ (w:World) (h:Heap),YP w h->(K w.params).In h)
  (F: ∀ (w:World) (mg:Str->Option Value) (fa:Addr) (h:Heap),(K w.params).In h->h.Ns mainGlobals mg->mg d.name=some (.ref fa)->
   ∃ fd:FuncData,(∀ (s:Shared) (u:Value),BindsTo s fd ⟨[u],[]⟩ [(x,u)])/\
    ∀ base:Heap,(K w.params).In base->base.Ns mainGlobals mg->FnOk l.prog w (K w.params) mg base (CX w) k fa fd [x] (sp w))
  (hsp: ∀ (w:World) (H:Hp) (a:Addr) (ns:List Int),ns.length<=n->ZqR H->SqL (K w.params) H a (ns.map V.int)->sp w [.ref a] H (fun v _=>v= .bl true) fun _ _ _=>False)
  (hCX: ∀ (w:World) (H:Hp) (s:Shared) (e:Value) (s':Shared),CX w [] H s (fun _ _ _=>False) e s'->False):
  PySem.W.WalkO q loose XP YP l.row.toRowW d [] (fun f vs=>PySem.call f vs):=by
 refine Att.ZfA hn hdf fun w s₀ s₁ mg mb fa o pm cd doc a vs ns G Y ho hd hcd hmg hobj hints hlen hg=> ?_
 have KX:=hY w _ Y
 obtain ⟨fd,hb,hF⟩:=F w mg fa _ KX G.T.g hmg
 exact ZjM KX G.T.g G.T.b G.T.builtins G.T.nolimit hg hobj hints (Nat.le_trans hlen hn2) hr hF hb (fun H hO hS=>hsp w H a ns hlen hO hS) fun H e s'=>hCX w H s₁ e s'
end L2
namespace L2
open PySem PySem.Spec PyProof.Rows
noncomputable def Zt (s:Stmt):Arguments:=match s with
 | .FunctionDef _ a _ _ _ _ _ _ _ _=>a
 |_=>{ posonlyargs:=[],args:=[],vararg:=none,kwonlyargs:=[],kw_defaults:=[],kwarg:=none,defaults:=[] }
noncomputable def Zr (s:Stmt):List Stmt:=match s with
 | .FunctionDef _ _ b _ _ _ _ _ _ _=>b
 |_=>[]
noncomputable def Zg (s:Stmt):Scope:=match s with
 | .FunctionDef _ _ _ _ _ _ sc _ _ _=>sc
 |_=>{ kind:= .function,names:=[],isGenerator:=false,isCoroutine:=false }
noncomputable abbrev E0:XK:=fun _ _ _=>False
structure Fun (K:PySem.W.Frag) (x qual:Str) (st:Stmt) (f:Addr) (fd:FuncData):Prop where
 ex: ∃ (oc:Value) (od:Option Addr) (kV doc pm:Value) (an:Option Addr) (cdv ct:Value) (osl:Array (Option Value)),
  fd=PySem.W.fnOf x qual (Zt st) (Zr st) (Zg st) .none kV doc pm an cdv ct/\K.lookup f=some ⟨oc,od,.func fd,osl⟩/\PySem.W.codeIn K cdv qual=true
 kp:PySem.W.keepIn K (.ref f)=true
section
variable {P:Program} {w:World} {K:PySem.W.Frag} {mg:Str->Option Value} {base:Heap}
theorem Fun.binds {x qual:Str} {st:Stmt} {f:Addr} {fd:FuncData} {ps:List Str} (F:Fun K x qual st f fd)
  (h: ∀ (kV doc pm:Value) (an:Option Addr) (cdv ct:Value) (us:List Value),us.length=ps.length->bindArgs (PySem.W.fnOf x qual (Zt st) (Zr st) (Zg st) .none kV doc pm an cdv ct) ⟨us,[]⟩=pure (ps.zip us)):Zfy K fd ps []:=by
 obtain ⟨oc,od,kV,doc,pm,an,cdv,ct,osl,rfl,lk,hcd⟩:=F.ex
 exact .all (h kV doc pm an cdv ct)
theorem ZG {x qual:Str} {st:Stmt} {f:Addr} {oc:Value} {od an:Option Addr} {osl:Array (Option Value)} {kV doc pm cdv ct:Value} (l:K.lookup f=some ⟨oc,od,.func (PySem.W.fnOf x qual (Zt st) (Zr st) (Zg st) .none kV doc pm an cdv ct),osl⟩)
  (c:PySem.W.codeIn K cdv qual=true) (k:PySem.W.keepIn K (.ref f)=true):Fun K x qual st f (PySem.W.fnOf x qual (Zt st) (Zr st) (Zg st) .none kV doc pm an cdv ct):=⟨⟨oc,od,kV,doc,pm,an,cdv,ct,osl,rfl,l,c⟩,k⟩
end
theorem ZhQ {n:Nat} (h:n<=1000):n < sizeLine:=Nat.lt_of_le_of_lt h (by decide)
section
variable {X:Cx}
theorem pv (i:Nat) {x:Str} {pos:Pos} (hN:X.N[i]?=some x:=by rfl) (hv:Vis X.env.scope x:=by first | exact Or.inl rfl | exact Or.inr (Or.inl rfl) | exact Or.inr (Or.inr rfl)) (hd:(x == ("__debug__":Str))=false:=by decide)
  (hcd:(x == ("__classdict__":Str))=false:=by decide):PE X (.Name x pos) (Zth i):=ZkI hN hv hd hcd
end
theorem ZkP {A B:Prop} (h:B):if false=true then A else B:=by
 rw[if_neg Bool.false_ne_true]
 exact h
theorem ZkQ {A B:Prop} (h:A):if true=true then A else B:=by
 rw[if_pos rfl]
 exact h
noncomputable def Zjt (H H':Hp):Prop:= ∀ b o,H b=some o->H' b=some o
theorem Zjt.free {H H':Hp} (e:Zjt H H') {l:Addr} (h:H' l=Option.none):H l=Option.none:=by
 cases q:H l with
 |none=>rfl
 |some o=>
  rw[e l o q] at h
  cases h
end L2
end
section
namespace L2
open PySem PySem.Spec PyProof.Rows
end L2
namespace L2
open PySem PySem.Spec PyProof.Rows
section
variable (P:Program) (w:World)
end
section
variable {P:Program} {w:World} {H H':Hp} {h h':Heap} {a:Addr} {o:HO}
end
section
variable {P:Program} {w:World} {H:Hp} {h h':Heap} {x e:Addr} {o':HO}
end
section
variable {fs fs' ex ex':List Addr} {H H1 H2:Hp} {h h1 h2 h':Heap} {a x e:Addr} {o:HO}
end
end L2
namespace L2
open PySem PySem.Spec PyProof.Rows
section
variable {X:Cx} {pins:List (Addr × Obj)} {σ:List (Option V)} {H H':Hp} {s:Shared} {h':Heap}
end
end L2
namespace L2
open PySem PySem.Spec PyProof.Rows
section
variable {X:Cx}
variable {a b:Expr} {ta tb:TE} {pos:Pos}
variable {tA tB':TT} {rest:List Expr}
end
end L2
namespace L2
open PySem PySem.Spec PyProof.Rows
section
variable {X:Cx} {pins:List (Addr × Obj)} {σ:St} {H:Hp} {s:Shared} {a:Addr} {xs ys:List V}
end
section
variable {X:Cx} {pins:List (Addr × Obj)} {σ:St} {H:Hp} {s:Shared} {E:Value->Shared->Prop}
end
section
variable {X:Cx} {st:Stmt} {rest:List Stmt} {t u:TS} {e:Expr} {te:TE} {pos:Pos}
end
section
variable {X:Cx} {pos:Pos}
end
section
variable {X:Cx} {pos:Pos}
end
end L2
namespace L2
open PySem PySem.Spec PyProof.Rows
section
variable {X:Cx} {tg:Expr}
end
end L2
namespace L2
open PySem PySem.Spec PyProof.Rows
section
variable {X:Cx} {a b c:Expr} {ta tb tc:TE} {pos:Pos}
end
section
variable {X:Cx} {a b c:Expr} {ta tb tc:TE} {pos:Pos}
end
end L2
namespace L2
open PySem PySem.Spec PyProof.Rows
section
variable {prog:Program} {w:World} {A:Around} {E:Value->Shared->Prop} {s:Shared} {K:PySem.W.Frag} {x dx C f:Addr} {mA:Str->Option Value} {name:Str} {v:Value}
end
section
variable {P:Program} {w:World} {H H':Hp} {h h':Heap} {a C dx:Addr} {fs fs':List (Str × V)}
end
section
variable {X:Cx} {pins:List (Addr × Obj)} {σ:St} {H:Hp} {s:Shared} {a C dx:Addr} {fs:List (Str × V)} {f:Str} {v:V} {A:Around} {E:Value->Shared->Prop}
end
section
variable {X:Cx} {o e value:Expr} {f:Str} {pos pos' tpos:Pos} {ta tv:TE}
end
section
variable {X:Cx} {pins:List (Addr × Obj)} {σ:St} {H:Hp} {s:Shared} {A:Around} {E:Value->Shared->Prop} {Q:Value->Shared->Prop} {c:Value} {b:Bool}
end
end L2
namespace L2
open PySem PySem.Spec PyProof.Rows
section
variable {X:Cx} {e:Expr} {es:List Expr} {te:TE} {t:TA} {pos:Pos}
end
section
variable {X:Cx} {pins:List (Addr × Obj)} {σ:St} {H:Hp} {s s':Shared}
end
section
variable {X:Cx} {CX:CXT} {k:Nat} {f C:Addr} {fd:FuncData} {ps:List Str} {sp:Sp} {dvs:List V} {ds:List Value} {E:XK} {x m:Str} {p pos apos:Pos} {e o:Expr} {es:List Expr} {ta:TE} {t:TA}
end
section
variable {X:Cx} {CX:CXT} {k:Nat} {f C:Addr} {fd:FuncData} {ps ks:List Str} {sp:Sp} {E:XK} {x m:Str} {p pos apos kpos:Pos} {e o:Expr} {es:List Expr} {kws:List Keyword} {te ta:TE} {t tk:TA} {nm:Option Str}
variable {g:List Value->List Value->List Value} {gV:List V->List V->List V}
end
end L2
namespace L2
open PySem PySem.Spec PyProof.Rows
section
variable {X:Cx} {x:Str} {p pos:Pos} {e:Expr} {es:List Expr} {t:TA} {id T:String} {r:List V->Hp->VK->Prop}
end
end L2
namespace L2
open PySem PySem.Spec PyProof.Rows
section
variable {κ:Type} [DecidableEq κ]
noncomputable def ZeC (kvs:List (κ × V)) (k:κ):Option V:=(kvs.find? fun kv=>decide (kv.1=k)).map (·.2)
noncomputable def ZhR (kvs:List (κ × V)) (k:κ) (v:V):List (κ × V):=
 if (kvs.any fun kv=>decide (kv.1=k))=true then kvs.map (fun kv=>if kv.1=k then (kv.1,v) else kv) else kvs ++ [(k,v)]
theorem ZcL {p:κ × V} {r:List (κ × V)} {k:κ} (e:p.1=k):ZeC (p :: r) k=some p.2:=by simp[ZeC,List.find?_cons,e]
theorem ZcM {p:κ × V} {r:List (κ × V)} {k:κ} (e: ¬ p.1=k):ZeC (p :: r) k=ZeC r k:=by simp[ZeC,List.find?_cons,e]
theorem Zd4 (k:κ): ∀ kvs:List (κ × V),(kvs.any fun kv=>decide (kv.1=k))=(ZeC kvs k).isSome
 | []=>rfl
 |p :: r=>by
  rw[List.any_cons]
  by_cases e:p.1=k
  ·simp only[ZcL e,decide_eq_true e,Bool.true_or,Option.isSome_some]
  ·rw[ZcM e,decide_eq_false e,Bool.false_or];exact Zd4 k r
theorem ZfB (kvs:List (κ × V)) (k:κ) (v:V):(ZhR kvs k v).length<=kvs.length + 1:=by
 unfold ZhR
 split
 ·rw[List.length_map];omega
 ·rw[List.length_append,List.length_cons,List.length_nil];omega
theorem Znr.isSome_eq {o:Option V} {u:Option Value} (r:Znr o u):o.isSome=u.isSome:=by
 cases o with
 |none=>cases u with
  |none=>rfl
  |some _=>exact (show False from r).elim
 |some _=>cases u with
  |none=>exact (show False from r).elim
  |some _=>rfl
theorem KV.val {kvs:List (κ × V)} {vs:List (κ × Value)} (r:KV kvs vs) (k:κ):Znr (ZeC kvs k) (valueAt vs k):=by
 unfold KV at r
 induction r with
 |nil=>exact True.intro
 | @cons p q ps qs h t ih=>
  obtain ⟨h1,h2⟩:=h
  by_cases e:p.1=k
  ·have e':q.1=k:=h1.symm.trans e
   have b:valueAt (q :: qs) k=some q.2:=by simp[valueAt,List.find?_cons,e']
   rw[ZcL e,b];exact h2
  ·have e': ¬ q.1=k:=fun z=>e (h1.trans z)
   have b:valueAt (q :: qs) k=valueAt qs k:=by simp[valueAt,List.find?_cons,e']
   rw[ZcM e,b];exact ih
end
theorem Zn6 {P:Program} {w:World} {k:Key} {u:Value} (r:ZV (kV k) u):(ZaE P w).is k u=true:=by
 cases k with
 |inl i=>obtain ⟨t,e⟩:=(show ∃ t,u=Value.int i t from r);subst e;exact Zfv P w i t
 |inr x=>obtain ⟨t,e⟩:=(show ∃ t,u=Value.str x t from r);subst e;exact Zfw P w x t
theorem ZeN {P:Program} {w:World}: ∀ {ks:List Key} {us:List Value},ZX (ks.map kV) us->ItemsAre (ZaE P w) ks us
 | [],_,r=>by rw[List.map_nil] at r;cases r;exact .nil
 |k :: ks,_,r=>by
  rw[List.map_cons] at r
  cases r with
  |cons h t=>exact .cons (Zn6 h) (ZeN t)
noncomputable abbrev KT (H:Hp):List (List Key × V)->List (List Key × Addr × Value)->Prop:=Paired fun p q=>p.1=q.1/\H q.2.1=some (.tup (p.1.map kV))/\ZV p.2 q.2.2
theorem KT.val {H:Hp} {kvs:List (List Key × V)} {xs:List (List Key × Addr × Value)} (r:KT H kvs xs) (k:List Key):Znr (ZeC kvs k) ((atKey xs k).map (·.2)):=by
 induction r with
 |nil=>exact True.intro
 | @cons p q ps qs h t ih=>
  obtain ⟨h1,_,h2⟩:=h
  by_cases e:p.1=k
  ·have e':q.1=k:=h1.symm.trans e
   have b:atKey (q :: qs) k=some q.2:=by simp[atKey,List.find?_cons,e']
   rw[ZcL e,b];exact h2
  ·have e': ¬ q.1=k:=fun z=>e (h1.trans z)
   have b:atKey (q :: qs) k=atKey qs k:=by simp[atKey,List.find?_cons,e']
   rw[ZcM e,b];exact ih
theorem KT.repl {H:Hp} {kvs:List (List Key × V)} {xs:List (List Key × Addr × Value)} (r:KT H kvs xs) (k:List Key) {y:V} {u:Value} (ry:ZV y u):
  KT H (kvs.map fun kv=>if kv.1=k then (kv.1,y) else kv) (xs.map (putAt k u)):=by
 induction r with
 |nil=>exact .nil
 | @cons p q ps qs h t ih=>
  rw[List.map_cons,List.map_cons]
  refine .cons ?_ ih
  obtain ⟨h1,h2,h3⟩:=h
  unfold putAt
  by_cases e:p.1=k
  ·rw[if_pos e,if_pos (h1.symm.trans e)];exact ⟨h1,h2,ry⟩
  ·rw[if_neg e,if_neg (fun z=>e (h1.trans z))];exact ⟨h1,h2,h3⟩
theorem KT.put {H:Hp} {kvs:List (List Key × V)} {xs:List (List Key × Addr × Value)} (r:KT H kvs xs) (k:List Key) {b:Addr} {y:V} {u:Value} (hb:H b=some (.tup (k.map kV))) (ry:ZV y u):
  KT H (ZhR kvs k y) (storedH xs k b u):=by
 have e:(kvs.any fun kv=>decide (kv.1=k))=(atKey xs k).isSome:=by
  rw[Zd4,(r.val k).isSome_eq,Option.isSome_map]
 unfold ZhR storedH
 rw[e]
 by_cases q:(atKey xs k).isSome=true
 ·rw[if_pos q,if_pos q];exact r.repl k ry
 ·rw[if_neg q,if_neg q];exact Paired.snoc r ⟨rfl,hb,ry⟩
theorem KT.keeps {H H':Hp} {kvs:List (List Key × V)} {xs:List (List Key × Addr × Value)} (r:KT H kvs xs) (ht: ∀ b ys,H b=some (.tup ys)->H' b=some (.tup ys)):KT H' kvs xs:=
 Paired.mapP r fun _ _ z=>⟨z.1,ht _ _ z.2.1,z.2.2⟩
section
variable {P:Program} {w:World} {H:Hp} {h:Heap} {a:Addr}
theorem Zn7 {u:HO} (ok:HOk P w H h) (e:Rd H a u):Zba P w H h a u:=e.ok ok
theorem Zrh {kvs:List (Key × V)} (ok:HOk P w H h) (e:Rd H a (.dK kvs)):kvs.length<=sizeLine/\(a == sysModules)=false/\ ∃ vs,KV kvs vs/\h.DictOf (ZaE P w) a vs:=
 show Zba P w H h a (.dK kvs) from Zn7 ok e
theorem ZhS {ks:List Key} (ok:HOk P w H h) (e:H a=some (.tup (ks.map kV))):(tupleKind (ZaE P w)).is h ks a:=by
 obtain ⟨_,its,r,o,h1,h2,n,h3⟩:=(show Zba P w H h a (.tup (ks.map kV)) from ok a _ e)
 exact ⟨o,its.toArray,n,h1,h2,h3,by simpa using ZeN r⟩
theorem Zn8 {kvs:List (List Key × V)} (ok:HOk P w H h) (e:Rd H a (.dT kvs)):kvs.length<=sizeLine/\(a == sysModules)=false/\
  ∃ xs,KT H kvs xs/\h.DictOfH (tupleKind (ZaE P w)) a xs:=by
 obtain ⟨z,y,xs,r,o,es,ep,h1,h2,h3,h4,h5⟩:=(show Zba P w H h a (.dT kvs) from Zn7 ok e)
 refine ⟨z,y,xs,r,o,es,ep,h1,h2,h3,h4,fun x hx=> ?_,h5⟩
 have all: ∀ {l:List (List Key × V)} {m:List (List Key × Addr × Value)},KT H l m-> ∀ x∈m,(tupleKind (ZaE P w)).is h x.1 x.2.1:=by
  intro l m q
  induction q with
  |nil=>intro x hx;exact nomatch hx
  | @cons p q ps qs hq t ih=>
   intro x hx
   rcases List.mem_cons.mp hx with e | hx
   ·subst e
    exact ZhS ok (by rw[<- hq.1];exact hq.2.1)
   ·exact ih x hx
 exact all r x hx
theorem ZjN {kvs:List (List Key × V)} (ok:HOk P w H h) (e:H a=some (.dT kvs)):kvs.length<=sizeLine/\(a == sysModules)=false/\
  ∃ xs,KT H kvs xs/\h.DictOfH (tupleKind (ZaE P w)) a xs:=Zn8 ok (.inl e)
end
noncomputable def ZjO (H:Hp) (a:Addr) (y:V) (r:Option V):Prop:=
 (∃ kvs k,Rd H a (.dK kvs)/\y=kV k/\r=ZeC kvs k)\/ ∃ kvs k b,Rd H a (.dT kvs)/\y= .ref b/\H b=some (.tup (k.map kV))/\r=ZeC kvs k
theorem ZjO.k {H:Hp} {a:Addr} {kvs:List (Key × V)} {k:Key} (e:H a=some (.dK kvs)):ZjO H a (kV k) (ZeC kvs k):= .inl ⟨kvs,k,.inl e,rfl,rfl⟩
theorem ZjO.t {H:Hp} {a b:Addr} {kvs:List (List Key × V)} {k:List Key} (e:H a=some (.dT kvs)) (eb:H b=some (.tup (k.map kV))):ZjO H a (.ref b) (ZeC kvs k):= .inr ⟨kvs,k,b,.inl e,rfl,eb,rfl⟩
section
variable {X:Cx} {pins:List (Addr × Obj)} {σ:St} {H:Hp} {s:Shared} {a:Addr} {y v:V} {u r:Value} {o:Option V} {A:Around} {E:Value->Shared->Prop}
theorem Inv.big (I:Inv X pins σ H s):sysModules < s.heap.objs.size:=by
 have h:mainGlobals < s.heap.objs.size:=(I.mod.glob.keeps I.bk).lt
 exact Nat.lt_trans (by decide) h
theorem ZuA {Q:Value->Shared->Prop} (hu:A.units + 1 < cLine) (I:Inv X pins σ H s) (g:ZjO H a y o) (ry:ZV y u) (h: ∀ s',Inv X pins σ H s'->Q (.bool o.isSome) s'):
  wpAny (model X.prog X.w) A (compareOp .In u (.ref a)) Q E s:=by
 rcases g with ⟨kvs,k,e,ey,l⟩ | ⟨kvs,k,b,e,ey,eb,l⟩
 ·subst ey
  obtain ⟨z,hd,vs,rel,dd⟩:=Zrh I.hok e
  refine wpAny_in_of (Zn6 ry) hd dd.mapOf ?_
  rw[<- (rel.val k).isSome_eq,<- l]
  exact h _ (I.tok _)
 ·subst ey
  cases (show u=Value.ref b from ry)
  obtain ⟨z,hd,xs,rel,dd⟩:=Zn8 I.hok e
  refine wpAny_in_heap (tupleKind_room_in1 hu) (ZhS I.hok eb) hd dd ?_
  have q:=(rel.val k).isSome_eq
  rw[Option.isSome_map] at q
  rw[<- q,<- l]
  exact h _ (I.tok _)
theorem ZlU {h':Heap} {t':Nat} {ob:HO} (I:Inv X pins σ H s) (mu:Mut (H a)) (hs:Heap.SameBut a s.heap h') (he: ∃ q,h'.get? a=some q) (new:Zba X.prog X.w (upd H a ob) h' a ob):
  Inv X pins σ (upd H a ob) { s with heap:=h',toks:=t' }:=
 I.write (x:=a) (e:=a) mu (.inl rfl) (fun b q hb z=>(hs.2 b hb).trans z) he new
end
section
variable {X:Cx} {pins:List (Addr × Obj)} {σ:St} {H:Hp} {s:Shared} {a:Addr} {kvs:List (Key × V)} {k:Key} {u:Value} {A:Around} {E:Value->Shared->Prop}
end
section
variable {X:Cx} {o i e value:Expr} {pos pos' tpos:Pos} {td ty tv:TE}
end
theorem ZjP {P:Program} {w:World} {H:Hp} (h:Heap) (hb:sysModules < h.objs.size):Zba P w H (h.push { cls:= .type "dict",data:= .dict #[] }) h.objs.size (.dT []):=
 ⟨Nat.zero_le _,beq_eq_false_iff_ne.mpr (Ne.symm (Nat.ne_of_lt hb)),[],.nil,_,#[],0,Heap.get?_push_size _ rfl,⟨rfl,rfl,rfl⟩,rfl,rfl,List.nodup_nil⟩
section
variable {X:Cx} {pos:Pos}
end
structure M1 (X:Cx) (o:Expr) (m:Str) (apos:Pos) (e:Expr) (cpos:Pos):Prop where
 base:attributeBase o m X.env (eval o X.env)=eval o X.env
 few:((backTo cpos (starEach [e] X.env)).all (fun x=> !x.1) && (backToKw cpos (keywordEach [] X.env)).all (fun x=>x.1.isSome)
  && decide (([e]:List Expr).length + ([]:List Keyword).length + (if ([]:List Keyword).isEmpty then 0 else 1) < 30))=true
 line:(apos.endLine == cpos.line)=true
 trees:backTo cpos (starEach [e] X.env)=[(false,eval e X.env)]
structure M2 (X:Cx) (o:Expr) (m:Str) (apos:Pos) (e f:Expr) (cpos:Pos):Prop where
 base:attributeBase o m X.env (eval o X.env)=eval o X.env
 few:((backTo cpos (starEach [e,f] X.env)).all (fun x=> !x.1) && (backToKw cpos (keywordEach [] X.env)).all (fun x=>x.1.isSome)
  && decide (([e,f]:List Expr).length + ([]:List Keyword).length + (if ([]:List Keyword).isEmpty then 0 else 1) < 30))=true
 line:(apos.endLine == cpos.line)=true
 trees:backTo cpos (starEach [e,f] X.env)=[(false,eval e X.env),(false,eval f X.env)]
noncomputable def IsD (H:Hp) (a:Addr):Prop:=(∃ kvs,Rd H a (.dK kvs))\/ ∃ kvs,Rd H a (.dT kvs)
section
variable {X:Cx} {pins:List (Addr × Obj)} {σ:St} {H:Hp} {s:Shared} {a:Addr} {y d:V} {u r:Value} {o:Option V} {A:Around} {E:Value->Shared->Prop}
end
section
variable {X:Cx} {o e f:Expr} {apos cpos:Pos} {td ty tx:TE}
end
section
variable {X:Cx} {pins:List (Addr × Obj)} {σ:St} {H:Hp} {s:Shared} {a:Addr} {kvs:List (Key × V)} {A:Around} {E:Value->Shared->Prop}
end
section
variable {X:Cx} {pins:List (Addr × Obj)} {σ:St} {H:Hp} {s:Shared} {a:Addr} {y:V} {u:Value} {A:Around} {E:Value->Shared->Prop}
end
end L2
namespace Att
open PySem PySem.W PySem.Calls PyProof.Rows
section
variable {prog:Program} {w:World} {A:Around} {E:Value->Shared->Prop} {s:Shared} {K:Frag}
end
end Att
namespace L2
open PySem PySem.Spec PyProof.Rows
end L2
namespace L2
open PySem PySem.Spec PyProof.Rows
end L2
namespace L2
open PySem PySem.Spec PyProof.Rows
section
variable {P:Program} {w:World} {K:PySem.W.Frag} {mg:Str->Option Value} {base:Heap}
end
section
variable {X:Cx}
end
section
variable {κ:Type} [DecidableEq κ]
end
end L2
end
section
namespace DQ
open PySem PySem.Spec PyProof.Rows
structure Fly (B:Heap) (l:List Env) (e:Addr) (cls:Value) (dct:Option Addr) (fl:Value) (h:Heap):Prop where
 stay:B.StaysIn h
 new:B.get? e=none
 frames:h.FunFrames B l
 obj: ∃ oe vs T oT ts,h.get? e=some oe/\oe.cls=cls/\oe.dict=dct/\oe.data= .fields vs/\vs[2]?=some .none/\vs[1]?=some (.ref T)/\B.get? T=none/\T≠e/\h.get? T=some oT/\oT.data= .fields ts/\ts[3]?=some fl
theorem Fly.tail {B:Heap} {env:Env} {l:List Env} {e:Addr} {cls:Value} {dct:Option Addr} {fl:Value} {h:Heap} (f:Fly B (env :: l) e cls dct fl h):Fly B l e cls dct fl h:=⟨f.stay,f.new,f.frames.2.2,f.obj⟩
section
variable {M:Model} {A:Around} {E:Value->Shared->Prop} {s:Shared} {B:Heap} {env:Env} {outer l:List Env} {L e:Addr} {cls:Value} {dct:Option Addr} {fl:Value}
theorem apart {h:Heap} {oe:Obj} {vs:Array Value} (hl:h.FunFrames B l) (he:h.get? e=some oe) (hd:oe.data= .fields vs):e ∉ l.filterMap (·.frame):=fun z=>by
 obtain ⟨_,o,h1,h2⟩:=hl.mem z
 rw[he] at h1
 cases h1
 exact h2 vs hd
theorem ZeO {oe:Obj} {vs:Array Value} {head:Value} {hn:Bool} {Q:Unit->Shared->Prop} (hfr:A.frames=some (env :: outer)) (hl:s.heap.FunFrames B (env :: outer)) (hf:env.frame=some L)
  (he:s.heap.get? e=some oe) (hs:B.StaysIn s.heap) (hb:B.get? e=none) (hd:oe.data= .fields vs) (hz:2 < vs.size) (h2:vs[2]?=some .none)
  (h: ∀ h',Fly B (env :: outer) e oe.cls oe.dict (rawInt L) h'->s.heap.UpToSlots h'->Q () { s with heap:=h' }):
  wpAny M A (frameOf env >>= fun a=>entryPlaceOf L hn >>= fun pl=>EntryCells.newEntry head a .none (rawInt L) .none pl >>= fun b=>setField (.ref e) 1 b) Q E s:=by
 have ne:=apart hl he hd
 refine wpAny_bind (wpAny_frameOf_fun hfr hl hf fun h1 k1=>wpAny_bind (wpAny_entryPlaceOf fun pl hpl=>wpAny_bind ?_))
 unfold EntryCells.newEntry newFields
 refine wpAny_newObj_type ?_ (hpl.sizeOk5 _ _ _ _ _)
 generalize hT:([head,Value.ref L,Value.none,rawInt L,Value.none] ++ (if pl.isEmpty then List.replicate 6 Value.none else pl)).toArray=ts
 have h3:ts[3]?=some (rawInt L):=by
  rw[<- hT]
  rcases hpl with rfl | ⟨_,_,_,_,_,_,_,rfl⟩<;>simp
 have e1:h1.get? e=some oe:=(k1.2.1 e ne).trans he
 have s1:B.StaysIn h1:=fun b o hbo=>(k1.2.1 b fun z=>by rw[(hl.mem z).1] at hbo;cases hbo).trans (hs b o hbo)
 generalize hoT:({ cls:= .type "traceback",dict:=none,data:= .fields ts }:Obj)=oT
 have dT:oT.data= .fields ts:=by rw[<- hoT]
 have fT:oT.isFreed=false:=Obj.isFreed_of_fields dT
 have e2:(h1.push oT).get? e=some oe:=Heap.get?_push_of_some _ e1
 have nT:h1.objs.size≠e:=Nat.ne_of_gt (Heap.lt_size e1)
 refine wpAny_setField e2 hd (Nat.lt_trans (by decide) hz) (h _ ?_ ?_)
 ·have d3:=Obj.data_mapFields hd (·.setIfInBounds 1 (Value.ref h1.objs.size))
  have e3:=Heap.get?_update_self (Obj.mapFields (·.setIfInBounds 1 (Value.ref h1.objs.size))) e2 (Obj.isFreed_of_fields d3)
  have keep: ∀ b o,b≠e->h1.get? b=some o->((h1.push oT).update e (Obj.mapFields (·.setIfInBounds 1 (Value.ref h1.objs.size)))).get? b=some o:=fun b o hbe x=>by
   rw[Heap.get?_update_other _ _ (Ne.symm hbe)]
   exact Heap.get?_push_of_some _ x
  have gT:(h1.push oT).get? h1.objs.size=some oT:=Heap.get?_push_size _ fT
  refine ⟨fun b o x=>keep b o (fun z=>by rw[z,hb] at x;cases x) (s1 b o x),hb,hl.of_keeps fun b o x y=> ?_,_,_,h1.objs.size,oT,ts,e3,Obj.cls_mapFields _ _,?_,d3,?_,?_,s1.fresh,nT,?_,dT,h3⟩
  ·obtain ⟨sl,z⟩:=k1.2.2 b o x
   exact ⟨_,keep b _ (fun w=>y vs (by rw[w,he] at x;cases x;exact hd)) z,rfl⟩
  ·obtain ⟨c,d,dd,sl⟩:=oe
   cases hd
   rfl
  ·rw[Array.getElem?_setIfInBounds_ne (by decide)]
   exact h2
  ·rw[Array.getElem?_setIfInBounds_self_of_lt (Nat.lt_trans (by decide) hz)]
  ·rw[Heap.get?_update_other _ _ (Ne.symm nT)]
   exact gT
 ·intro b o x y
  obtain ⟨sl,z⟩:=k1.2.2 b o x
  refine ⟨sl,?_⟩
  rw[Heap.get?_update_other _ _ (fun w=>y vs (by rw[<- w,he] at x;cases x;exact hd))]
  exact Heap.get?_push_of_some _ z
theorem Zgk {Q:Unit->Shared->Prop} (f:Fly B l e cls dct fl s.heap) (h: ∀ h',Fly B l e cls dct .none h'->s.heap.UpToSlots h'->Q () { s with heap:=h' }):wpAny M A (setFlight (.ref e) none) Q E s:=by
 obtain ⟨st,nw,fr,oe,vs,T,oT,ts,g1,g2,g3,g4,g5,g6,g7,g8,g9,g10,g11⟩:=f
 have hz:3 < ts.size:=(Array.getElem?_eq_some_iff.mp g11).1
 unfold setFlight
 refine wpAny_bind (wpAny_field g1 g4 g6 ?_)
 rw[if_pos (by simp)]
 have oth: ∀ b o,b≠T->s.heap.get? b=some o->(s.heap.update T (Obj.mapFields (·.setIfInBounds 3 Value.none))).get? b=some o:=fun b o hb x=>by
  rw[Heap.get?_update_other _ _ (Ne.symm hb)]
  exact x
 have nr: ∀ b o,s.heap.get? b=some o->(∀ vs,o.data≠ .fields vs)->b≠T:=fun b o x y z=>by
  rw[z,g9] at x
  cases x
  exact y ts g10
 refine wpAny_setField g9 g10 hz (h _ ⟨fun b o x=>oth b o (fun z=>by rw[z,g7] at x;cases x) (st b o x),nw,fr.of_keeps fun b o x y=>⟨o,oth b o (nr b o x y) x,rfl⟩,?_⟩ fun b o x y=>⟨o.slots,oth b o (nr b o x y) x⟩)
 exact ⟨oe,vs,T,_,_,oth e oe (Ne.symm g8) g1,g2,g3,g4,g5,g6,g7,g8,Heap.get?_update_self _ g9 (Obj.isFreed_of_fields (Obj.data_mapFields g10 _)),Obj.data_mapFields g10 _,by rw[Array.getElem?_setIfInBounds_self_of_lt hz];rfl⟩
theorem ZjQ {Q:Unit->Shared->Prop} (hfr:A.frames=some (env :: outer)) (hf:env.frame=some L) (f:Fly B (env :: outer) e cls dct .none s.heap)
  (h: ∀ h',Fly B (env :: outer) e cls dct (rawInt L) h'->s.heap.UpToSlots h'->Q () { s with heap:=h' }):wpAny M A (noteFrame (.ref e) env) Q E s:=by
 obtain ⟨st,nw,fr,oe,vs,T,oT,ts,g1,g2,g3,g4,g5,g6,g7,g8,g9,g10,g11⟩:=f
 unfold noteFrame
 simp only[hf]
 refine wpAny_bind (wpAny_field g1 g4 g6 ?_)
 rw[if_pos (by simp)]
 refine wpAny_bind (wpAny_field g9 g10 g11 ?_)
 rw[if_neg (by simp[rawInt])]
 have oth: ∀ b o,b≠T->s.heap.get? b=some o->(s.heap.update T (Obj.mapFields (·.setIfInBounds 3 Value.none))).get? b=some o:=fun b o hb x=>by
  rw[Heap.get?_update_other _ _ (Ne.symm hb)]
  exact x
 have nr: ∀ b o,s.heap.get? b=some o->(∀ vs,o.data≠ .fields vs)->b≠T:=fun b o x y z=>by
  rw[z,g9] at x
  cases x
  exact y ts g10
 refine wpAny_bind (wpAny_setField g9 g10 (Array.getElem?_eq_some_iff.mp g11).1 ?_)
 refine ZeO hfr (fr.of_keeps fun b o x y=>⟨o,oth b o (nr b o x y) x,rfl⟩) hf (oth e oe (Ne.symm g8) g1) (fun b o x=>oth b o (fun z=>by rw[z,g7] at x;cases x) (st b o x)) nw g4 (Array.getElem?_eq_some_iff.mp g5).1 g5 fun h' k1 k2=>h h' (g2 ▸ g3 ▸ k1) ?_
 intro b o x y
 exact k2 b o (oth b o (nr b o x y) x) y
theorem ZhT {Q:Unit->Shared->Prop} (hfr:A.frames=some (env :: outer)) (hf:env.frame=some L) (f:Fly B (env :: outer) e cls dct .none s.heap)
  (h: ∀ h',Fly B outer e cls dct .none h'->s.heap.UpToSlots h'->Q () { s with heap:=h' }):wpAny M A (leaving env (.ref e)) Q E s:=by
 unfold leaving
 refine wpAny_bind (ZjQ hfr hf f fun h1 k1 u1=> ?_)
 exact Zgk (s:={ s with heap:=h1 }) k1 fun h2 k2 u2=>h h2 k2.tail (u1.trans u2)
theorem ZhU {oe:Obj} {vs:Array Value} {Q:Unit->Shared->Prop} (hfr:A.frames=some (env :: outer)) (hf:env.frame=some L) (hl:s.heap.FunFrames B (env :: outer)) (he:s.heap.get? e=some oe) (hs:B.StaysIn s.heap) (hb:B.get? e=none) (hd:oe.data= .fields vs) (h1:vs[1]?=some .none) (h2:vs[2]?=some .none)
  (h: ∀ h',Fly B outer e oe.cls oe.dict .none h'->s.heap.UpToSlots h'->Q () { s with heap:=h' }):wpAny M A (leaving env (.ref e)) Q E s:=by
 unfold leaving noteFrame
 simp only[hf]
 refine wpAny_bind (wpAny_bind (wpAny_field he hd h1 ?_))
 rw[if_neg (by decide)]
 refine ZeO hfr hl hf he hs hb hd (Array.getElem?_eq_some_iff.mp h2).1 h2 fun h' k1 u1=> ?_
 exact Zgk (s:={ s with heap:=h' }) k1 fun h2 k2 u2=>h h2 k2.tail (u1.trans u2)
end
end DQ
end
section
namespace DQ
open PySem PySem.Spec PyProof.Rows
open PySem.W (Looks findIn mroIn specialIn takesIn clsIn looks_findIn looks_mroIn looks_find findObj KitX)
structure ExcC (K:PySem.W.Frag) (C:Addr):Prop where
 ga:findIn K (.ref C) "__getattribute__"=some (some (.builtin "BaseException.__getattribute__"))
 gt:findIn K (.ref C) "__getattr__"=some none
 cl:findIn K (.ref C) "__class__"=some (some (.builtin "object.__class__"))
 gs:specialIn K (.builtin "object.__class__") "__get__"=some (some (.builtin "getset_descriptor.__get__"))
 tk:takesIn K (.builtin "object.__class__")=some true
 bx:mroIn K C (.type "BaseException")=some true
 ob:mroIn K C (.type "object")=some true
 is:(clsIn K C).isSome=true
section
variable {prog:Program} {w:World} {A:Around} {E:Value->Shared->Prop} {s:Shared} {K:PySem.W.Frag} {e C:Addr} {oe:Obj} {od:Option Obj}
end
end DQ
end
section
namespace DL
open PySem PySem.Spec PyProof.Rows L2
inductive D where
 |non
 |bl (b:Bool)
 |int (i:Int)
 |str (x:Str)
 |tup (xs:List D)
 |rol (xs:List D)
 |con (xs:List D)
 |ref (n:Nat)
 |err (c:Str) (xs:List D)
 |dk (n:Nat)
 |dt (n:Nat)
inductive SO where
 |lst (xs:List D)
noncomputable abbrev Sto:=List SO
noncomputable abbrev Ro:=List (Option D)
noncomputable def SqF (K:PySem.W.Frag) (H:Hp) (a:Addr) (xs:List V):Prop:=
 (∃ o,H a=some (.frz o (.lst xs)))\/ ∃ (o:Obj) (its:Array Value) (n:Nat),K.lookup a=some o/\o.cls= .type "list"/\o.dict=none/\o.data= .seq its n/\its.size<=sizeLine/\ZX xs its.toList
theorem SqF.sq {K:PySem.W.Frag} {H:Hp} {a:Addr} {xs:List V} (h:SqF K H a xs):SqL K H a xs:=by
 rcases h with ⟨o,h⟩ | h
 ·exact .inl (.inr ⟨o,h⟩)
 ·exact .inr h
noncomputable def SqK (K:PySem.W.Frag) (a:Addr) (xs:List V):Prop:= ∃ (o:Obj) (its:Array Value) (n:Nat),K.lookup a=some o/\o.cls= .type "tuple"/\o.data= .seq its n/\its.size<=sizeLine/\ZX xs its.toList/\o.dict=none
theorem SqK.sq {K:PySem.W.Frag} {H:Hp} {a:Addr} {xs:List V} (h:SqK K a xs):SqT K H a xs:=
 let ⟨o,its,n,h1,h2,h3,h4,h5,_⟩:=h
 .inr ⟨o,its,n,h1,h2,h3,h4,h5⟩
noncomputable def EOk (H:Hp) (p C:Addr) (xs:List V):Prop:= ∃ oe u vs,H p=some (.frz oe u)/\oe.cls= .ref C/\oe.data= .fields vs/\vs[2]?=some .none/\((xs=[]/\oe.dict=none)\/ ∃ dx fs,oe.dict=some dx/\H dx=some (.xd fs)/\fs.map (·.2)=xs)
noncomputable def Kn (H:Hp) (p:Addr):Option Nat:=match H p with | some (.lst _)=>some 0 | some (.dK _)=>some 1 | some (.dT _)=>some 2 | _=>none
structure RefK (H:Hp) (α:List Addr) (j n:Nat) (p:Addr):Prop where
 at':α[n]?=some p
 kn:Kn H p=some j
theorem Kn.lst {H:Hp} {p:Addr} {xs:List V} (h:H p=some (.lst xs)):Kn H p=some 0:=by unfold Kn;rw[h]
theorem Kn.ne {H:Hp} {p q:Addr} {j:Nat} {o:HO} (h:Kn H p=some j) (hq:H q=none):Kn (upd H q o) p=some j:=by
 have:p≠q:=by
  intro z
  unfold Kn at h
  rw[z,hq] at h
  cases h
 unfold Kn
 rw[ZP this]
 exact h
mutual
inductive Rep (K:PySem.W.Frag) (H:Hp) (α:List Addr):V->D->Prop where
 |non:Rep K H α .non .non
 |bl (b:Bool):Rep K H α (.bl b) (.bl b)
 |int (i:Int):Rep K H α (.int i) (.int i)
 |str (x:Str):Rep K H α (.str x) (.str x)
 |tup {p:Addr} {xs:List V} {ds:List D}:H p=some (.tup xs)->Reps K H α xs ds->Rep K H α (.ref p) (.tup ds)
 |rol {p:Addr} {xs:List V} {ds:List D}:SqF K H p xs->Reps K H α xs ds->Rep K H α (.ref p) (.rol ds)
 |con {p:Addr} {xs:List V} {ds:List D}:SqK K p xs->Reps K H α xs ds->Rep K H α (.ref p) (.con ds)
 |ref {p:Addr} {n:Nat}:RefK H α 0 n p->Rep K H α (.ref p) (.ref n)
 |dk {p:Addr} {n:Nat}:RefK H α 1 n p->Rep K H α (.ref p) (.dk n)
 |dt {p:Addr} {n:Nat}:RefK H α 2 n p->Rep K H α (.ref p) (.dt n)
 |err {p C:Addr} {c:Str} {xs:List V} {ds:List D}:PySem.W.nsIn K mainGlobals c=some (some (.ref C))->EOk H p C xs->Reps K H α xs ds->Rep K H α (.ref p) (.err c ds)
inductive Reps (K:PySem.W.Frag) (H:Hp) (α:List Addr):List V->List D->Prop where
 |nil:Reps K H α [] []
 |cons {v:V} {d:D} {vs:List V} {ds:List D}:Rep K H α v d->Reps K H α vs ds->Reps K H α (v :: vs) (d :: ds)
end
structure Ext (K:PySem.W.Frag) (H H':Hp) (α α':List Addr):Prop where
 tup: ∀ p xs,H p=some (.tup xs)->H' p=some (.tup xs)
 rol: ∀ p xs,SqF K H p xs->SqF K H' p xs
 err: ∀ p C xs,EOk H p C xs->EOk H' p C xs
 kn: ∀ p j,Kn H p=some j->Kn H' p=some j
 al: ∃ β,α'=α ++ β
section
variable {K:PySem.W.Frag} {H H1 H2 H':Hp} {α α1 α2 α':List Addr}
theorem Ext.refl:Ext K H H α α:=⟨fun _ _ h=>h,fun _ _ h=>h,fun _ _ _ h=>h,fun _ _ h=>h,[],(List.append_nil _).symm⟩
theorem Ext.trans (a:Ext K H H1 α α1) (b:Ext K H1 H2 α1 α2):Ext K H H2 α α2:=by
 obtain ⟨b1,e1⟩:=a.al
 obtain ⟨b2,e2⟩:=b.al
 exact ⟨fun p xs h=>b.tup p xs (a.tup p xs h),fun p xs h=>b.rol p xs (a.rol p xs h),fun p C xs h=>b.err p C xs (a.err p C xs h),fun p j h=>b.kn p j (a.kn p j h),b1 ++ b2,by rw[e2,e1,List.append_assoc]⟩
theorem Ext.get0 (e:Ext K H H' α α') {n:Nat} {p:Addr} (h:α[n]?=some p):α'[n]?=some p:=by
 obtain ⟨β,e1⟩:=e.al
 have hl:n < α.length:=(List.getElem?_eq_some_iff.mp h).1
 rw[e1,List.getElem?_append_left hl]
 exact h
theorem Ext.get (e:Ext K H H' α α') {j n:Nat} {p:Addr} (h:RefK H α j n p):RefK H' α' j n p:=⟨e.get0 h.at',e.kn _ _ h.kn⟩
mutual
theorem Rep.mono (e:Ext K H H' α α'): ∀ {v:V} {d:D},Rep K H α v d->Rep K H' α' v d
 |_,_,.non=> .non
 |_,_,.bl b=> .bl b
 |_,_,.int i=> .int i
 |_,_,.str x=> .str x
 |_,_,.tup h r=> .tup (e.tup _ _ h) (Reps.mono e r)
 |_,_,.rol h r=> .rol (e.rol _ _ h) (Reps.mono e r)
 |_,_,.con h r=> .con h (Reps.mono e r)
 |_,_,.ref h=> .ref (e.get h)
 |_,_,.dk h=> .dk (e.get h)
 |_,_,.dt h=> .dt (e.get h)
 |_,_,.err n h r=> .err n (e.err _ _ _ h) (Reps.mono e r)
theorem Reps.mono (e:Ext K H H' α α'): ∀ {vs:List V} {ds:List D},Reps K H α vs ds->Reps K H' α' vs ds
 |_,_,.nil=> .nil
 |_,_,.cons r t=> .cons (Rep.mono e r) (Reps.mono e t)
end
theorem Reps.length: ∀ {vs:List V} {ds:List D},Reps K H α vs ds->vs.length=ds.length
 |_,_,.nil=>rfl
 |_,_,.cons _ t=>by rw[List.length_cons,List.length_cons,Reps.length t]
theorem Reps.get: ∀ {vs:List V} {ds:List D} {i:Nat} {d:D},Reps K H α vs ds->ds[i]?=some d-> ∃ v,vs[i]?=some v/\Rep K H α v d
 |_,_,_,_,.nil,e=>by simp at e
 |_,_,0,_,.cons r _,e=>by simp at e;subst e;exact ⟨_,rfl,r⟩
 |_,_,i + 1,d,.cons _ t,e=>by
  obtain ⟨u,h1,h2⟩:=Reps.get (i:=i) (d:=d) t (by simpa using e)
  exact ⟨u,by simpa using h1,h2⟩
theorem Reps.set {v:V} {d:D} (r:Rep K H α v d): ∀ {vs:List V} {ds:List D} (i:Nat),Reps K H α vs ds->Reps K H α (vs.set i v) (ds.set i d)
 |_,_,_,.nil=> .nil
 |_,_,0,.cons _ t=> .cons r t
 |_,_,i + 1,.cons q t=> .cons q (Reps.set r i t)
theorem Reps.append: ∀ {vs ws:List V} {ds es:List D},Reps K H α vs ds->Reps K H α ws es->Reps K H α (vs ++ ws) (ds ++ es)
 |_,_,_,_,.nil,s=>s
 |_,_,_,_,.cons r t,s=> .cons r (Reps.append t s)
theorem Reps.ints: ∀ (ns:List Int),Reps K H α (ns.map V.int) (ns.map D.int)
 | []=> .nil
 |n :: r=> .cons (.int n) (Reps.ints r)
theorem ZhV {p q:Addr} {xs:List V} {o:HO} (h:H q=some (.tup xs)) (hp: ∀ u,H p=some u->(∀ ys,u≠ .tup ys)/\ ∀ ob w,u≠ .frz ob w):upd H p o q=some (.tup xs):=by
 rw[ZP (fun e=>(hp _ (e ▸ h)).1 _ rfl)]
 exact h
theorem ZhW {p q:Addr} {xs:List V} {o:HO} (h:SqF K H q xs) (hp: ∀ u,H p=some u-> ∀ ob w,u≠ .frz ob w):SqF K (upd H p o) q xs:=by
 rcases h with ⟨ob,h⟩ | h
 ·refine .inl ⟨ob,?_⟩
  rw[ZP (fun e=>hp _ (e ▸ h) _ _ rfl)]
  exact h
 ·exact .inr h
theorem ZhX {p q C:Addr} {xs:List V} {o:HO} (h:EOk H q C xs) (hp: ∀ u,H p=some u->(∀ ob w,u≠ .frz ob w)/\ ∀ fs,u≠ .xd fs):EOk (upd H p o) q C xs:=by
 obtain ⟨oe,u,vs,h1,h2,h3,h4,h5⟩:=h
 refine ⟨oe,u,vs,?_,h2,h3,h4,?_⟩
 ·rw[ZP (fun e=>(hp _ (e ▸ h1)).1 _ _ rfl)]
  exact h1
 ·rcases h5 with h5 | ⟨dx,fs,k1,k2,k3⟩
  ·exact .inl h5
  ·refine .inr ⟨dx,fs,k1,?_,k3⟩
   rw[ZP (fun e=>(hp _ (e ▸ k2)).2 _ rfl)]
   exact k2
theorem Ext.new {p:Addr} {o:HO} (h:H p=none) {β:List Addr}:Ext K H (upd H p o) α (α ++ β):=
 ⟨fun q xs z=>ZhV z (fun u e=>(by rw[h] at e;cases e)),fun q xs z=>ZhW z (fun u e=>(by rw[h] at e;cases e)),fun q C xs z=>ZhX z (fun u e=>(by rw[h] at e;cases e)),fun q j z=>Kn.ne z h,β,rfl⟩
theorem Ext.new0 {p:Addr} {o:HO} (h:H p=none):Ext K H (upd H p o) α α:=by
 have e:=Ext.new (K:=K) (H:=H) (α:=α) (o:=o) h (β:=[])
 rw[List.append_nil] at e
 exact e
theorem Ext.wrK {p:Addr} {o:HO} {j:Nat} (h:Kn H p=some j) (h':Kn (upd H p o) p=some j):Ext K H (upd H p o) α α:=by
 have ne (u:HO) (e:H p=some u):(∀ ys,u≠ .tup ys)/\(∀ ob w,u≠ .frz ob w)/\ ∀ fs,u≠ .xd fs:=by
  unfold Kn at h
  rw[e] at h
  refine ⟨fun ys z=> ?_,fun ob w z=> ?_,fun fs z=> ?_⟩<;>subst z<;>cases h
 refine ⟨fun q xs z=>ZhV z fun u e=>⟨(ne u e).1,(ne u e).2.1⟩,fun q xs z=>ZhW z fun u e=>(ne u e).2.1,fun q C xs z=>ZhX z fun u e=>⟨(ne u e).2.1,(ne u e).2.2⟩,fun q i z=> ?_,[],(List.append_nil _).symm⟩
 by_cases c:q=p
 ·subst c
  rw[h] at z
  cases z
  exact h'
 ·unfold Kn
  rw[ZP c]
  exact z
theorem Ext.wr {p:Addr} {xs ys:List V} (h:H p=some (.lst xs)):Ext K H (upd H p (.lst ys)) α α:=Ext.wrK (Kn.lst h) (Kn.lst ZC)
noncomputable def ZlV:Key->D
 | .inl i=> .int i
 | .inr x=> .str x
noncomputable def ZhY (ks:List Key):D:= .tup (ks.map ZlV)
noncomputable def ZbT (K:PySem.W.Frag) (H:Hp) (α:List Addr) {κ:Type} (key:κ->D) (kvs:List (κ × V)) (ds:List D):Prop:=
 ∃ es:List D,ds=List.zipWith (fun kv e=>D.tup [key kv.1,e]) kvs es/\Reps K H α (kvs.map (·.2)) es
noncomputable def SOk (K:PySem.W.Frag) (H:Hp) (α:List Addr) (p:Addr):SO->Prop
 | .lst ds=>(∃ xs,H p=some (.lst xs)/\Reps K H α xs ds)\/(∃ kvs,H p=some (.dK kvs)/\ZbT K H α ZlV kvs ds)\/(∃ kvs,H p=some (.dT kvs)/\ZbT K H α ZhY kvs ds)
theorem SOk.there {p:Addr} {o:SO} (h:SOk K H α p o): ∃ u,H p=some u:=by
 cases o with
 |lst ds=>rcases h with ⟨_,e,_⟩ | ⟨_,e,_⟩ | ⟨_,e,_⟩<;>exact ⟨_,e⟩
theorem SOk.mono {p:Addr} {o:SO} (h:SOk K H α p o) (ex:Ext K H H' α α') (e:H' p=H p):SOk K H' α' p o:=by
 cases o with
 |lst ds=>
  rcases h with ⟨xs,h1,h2⟩ | ⟨kvs,h1,es,h2,h3⟩ | ⟨kvs,h1,es,h2,h3⟩
  ·exact .inl ⟨xs,e.trans h1,Reps.mono ex h2⟩
  ·exact .inr (.inl ⟨kvs,e.trans h1,es,h2,Reps.mono ex h3⟩)
  ·exact .inr (.inr ⟨kvs,e.trans h1,es,h2,Reps.mono ex h3⟩)
structure HR (K:PySem.W.Frag) (H:Hp) (α:List Addr) (M:Sto):Prop where
 len:α.length=M.length
 nd:α.Nodup
 ob: ∀ (n:Nat) (p:Addr) (o:SO),α[n]?=some p->M[n]?=some o->SOk K H α p o
theorem HR.nil:HR K H [] []:=⟨rfl,List.nodup_nil,fun n p o h=>by simp at h⟩
theorem HR.at (h:HR K H α M) {n:Nat} {p:Addr} {ds:List D} (e:RefK H α 0 n p) (m:M[n]?=some (.lst ds)): ∃ xs,H p=some (.lst xs)/\Reps K H α xs ds:=by
 rcases h.ob n p _ e.at' m with h1 | ⟨_,h1,_⟩ | ⟨_,h1,_⟩
 ·exact h1
 ·have:=e.kn;unfold Kn at this;rw[h1] at this;cases this
 ·have:=e.kn;unfold Kn at this;rw[h1] at this;cases this
theorem HR.atK (h:HR K H α M) {n:Nat} {p:Addr} {ds:List D} (e:RefK H α 1 n p) (m:M[n]?=some (.lst ds)): ∃ kvs,H p=some (.dK kvs)/\ZbT K H α ZlV kvs ds:=by
 rcases h.ob n p _ e.at' m with ⟨_,h1,_⟩ | h1 | ⟨_,h1,_⟩
 ·have:=e.kn;unfold Kn at this;rw[h1] at this;cases this
 ·exact h1
 ·have:=e.kn;unfold Kn at this;rw[h1] at this;cases this
theorem HR.atT (h:HR K H α M) {n:Nat} {p:Addr} {ds:List D} (e:RefK H α 2 n p) (m:M[n]?=some (.lst ds)): ∃ kvs,H p=some (.dT kvs)/\ZbT K H α ZhY kvs ds:=by
 rcases h.ob n p _ e.at' m with ⟨_,h1,_⟩ | ⟨_,h1,_⟩ | h1
 ·have:=e.kn;unfold Kn at this;rw[h1] at this;cases this
 ·have:=e.kn;unfold Kn at this;rw[h1] at this;cases this
 ·exact h1
theorem RefK.lst {n:Nat} {p:Addr} (e:RefK H α 0 n p): ∃ xs,H p=some (.lst xs):=by
 have:=e.kn
 unfold Kn at this
 split at this
 ·rename_i xs h;exact ⟨xs,h⟩
 ·cases this
 ·cases this
 ·cases this
theorem HR.some_at {M:Sto} (h:HR K H α M) {n:Nat} {p:Addr} (e:RefK H α 0 n p): ∃ xs,H p=some (.lst xs):=e.lst
theorem HR.there {M:Sto} (h:HR K H α M) {n:Nat} {p:Addr} (e:α[n]?=some p): ∃ u,H p=some u:=by
 have hl:n < α.length:=(List.getElem?_eq_some_iff.mp e).1
 have hm:n < M.length:=by rw[<- h.len];exact hl
 exact (h.ob n p M[n] e (List.getElem?_eq_getElem hm)).there
theorem HR.tup {M:Sto} {p:Addr} {o:HO} (h:HR K H α M) (hp:H p=none):HR K (upd H p o) α M:=
 ⟨h.len,h.nd,fun n q so e m=>by
  obtain ⟨u,hu⟩:=h.there e
  exact (h.ob n q so e m).mono (Ext.new0 hp) (ZP (Zag hu hp))⟩
theorem HR.newO {M:Sto} {p:Addr} {o:HO} {so:SO} (h:HR K H α M) (hp:H p=none) (r:SOk K (upd H p o) (α ++ [p]) p so):HR K (upd H p o) (α ++ [p]) (M ++ [so]):=by
 have ex:Ext K H (upd H p o) α (α ++ [p]):=Ext.new hp
 refine ⟨by rw[List.length_append,List.length_append,h.len];rfl,?_,fun n q so' e m=> ?_⟩
 ·refine List.nodup_append.mpr ⟨h.nd,by simp,fun a ha b hb=> ?_⟩
  have hb':b=p:=by simpa using hb
  obtain ⟨n,hn,e⟩:=List.getElem_of_mem ha
  obtain ⟨u,z⟩:=h.there (n:=n) (p:=a) (by rw[List.getElem?_eq_getElem hn,e])
  rw[hb']
  exact Zag z hp
 ·by_cases hn:n < α.length
  ·rw[List.getElem?_append_left hn] at e
   rw[List.getElem?_append_left (by rw[<- h.len];exact hn)] at m
   obtain ⟨u,hu⟩:=h.there e
   exact (h.ob n q so' e m).mono ex (ZP (Zag hu hp))
  ·have en:n=α.length:=by
    have:n < (α ++ [p]).length:=(List.getElem?_eq_some_iff.mp e).1
    rw[List.length_append,List.length_singleton] at this
    omega
   subst en
   rw[List.getElem?_append_right (Nat.le_refl _),Nat.sub_self] at e
   rw[h.len,List.getElem?_append_right (Nat.le_refl _),Nat.sub_self] at m
   cases e
   cases m
   exact r
theorem HR.new {M:Sto} {p:Addr} {xs:List V} {ds:List D} (h:HR K H α M) (hp:H p=none) (r:Reps K H α xs ds):HR K (upd H p (.lst xs)) (α ++ [p]) (M ++ [.lst ds]):=
 h.newO hp (.inl ⟨xs,ZC,Reps.mono (Ext.new hp) r⟩)
theorem ZjR {n m:Nat} {p:Addr} (h:α.Nodup) (a:α[n]?=some p) (b:α[m]?=some p):n=m:=by
 obtain ⟨h1,e1⟩:=List.getElem?_eq_some_iff.mp a
 obtain ⟨h2,e2⟩:=List.getElem?_eq_some_iff.mp b
 exact (List.getElem_inj h).mp (e1.trans e2.symm)
theorem HR.wrO {M:Sto} {n:Nat} {p:Addr} {o:HO} {so:SO} (h:HR K H α M) (e:α[n]?=some p) (ex:Ext K H (upd H p o) α α) (r:SOk K (upd H p o) α p so):HR K (upd H p o) α (M.set n so):=by
 have hn:n < M.length:=by rw[<- h.len];exact (List.getElem?_eq_some_iff.mp e).1
 refine ⟨by rw[List.length_set];exact h.len,h.nd,fun k q so' e' m=> ?_⟩
 by_cases hk:k=n
 ·subst hk
  rw[e] at e'
  cases e'
  rw[List.getElem?_set_self hn] at m
  cases m
  exact r
 ·rw[List.getElem?_set_ne (Ne.symm hk)] at m
  have hq:q≠p:=fun z=>hk (ZjR h.nd (z ▸ e') e)
  exact (h.ob k q so' e' m).mono ex (ZP hq)
theorem HR.wr {M:Sto} {n:Nat} {p:Addr} {xs ys:List V} {ds:List D} (h:HR K H α M) (e:RefK H α 0 n p) (hp:H p=some (.lst ys)) (r:Reps K H α xs ds):HR K (upd H p (.lst xs)) α (M.set n (.lst ds)):=
 h.wrO e.at' (Ext.wr hp) (.inl ⟨xs,ZC,Reps.mono (Ext.wr hp) r⟩)
end
inductive Out (β:Type) where
 |ok (a:β) (M:Sto)
 |exc (c:Str) (M:Sto)
 |bad
noncomputable def Out.bind {β γ:Type} (o:Out β) (f:β->Sto->Out γ):Out γ:=match o with
 | .ok a M=>f a M
 | .exc c M=> .exc c M
 | .bad=> .bad
inductive Fl where
 |nx (ρ:Ro) (M:Sto)
 |ret (d:D) (M:Sto)
 |brk (ρ:Ro) (M:Sto)
 |cnt (ρ:Ro) (M:Sto)
 |exc (c:Str) (M:Sto)
 |bad
noncomputable def OG {β γ:Type} (K:PySem.W.Frag) (R:Hp->List Addr->γ->β->Prop) (H:Hp) (α:List Addr) (ξ:XK) (Q:γ->Hp->Prop):Out β->Prop
 | .ok d M'=> ∀ v H' α',Ext K H H' α α'->HR K H' α' M'->R H' α' v d->Q v H'
 | .exc c M'=> ∀ C H' α',PySem.W.nsIn K mainGlobals c=some (some (.ref C))->Ext K H H' α α'->HR K H' α' M'->ξ (.ref C) none H'
 | .bad=>False
theorem OG.ext {β γ:Type} {K:PySem.W.Frag} {R:Hp->List Addr->γ->β->Prop} {H H1:Hp} {α α1:List Addr} {ξ:XK} {Q:γ->Hp->Prop} {o:Out β} (h:OG K R H α ξ Q o) (e:Ext K H H1 α α1):OG K R H1 α1 ξ Q o:=by
 cases o with
 |ok d M'=>exact fun v H' α' e'=>h v H' α' (e.trans e')
 |exc c M'=>exact fun C H' α' n e'=>h C H' α' n (e.trans e')
 |bad=>exact h
noncomputable abbrev OP (K:PySem.W.Frag):=OG K (Rep K)
noncomputable abbrev OT (K:PySem.W.Frag):=OG (β:=Bool) (γ:=Bool) K (fun _ _ v d=>v=d)
noncomputable abbrev OA (K:PySem.W.Frag):=OG K (Reps K)
noncomputable def SR (K:PySem.W.Frag) (H:Hp) (α:List Addr) (σ:L2.St) (ρ:Ro):Prop:=σ.length=ρ.length/\ ∀ (i:Nat) (d:D),ρ[i]?=some (some d)-> ∃ v,σ[i]?=some (some v)/\Rep K H α v d
theorem SR.mono {K:PySem.W.Frag} {H H':Hp} {α α':List Addr} {σ:L2.St} {ρ:Ro} (h:SR K H α σ ρ) (e:Ext K H H' α α'):SR K H' α' σ ρ:=
 ⟨h.1,fun i d q=>let ⟨v,a,b⟩:=h.2 i d q;⟨v,a,Rep.mono e b⟩⟩
theorem SR.set {K:PySem.W.Frag} {H:Hp} {α:List Addr} {σ:L2.St} {ρ:Ro} {v:V} {d:D} (h:SR K H α σ ρ) (i:Nat) (r:Rep K H α v d):SR K H α (σ.set i (some v)) (ρ.set i (some d)):=by
 refine ⟨by rw[List.length_set,List.length_set];exact h.1,fun j e q=> ?_⟩
 by_cases hj:j=i
 ·subst hj
  have hl:j < ρ.length:=by
   have:=(List.getElem?_eq_some_iff.mp q).1
   rw[List.length_set] at this
   exact this
  rw[List.getElem?_set_self hl] at q
  cases q
  exact ⟨v,by rw[List.getElem?_set_self (by rw[h.1];exact hl)],r⟩
 ·rw[List.getElem?_set_ne (Ne.symm hj)] at q
  rw[List.getElem?_set_ne (Ne.symm hj)]
  exact h.2 j e q
noncomputable abbrev Ev:=Ro->Sto->Out D
noncomputable abbrev Tv:=Ro->Sto->Out Bool
noncomputable abbrev Av:=Ro->Sto->Out (List D)
noncomputable abbrev Sv:=Ro->Sto->Fl
noncomputable def DE (X:Cx) (ξ:XK) (e:Expr) (f:Ev):Prop:= ∃ t:TE,PE X e t/\ ∀ σ ρ H α M Q,SR X.K H α σ ρ->HR X.K H α M->OP X.K H α ξ Q (f ρ M)->t σ H Q
noncomputable def DT (X:Cx) (ξ:XK) (e:Expr) (f:Tv):Prop:= ∃ t:TT,PT X e t/\ ∀ σ ρ H α M Q,SR X.K H α σ ρ->HR X.K H α M->OT X.K H α ξ Q (f ρ M)->t σ H Q
noncomputable def DW (X:Cx) (ξ:XK) (e:Expr) (f:Tv):Prop:= ∃ t:TT,PW X e t/\ ∀ σ ρ H α M Q,SR X.K H α σ ρ->HR X.K H α M->OT X.K H α ξ Q (f ρ M)->t σ H Q
noncomputable def DA (X:Cx) (ξ:XK) (es:List Expr) (f:Av):Prop:= ∃ t:TA,PA X es t/\ ∀ σ ρ H α M Q,SR X.K H α σ ρ->HR X.K H α M->OA X.K H α ξ Q (f ρ M)->t σ H Q
theorem OG.seq {β γ β' γ':Type} {K:PySem.W.Frag} {R:Hp->List Addr->γ->β->Prop} {R':Hp->List Addr->γ'->β'->Prop} {H:Hp} {α:List Addr} {ξ:XK} {Q:γ'->Hp->Prop} {Q1:γ->Hp->Prop} {o:Out β} {f:β->Sto->Out β'}
  (h:OG K R' H α ξ Q (o.bind f)) (k: ∀ d M' v H' α',Ext K H H' α α'->HR K H' α' M'->R H' α' v d->OG K R' H' α' ξ Q (f d M')->Q1 v H'):OG K R H α ξ Q1 o:=by
 cases o with
 |ok d M'=>exact fun v H' α' e hr r=>k d M' v H' α' e hr r (OG.ext (o:=f d M') h e)
 |exc c M'=>exact h
 |bad=>exact h
section
variable {X:Cx} {ξ:XK} {a b e:Expr} {fa fb:Ev} {pos:Pos}
noncomputable def Zh (i:Nat):Ev:=fun ρ M=>match ρ[i]? with | some (some d)=> .ok d M | _=> .bad
noncomputable def eC (d:D):Ev:=fun _ M=> .ok d M
theorem Zb (i:Nat) {x:Str} (hN:X.N[i]?=some x:=by rfl) (hv:Vis X.env.scope x:=by first | exact Or.inl rfl | exact Or.inr (Or.inl rfl) | exact Or.inr (Or.inr rfl)) (hd:(x == ("__debug__":Str))=false:=by decide)
  (hcd:(x == ("__classdict__":Str))=false:=by decide):DE X ξ (.Name x pos) (Zh i):=by
 refine ⟨_,ZkI hN hv hd hcd,fun σ ρ H α M Q s h q=> ?_⟩
 unfold Zh at q
 cases e:ρ[i]? with
 |none=>rw[e] at q;exact q.elim
 |some o=>
  cases o with
  |none=>rw[e] at q;exact q.elim
  |some d=>
   rw[e] at q
   obtain ⟨v,h1,h2⟩:=s.2 i d e
   exact ⟨v,h1,q v H α Ext.refl h h2⟩
theorem Ze {i:Int} {j pos}:DE X ξ (.Constant (.int i) j pos) (eC (.int i)):=⟨_,Zhz,fun _ _ H α M _ _ h q=>q _ H α Ext.refl h (.int i)⟩
theorem ZfC {i:Bool} {j pos}:DE X ξ (.Constant (.bool i) j pos) (eC (.bl i)):=⟨_,Zq0,fun _ _ H α M _ _ h q=>q _ H α Ext.refl h (.bl i)⟩
theorem ZeP {j pos}:DE X ξ (.Constant .none j pos) (eC .non):=⟨_,ZnD,fun _ _ H α M _ _ h q=>q _ H α Ext.refl h .non⟩
theorem ZcZ {x:Str} {j pos}:DE X ξ (.Constant (.str x) j pos) (eC (.str x)):=⟨_,ZnE,fun _ _ H α M _ _ h q=>q _ H α Ext.refl h (.str x)⟩
noncomputable abbrev Bo:=D->D->Sto->Out D
noncomputable def e2 (f:Bo) (fa fb:Ev):Ev:=fun ρ M=>(fa ρ M).bind fun x M1=>(fb ρ M1).bind fun y M2=>f x y M2
noncomputable def BO (X:Cx) (ξ:XK) (r:R2) (f:Bo):Prop:= ∀ H α M v w x y Q,HR X.K H α M->Rep X.K H α v x->Rep X.K H α w y->OP X.K H α ξ Q (f x y M)->r v w H Q
theorem two {r:R2} {f:Bo} (hb:BO X ξ r f) {ta tb:TE} (qa: ∀ σ ρ H α M Q,SR X.K H α σ ρ->HR X.K H α M->OP X.K H α ξ Q (fa ρ M)->ta σ H Q)
  (qb: ∀ σ ρ H α M Q,SR X.K H α σ ρ->HR X.K H α M->OP X.K H α ξ Q (fb ρ M)->tb σ H Q): ∀ σ ρ H α M Q,SR X.K H α σ ρ->HR X.K H α M->OP X.K H α ξ Q (e2 f fa fb ρ M)->tOp r ta tb σ H Q:=by
 intro σ ρ H α M Q s h q
 refine qa σ ρ H α M _ s h (OG.seq q fun x M1 v H1 α1 e1 h1 r1 q1=> ?_)
 refine qb σ ρ H1 α1 M1 _ (s.mono e1) h1 (OG.seq q1 fun y M2 w H2 α2 e2 h2 r2 q2=> ?_)
 exact hb H2 α2 M2 v w x y Q h2 (Rep.mono e2 r1) r2 q2
theorem ZgV {op:Operator} {r:R2} {f:Bo} (ho:OpR X (binaryOp op) r) (hf:BO X ξ r f) (ha:DE X ξ a fa) (hb:DE X ξ b fb):DE X ξ (.BinOp a op b pos) (e2 f fa fb):=by
 obtain ⟨ta,ha,qa⟩:=ha
 obtain ⟨tb,hb,qb⟩:=hb
 exact ⟨_,Zq9 ho ha hb,two hf qa qb⟩
theorem Zb8 {op:CmpOp} {r:R2} {f:Bo} (ho:OpR X (compareOp op) r) (hf:BO X ξ r f) (ha:DE X ξ a fa) (hb:DE X ξ b fb) (hm:behindInMarks op b=false:=by first | exact ZkL _ | with_unfolding_all rfl):DE X ξ (.Compare a [op] [b] pos) (e2 f fa fb):=by
 obtain ⟨ta,ha,qa⟩:=ha
 obtain ⟨tb,hb,qb⟩:=hb
 exact ⟨_,ZlI ho ha hb hm,two hf qa qb⟩
noncomputable def tv (f:Ev):Tv:=fun ρ M=>(f ρ M).bind fun x M1=>match x with | .bl k=> .ok k M1 | _=> .bad
theorem ZjN {t:TE} {f:Ev} (qa: ∀ σ ρ H α M Q,SR X.K H α σ ρ->HR X.K H α M->OP X.K H α ξ Q (f ρ M)->t σ H Q): ∀ σ ρ H α M Q,SR X.K H α σ ρ->HR X.K H α M->OT X.K H α ξ Q (tv f ρ M)->ZnW t σ H Q:=by
 intro σ ρ H α M Q s h q
 refine qa σ ρ H α M _ s h (OG.seq q fun x M1 v H1 α1 e1 h1 r1 q1=> ?_)
 cases r1 with
 |bl k=>exact ⟨k,rfl,q1 k H1 α1 Ext.refl h1 rfl⟩
 |_=>exact q1.elim
theorem ZM {op:CmpOp} {r:R2} {f:Bo} (ho:OpR X (compareOp op) r) (hf:BO X ξ r f) (ha:DE X ξ a fa) (hb:DE X ξ b fb) (hm:behindInMarks op b=false:=by first | exact ZkL _ | with_unfolding_all rfl):DT X ξ (.Compare a [op] [b] pos) (tv (e2 f fa fb)):=by
 obtain ⟨ta,ha,qa⟩:=ha
 obtain ⟨tb,hb,qb⟩:=hb
 exact ⟨_,ZlJ ho ha hb hm,ZjN (two hf qa qb)⟩
theorem Zc0 (h:DE X ξ e fa) (he: ∀ whole,isTrue e X.env whole=(do let v <- whole;standAt e.pos;holding [v] (truthy v)):=by intro _;rfl):DT X ξ e (tv fa):=by
 obtain ⟨ta,ha,qa⟩:=h
 exact ⟨_,ZnF ha he,ZjN qa⟩
variable {ga gb:Tv} {rest:List Expr}
noncomputable def ZjS (f g:Tv):Tv:=fun ρ M=>(f ρ M).bind fun k M1=>if k=true then g ρ M1 else .ok false M1
noncomputable def Zju (f g:Tv):Tv:=fun ρ M=>(f ρ M).bind fun k M1=>if k=true then .ok true M1 else g ρ M1
noncomputable def Zc1 (f:Tv):Tv:=fun ρ M=>(f ρ M).bind fun k M1=> .ok (!k) M1
theorem ZlW (ha:DT X ξ a ga):DW X ξ (.BoolOp .And [a] pos) ga:=let ⟨_,h,q⟩:=ha;⟨_,pw_and1 h,q⟩
theorem ZeQ (ha:DT X ξ a ga):DW X ξ (.BoolOp .Or [a] pos) ga:=let ⟨_,h,q⟩:=ha;⟨_,pw_or1 h,q⟩
theorem Zn9 (ha:DT X ξ a ga) (hb:DW X ξ (.BoolOp .And (b :: rest) pos) gb):DW X ξ (.BoolOp .And (a :: b :: rest) pos) (ZjS ga gb):=by
 obtain ⟨ta,ha,qa⟩:=ha
 obtain ⟨tb,hb,qb⟩:=hb
 refine ⟨_,pw_and ha hb,fun σ ρ H α M Q s h q=> ?_⟩
 refine qa σ ρ H α M _ s h (OG.seq q fun k M1 v H1 α1 e1 h1 r1 q1=> ?_)
 cases r1
 cases k with
 |true=>exact ZkQ (qb σ ρ H1 α1 M1 Q (s.mono e1) h1 q1)
 |false=>exact ZkP (q1 false H1 α1 Ext.refl h1 rfl)
theorem ZfD (ha:DT X ξ a ga) (hb:DW X ξ (.BoolOp .Or (b :: rest) pos) gb):DW X ξ (.BoolOp .Or (a :: b :: rest) pos) (Zju ga gb):=by
 obtain ⟨ta,ha,qa⟩:=ha
 obtain ⟨tb,hb,qb⟩:=hb
 refine ⟨_,pw_or ha hb,fun σ ρ H α M Q s h q=> ?_⟩
 refine qa σ ρ H α M _ s h (OG.seq q fun k M1 v H1 α1 e1 h1 r1 q1=> ?_)
 cases r1
 cases k with
 |true=>exact ZkQ (q1 true H1 α1 Ext.refl h1 rfl)
 |false=>exact ZkP (qb σ ρ H1 α1 M1 Q (s.mono e1) h1 q1)
theorem Zns (h:DW X ξ e ga):DT X ξ e ga:=let ⟨_,h,q⟩:=h;⟨_,h.pt,q⟩
theorem Zc2 (ha:DT X ξ a ga):DT X ξ (.UnaryOp .Not a pos) (Zc1 ga):=by
 obtain ⟨ta,ha,qa⟩:=ha
 refine ⟨_,ZnG ha,fun σ ρ H α M Q s h q=> ?_⟩
 refine qa σ ρ H α M _ s h (OG.seq q fun k M1 v H1 α1 e1 h1 r1 q1=> ?_)
 cases r1
 exact q1 (!k) H1 α1 Ext.refl h1 rfl
noncomputable def Zd5 (f g:Ev):Ev:=fun ρ M=>(f ρ M).bind fun x M1=>match x with | .bl k=>if k=true then g ρ M1 else .ok (.bl false) M1 | _=> .bad
noncomputable def Ztp (f g:Ev):Ev:=fun ρ M=>(f ρ M).bind fun x M1=>match x with | .bl k=>if k=true then .ok (.bl true) M1 else g ρ M1 | _=> .bad
noncomputable def ZjT (f:Ev):Ev:=fun ρ M=>(f ρ M).bind fun x M1=>match x with | .bl k=> .ok (.bl (!k)) M1 | _=> .bad
theorem ZhZ {op} (ha:DE X ξ a fa):DE X ξ (.BoolOp op [a] pos) fa:=let ⟨_,h,q⟩:=ha;⟨_,ZnH h,q⟩
theorem ZdR (ha:DE X ξ a fa) (hb:DE X ξ (.BoolOp .And (b :: rest) pos) fb):DE X ξ (.BoolOp .And (a :: b :: rest) pos) (Zd5 fa fb):=by
 obtain ⟨ta,ha,qa⟩:=ha
 obtain ⟨tb,hb,qb⟩:=hb
 refine ⟨_,ZnI ha hb,fun σ ρ H α M Q s h q=> ?_⟩
 refine qa σ ρ H α M _ s h (OG.seq q fun x M1 v H1 α1 e1 h1 r1 q1=> ?_)
 cases r1 with
 |bl k=>
  refine ⟨k,rfl,?_⟩
  cases k with
  |true=>exact ZkQ (qb σ ρ H1 α1 M1 Q (s.mono e1) h1 q1)
  |false=>exact ZkP (q1 _ H1 α1 Ext.refl h1 (.bl false))
 |_=>exact q1.elim
theorem Zoa (ha:DE X ξ a fa):DE X ξ (.UnaryOp .Not a pos) (ZjT fa):=by
 obtain ⟨ta,ha,qa⟩:=ha
 refine ⟨_,ZnJ ha,fun σ ρ H α M Q s h q=> ?_⟩
 refine qa σ ρ H α M _ s h (OG.seq q fun x M1 v H1 α1 e1 h1 r1 q1=> ?_)
 cases r1 with
 |bl k=>exact ⟨k,rfl,q1 _ H1 α1 Ext.refl h1 (.bl (!k))⟩
 |_=>exact q1.elim
noncomputable def eIf (c:Tv) (f g:Ev):Ev:=fun ρ M=>(c ρ M).bind fun k M1=>if k=true then f ρ M1 else g ρ M1
theorem Zri {c:Expr} (hc:DT X ξ c ga) (ha:DE X ξ a fa) (hb:DE X ξ b fb):DE X ξ (.IfExp c a b pos) (eIf ga fa fb):=by
 obtain ⟨tc,hc,qc⟩:=hc
 obtain ⟨ta,ha,qa⟩:=ha
 obtain ⟨tb,hb,qb⟩:=hb
 refine ⟨_,ZjA hc ha hb,fun σ ρ H α M Q s h q=> ?_⟩
 refine qc σ ρ H α M _ s h (OG.seq q fun k M1 v H1 α1 e1 h1 r1 q1=> ?_)
 cases r1
 cases k with
 |true=>exact ZkQ (qa σ ρ H1 α1 M1 Q (s.mono e1) h1 q1)
 |false=>exact ZkP (qb σ ρ H1 α1 M1 Q (s.mono e1) h1 q1)
variable {es:List Expr} {fs:Av}
noncomputable def aNil:Av:=fun _ M=> .ok [] M
noncomputable def Zc (f:Ev) (g:Av):Av:=fun ρ M=>(f ρ M).bind fun x M1=>(g ρ M1).bind fun xs M2=> .ok (x :: xs) M2
theorem Zd:DA X ξ [] aNil:=⟨_,ZkM,fun _ _ H α M _ _ h q=>q _ H α Ext.refl h .nil⟩
theorem Za (ha:DE X ξ e fa) (hr:DA X ξ es fs) (hs:starEach (e :: es) X.env=(false,eval e X.env) :: starEach es X.env:=by rfl):DA X ξ (e :: es) (Zc fa fs):=by
 obtain ⟨ta,ha,qa⟩:=ha
 obtain ⟨tb,hb,qb⟩:=hr
 refine ⟨_,Zfx ha hb hs,fun σ ρ H α M Q s h q=> ?_⟩
 refine qa σ ρ H α M _ s h (OG.seq q fun x M1 v H1 α1 e1 h1 r1 q1=> ?_)
 refine qb σ ρ H1 α1 M1 _ (s.mono e1) h1 (OG.seq q1 fun y M2 w H2 α2 e2 h2 r2 q2=> ?_)
 exact q2 _ H2 α2 Ext.refl h2 (.cons (Rep.mono e2 r1) r2)
noncomputable def Zaq (f:Av):Ev:=fun ρ M=>(f ρ M).bind fun xs M1=>if xs.length<=1000 then .ok (.tup xs) M1 else .bad
noncomputable def ZcN (f:Av):Ev:=fun ρ M=>(f ρ M).bind fun xs M1=>if xs.length<=1000 then .ok (.ref M1.length) (M1 ++ [.lst xs]) else .bad
theorem ZlX {n:Nat} (h:n<=1000):n<=sizeLine:=Nat.le_of_lt (ZhQ h)
theorem Zx {x1} (ha:DA X ξ es fs):DE X ξ (.Tuple es x1 pos) (Zaq fs):=by
 obtain ⟨ta,ha,qa⟩:=ha
 refine ⟨_,ZnX ha,fun σ ρ H α M Q s h q=> ?_⟩
 refine qa σ ρ H α M _ s h (OG.seq q fun xs M1 vs H1 α1 e1 h1 r1 q1=> ?_)
 by_cases hl:xs.length<=1000
 ·rw[if_pos hl] at q1
  refine ⟨by rw[r1.length];exact ZlX hl,fun p hp=>q1 _ _ α1 (Ext.new0 hp) (h1.tup hp) (.tup ZC (Reps.mono (Ext.new0 hp) r1))⟩
 ·rw[if_neg hl] at q1
  exact q1.elim
theorem HR.last {K:PySem.W.Frag} {H:Hp} {α:List Addr} {M:Sto} (h:HR K H α M) (p:Addr):(α ++ [p])[M.length]?=some p:=by
 rw[<- h.len,List.getElem?_append_right (Nat.le_refl _),Nat.sub_self]
 rfl
theorem Zah (ha:DA X ξ es fs):DE X ξ (.List es pos) (ZcN fs):=by
 obtain ⟨ta,ha,qa⟩:=ha
 refine ⟨_,ZnY ha,fun σ ρ H α M Q s h q=> ?_⟩
 refine qa σ ρ H α M _ s h (OG.seq q fun xs M1 vs H1 α1 e1 h1 r1 q1=> ?_)
 by_cases hl:xs.length<=1000
 ·rw[if_pos hl] at q1
  refine ⟨by rw[r1.length];exact ZlX hl,fun p hp=>q1 _ _ (α1 ++ [p]) (Ext.new hp) (h1.new hp r1) (.ref ⟨h1.last p,Kn.lst ZC⟩)⟩
 ·rw[if_neg hl] at q1
  exact q1.elim
end
end DL
end
section
namespace DL
open PySem PySem.Spec PyProof.Rows L2
open PySem.SeqAt (EqAt RcAt RcNeAt)
noncomputable def Z9 (i j:Int):Prop:=Builtin.Int.intBits i<=64\/Builtin.Int.intBits j<=64\/(Builtin.Int.intBits i<=60000000/\Builtin.Int.intBits j<=60000000)
noncomputable instance (i j:Int):Decidable (Z9 i j):=by unfold Z9;infer_instance
theorem Z9.ok {i j:Int} (h:Z9 i j):IntMulOk i j:=by
 rcases h with h | h | ⟨h1,h2⟩
 ·exact .of_left h
 ·exact .of_right h
 ·exact .of_le h1 h2 (by decide)
theorem ZgW {i j:Int} (m n:Nat) (h1:i.natAbs < 2 ^ m) (h2:j.natAbs < 2 ^ n) (hm:m<=60000000:=by decide) (hn:n<=60000000:=by decide):Z9 i j:=
 .inr (.inr ⟨Nat.le_trans (intBits_le_iff.mpr h1) hm,Nat.le_trans (intBits_le_iff.mpr h2) hn⟩)
noncomputable def Za3 (j:Int):Prop:=j≠0/\j.natAbs.log2 < 9000
noncomputable instance (j:Int):Decidable (Za3 j):=by unfold Za3;infer_instance
section
variable {X:Cx}
theorem ZlY:OpR X (binaryOp .Mult) (rI Z9 fun i j=> .int (i * j)):=opI fun _ _ _ _ _ _ _ hc q=>mul_int q hc.ok
theorem ZjU:OpR X (binaryOp .FloorDiv) (rI (fun _ j=>Za3 j) fun i j=> .int (i.fdiv j)):=opI fun _ _ _ _ _ _ _ hc q=>floordiv_int hc.1 q (.inl (PyProof.noPylong_of_log2 hc.2))
end
noncomputable def dAdd:Bo:=fun x y M=>match x,y with
 | .int i,.int j=> .ok (.int (i + j)) M
 | .str i,.str j=>if i.length + j.length<=100000 then .ok (.str (i ++ j)) M else .bad
 | .ref n,.ref m=>match M[n]?,M[m]? with
  |some (.lst xs),some (.lst ys)=>if xs.length + ys.length<=10000000 then .ok (.ref M.length) (M ++ [.lst (xs ++ ys)]) else .bad
  |_,_=> .bad
 | .tup xs,.tup ys=>if xs.length + ys.length<=100000/\xs≠[] then .ok (.tup (xs ++ ys)) M else .bad
 |_,_=> .bad
noncomputable def dSub:Bo:=fun x y M=>match x,y with | .int i,.int j=> .ok (.int (i - j)) M | _,_=> .bad
noncomputable def dMul:Bo:=fun x y M=>match x,y with | .int i,.int j=>if Z9 i j then .ok (.int (i * j)) M else .bad | _,_=> .bad
noncomputable def dDiv:Bo:=fun x y M=>match x,y with | .int i,.int j=>if Za3 j then .ok (.int (i.fdiv j)) M else .bad | _,_=> .bad
noncomputable def dMod:Bo:=fun x y M=>match x,y with | .int i,.int j=>if j≠0 then .ok (.int (i.fmod j)) M else .bad | _,_=> .bad
noncomputable def dPow:Bo:=fun x y M=>match x,y with | .int i,.int j=>if 0<=j/\j<=1000000/\i.natAbs < 2 ^ 64 then .ok (.int (i ^ j.toNat)) M else .bad | _,_=> .bad
noncomputable def dLt:Bo:=fun x y M=>match x,y with | .int i,.int j=> .ok (.bl (decide (i < j))) M | _,_=> .bad
noncomputable def dLe:Bo:=fun x y M=>match x,y with | .int i,.int j=> .ok (.bl (decide (i<=j))) M | _,_=> .bad
noncomputable def dGt:Bo:=fun x y M=>match x,y with | .int i,.int j=> .ok (.bl (decide (j < i))) M | _,_=> .bad
noncomputable def dGe:Bo:=fun x y M=>match x,y with | .int i,.int j=> .ok (.bl (decide (j<=i))) M | _,_=> .bad
theorem Zob {n:Nat} (h:n<=100000):n<=sizeLine:=Nat.le_trans h (by decide)
section
variable {X:Cx} {ξ:XK}
theorem Zb9 {r:R2} {f:Bo} {C:Int->Int->Prop} [∀ i j,Decidable (C i j)] {g:Int->Int->D} {gV:Int->Int->V} (hg: ∀ H α i j,Rep X.K H α (gV i j) (g i j))
  (hf: ∀ x y M,f x y M=match x,y with | .int i,.int j=>if C i j then .ok (g i j) M else .bad | _,_=> .bad) (hr: ∀ i j H Q,C i j->Q (gV i j) H->r (.int i) (.int j) H Q):BO X ξ r f:=by
 intro H α M v w x y Q h rv rw' q
 rw[hf] at q
 cases rv<;>first | exact q.elim | skip
 cases rw'<;>first | exact q.elim | skip
 rename_i i j
 by_cases c:C i j
 ·simp only[if_pos c] at q
  exact hr i j H Q c (q _ H α Ext.refl h (hg H α i j))
 ·simp only[if_neg c] at q
  exact q.elim
theorem Zoc:BO X ξ (rI0 fun i j=> .int (i - j)) dSub:=Zb9 (C:=fun _ _=>True) (fun _ _ i j=> .int (i - j)) (fun x y M=>by cases x<;>cases y<;>simp[dSub]) fun i j H Q _ q=>⟨i,j,rfl,rfl,q⟩
theorem Zod:BO X ξ (rI Z9 fun i j=> .int (i * j)) dMul:=Zb9 (C:=Z9) (fun _ _ i j=> .int (i * j)) (fun x y M=>by cases x<;>cases y<;>rfl) fun i j H Q c q=>⟨i,j,rfl,rfl,c,q⟩
theorem Zoe:BO X ξ (rI (fun _ j=>Za3 j) fun i j=> .int (i.fdiv j)) dDiv:=Zb9 (C:=fun _ j=>Za3 j) (fun _ _ i j=> .int (i.fdiv j)) (fun x y M=>by cases x<;>cases y<;>rfl) fun i j H Q c q=>⟨i,j,rfl,rfl,c,q⟩
theorem Zof:BO X ξ (rI (fun _ j=>j≠0) fun i j=> .int (i.fmod j)) dMod:=Zb9 (C:=fun _ j=>j≠0) (fun _ _ i j=> .int (i.fmod j)) (fun x y M=>by cases x<;>cases y<;>rfl) fun i j H Q c q=>⟨i,j,rfl,rfl,c,q⟩
theorem Zog:BO X ξ (rI Ztm fun i j=> .int (i ^ j.toNat)) dPow:=Zb9 (C:=fun i j=>0<=j/\j<=1000000/\i.natAbs < 2 ^ 64) (fun _ _ i j=> .int (i ^ j.toNat)) (fun x y M=>by cases x<;>cases y<;>rfl) fun i j H Q c q=>⟨i,j,rfl,rfl,c,q⟩
theorem ZlZ:BO X ξ (rI0 fun i j=> .bl (decide (i < j))) dLt:=Zb9 (C:=fun _ _=>True) (fun _ _ i j=> .bl _) (fun x y M=>by cases x<;>cases y<;>simp[dLt]) fun i j H Q _ q=>⟨i,j,rfl,rfl,q⟩
theorem Zoh:BO X ξ (rI0 fun i j=> .bl (decide (i<=j))) dLe:=Zb9 (C:=fun _ _=>True) (fun _ _ i j=> .bl _) (fun x y M=>by cases x<;>cases y<;>simp[dLe]) fun i j H Q _ q=>⟨i,j,rfl,rfl,q⟩
theorem Zd6:BO X ξ (rI0 fun i j=> .bl (decide (j < i))) dGt:=Zb9 (C:=fun _ _=>True) (fun _ _ i j=> .bl _) (fun x y M=>by cases x<;>cases y<;>simp[dGt]) fun i j H Q _ q=>⟨i,j,rfl,rfl,q⟩
theorem Zrj:BO X ξ (rI0 fun i j=> .bl (decide (j<=i))) dGe:=Zb9 (C:=fun _ _=>True) (fun _ _ i j=> .bl _) (fun x y M=>by cases x<;>cases y<;>simp[dGe]) fun i j H Q _ q=>⟨i,j,rfl,rfl,q⟩
theorem Zl0:OpR X (binaryOp .Add) (fun x y H Q=>(rI0 (fun i j=> .int (i + j)) x y H Q\/(∃ i j,x= .str i/\y= .str j/\i.length + j.length<=sizeLine/\Q (.str (i ++ j)) H))\/(rCat x y H Q\/ZlO X.K x y H Q)):=
 OpR.or (OpR.or ZnS ZgQ) (OpR.or Zn5 ZlP)
theorem Zoi:BO X ξ (fun x y H Q=>(rI0 (fun i j=> .int (i + j)) x y H Q\/(∃ i j,x= .str i/\y= .str j/\i.length + j.length<=sizeLine/\Q (.str (i ++ j)) H))\/(rCat x y H Q\/ZlO X.K x y H Q)) dAdd:=by
 intro H α M v w x y Q h rv rw' q
 unfold dAdd at q
 split at q
 ·rename_i i j
  cases rv
  cases rw'
  exact .inl (.inl ⟨i,j,rfl,rfl,q _ H α Ext.refl h (.int (i + j))⟩)
 ·rename_i i j
  cases rv
  cases rw'
  split at q
  ·rename_i c
   exact .inl (.inr ⟨i,j,rfl,rfl,Zob c,q _ H α Ext.refl h (.str _)⟩)
  ·exact q.elim
 ·rename_i n m
  cases rv with
  | @ref p _ hp=>
   cases rw' with
   | @ref p2 _ hp2=>
    split at q
    ·rename_i ds ds2 e1 e2
     split at q
     ·rename_i c
      obtain ⟨xs,g1,r1⟩:=h.at hp e1
      obtain ⟨ys,g2,r2⟩:=h.at hp2 e2
      refine .inr (.inl ⟨p,p2,xs,ys,rfl,rfl,g1,g2,by rw[r1.length,r2.length];exact Nat.le_trans c (by decide),fun l hl=> ?_⟩)
      exact q _ _ (α ++ [l]) (Ext.new hl) (h.new hl (r1.append r2)) (.ref ⟨h.last l,Kn.lst ZC⟩)
     ·exact q.elim
    ·exact q.elim
 ·rename_i ds ds2
  cases rv with
  | @tup p xs _ hp rp=>
   cases rw' with
   | @tup p2 xs2 _ hp2 rp2=>
    split at q
    ·rename_i c
     have nx:xs≠[]:=fun z=>c.2 (by have:=rp.length;rw[z] at this;exact List.eq_nil_of_length_eq_zero this.symm)
     refine .inr (.inr ⟨p,p2,xs,xs2,rfl,rfl,(SqT.of hp),(SqT.of hp2),nx,by rw[rp.length,rp2.length];exact Zob c.1,fun z=> ?_,fun _ l hl=> ?_⟩)
     ·subst z
      cases rp2
      rw[List.append_nil] at q
      exact q _ H α Ext.refl h (.tup hp rp)
     ·exact q _ _ α (Ext.new0 hl) (h.tup hl) (.tup ZC (Reps.mono (Ext.new0 hl) (rp.append rp2)))
    ·exact q.elim
 ·exact q.elim
variable {a b e:Expr} {fa fb:Ev} {pos:Pos}
theorem ZJ (ha:DE X ξ a fa) (hb:DE X ξ b fb):DE X ξ (.BinOp a .Add b pos) (e2 dAdd fa fb):=ZgV Zl0 Zoi ha hb
theorem Z8 (ha:DE X ξ a fa) (hb:DE X ξ b fb):DE X ξ (.BinOp a .Sub b pos) (e2 dSub fa fb):=ZgV ZnT Zoc ha hb
theorem Zy (ha:DE X ξ a fa) (hb:DE X ξ b fb):DE X ξ (.BinOp a .Mult b pos) (e2 dMul fa fb):=ZgV ZlY Zod ha hb
theorem Zcx (ha:DE X ξ a fa) (hb:DE X ξ b fb):DE X ξ (.BinOp a .FloorDiv b pos) (e2 dDiv fa fb):=ZgV ZjU Zoe ha hb
theorem Zbz (ha:DE X ξ a fa) (hb:DE X ξ b fb):DE X ξ (.BinOp a .Mod b pos) (e2 dMod fa fb):=ZgV ZlG Zof ha hb
theorem Zh0 (ha:DE X ξ a fa) (hb:DE X ξ b fb):DE X ξ (.BinOp a .Pow b pos) (e2 dPow fa fb):=ZgV ZnU Zog ha hb
noncomputable def ZfE (f:Ev):Ev:=fun ρ M=>(f ρ M).bind fun x M1=>match x with | .int i=> .ok (.int (-i)) M1 | _=> .bad
theorem Zbv (ha:DE X ξ a fa):DE X ξ (.UnaryOp .USub a pos) (ZfE fa):=by
 obtain ⟨ta,ha,qa⟩:=ha
 refine ⟨_,ZnR ZkK ha,fun σ ρ H α M Q s h q=> ?_⟩
 refine qa σ ρ H α M _ s h (OG.seq q fun x M1 v H1 α1 e1 h1 r1 q1=> ?_)
 cases r1 with
 |int i=>exact ⟨i,rfl,q1 _ H1 α1 Ext.refl h1 (.int (-i))⟩
 |_=>exact q1.elim
noncomputable def atD (xs:List D) (i:Int) (M:Sto):Out D:=match atI xs i with | some d=> .ok d M | none=> .bad
noncomputable def dIx:Bo:=fun x y M=>match x,y with
 | .tup xs,.int i=>atD xs i M
 | .rol xs,.int i=>atD xs i M
 | .ref n,.int i=>match M[n]? with | some (.lst xs)=>atD xs i M | _=> .bad
 |_,_=> .bad
theorem Reps.atI {K:PySem.W.Frag} {H:Hp} {α:List Addr} {vs:List V} {ds:List D} {i:Int} {d:D} (r:Reps K H α vs ds) (h:L2.atI ds i=some d): ∃ v,L2.atI vs i=some v/\Rep K H α v d:=by
 unfold L2.atI at h ⊢
 rw[r.length]
 cases e:ixN ds.length i with
 |none=>rw[e] at h;cases h
 |some j=>
  rw[e] at h
  exact r.get h
theorem Zrk:BO X ξ (fun x y H Q=>Ztn X.K x y H Q\/Zto X.K x y H Q) dIx:=by
 intro H α M v w x y Q h rv rw' q
 have at': ∀ {ds:List D} {i:Int},OP X.K H α ξ Q (atD ds i M)-> ∃ d,L2.atI ds i=some d/\OP X.K H α ξ Q (.ok d M):=fun {ds i} q=>by
  unfold atD at q
  cases e:L2.atI ds i with
  |none=>rw[e] at q;exact q.elim
  |some d=>rw[e] at q;exact ⟨d,rfl,q⟩
 unfold dIx at q
 split at q
 ·rename_i ds i
  cases rw'
  cases rv with
  | @tup p xs _ hp rp=>
   obtain ⟨d,e,q⟩:=at' q
   obtain ⟨v,h1,h2⟩:=rp.atI e
   exact .inr ⟨p,xs,i,v,rfl,rfl,(SqT.of hp),h1,q v H α Ext.refl h h2⟩
 ·rename_i ds i
  cases rw'
  cases rv with
  | @rol p xs _ hp rp=>
   obtain ⟨d,e,q⟩:=at' q
   obtain ⟨v,h1,h2⟩:=rp.atI e
   exact .inl ⟨p,xs,i,v,rfl,rfl,hp.sq,h1,q v H α Ext.refl h h2⟩
 ·rename_i n i
  cases rw'
  cases rv with
  | @ref p _ hp=>
   split at q
   ·rename_i ds e1
    obtain ⟨d,e,q⟩:=at' q
    obtain ⟨xs,g1,r1⟩:=h.at hp e1
    obtain ⟨v,h1,h2⟩:=r1.atI e
    exact .inl ⟨p,xs,i,v,rfl,rfl,SqL.of g1,h1,q v H α Ext.refl h h2⟩
   ·exact q.elim
 ·exact q.elim
theorem Zp (ha:DE X ξ a fa) (hb:DE X ξ b fb) (hs:ZhM b:=by exact fun _ _=>rfl):DE X ξ (.Subscript a b pos) (e2 dIx fa fb):=by
 obtain ⟨ta,ha,qa⟩:=ha
 obtain ⟨tb,hb,qb⟩:=hb
 exact ⟨_,Zrf (IxR.or ZlR Zn2) ha hb hs,two Zrk qa qb⟩
end
inductive Kd where
 |non | bl (b:Bool) | int (i:Int) | str (x:Str) | tup (xs:List D) | lst (xs:List D)
noncomputable def kd (M:Sto):D->Option Kd
 | .non=>some .non
 | .bl b=>some (.bl b)
 | .int i=>some (.int i)
 | .str x=>some (.str x)
 | .tup xs=>some (.tup xs)
 | .rol xs=>some (.lst xs)
 | .con xs=>some (.tup xs)
 | .ref n=>match M[n]? with | some (.lst xs)=>some (.lst xs) | _=>none
 | .err _ _=>none
 | .dk _=>none
 | .dt _=>none
noncomputable def eqL (f:D->D->Option Bool):List D->List D->Option Bool
 | [],[]=>some true
 |x :: xs,y :: ys=>match f x y with | some a=>(match eqL f xs ys with | some b=>some (a && b) | none=>none) | none=>none
 |_,_=>some false
noncomputable def eqK (f:D->D->Option Bool):Kd->Kd->Option Bool
 | .non,.non=>some true
 | .bl a,.bl b=>some (a == b)
 | .bl a,.int b=>some ((if a then 1 else 0) == b)
 | .int a,.bl b=>some (a == (if b then 1 else 0))
 | .int a,.int b=>some (a == b)
 | .str a,.str b=>some (a == b)
 | .tup xs,.tup ys=>eqL f xs ys
 | .lst xs,.lst ys=>if xs.length=ys.length then eqL f xs ys else some false
 |_,_=>some false
noncomputable def eqF:Nat->Sto->D->D->Option Bool
 |0,_,_,_=>none
 |n + 1,M,x,y=>match kd M x,kd M y with | some a,some b=>eqK (eqF n M) a b | _,_=>none
inductive Vw (X:Cx) (H:Hp) (α:List Addr) (s:Shared):Kd->Value->Prop where
 |non:Vw X H α s .non .none
 |bl (b:Bool):Vw X H α s (.bl b) (.bool b)
 |int (i:Int) (t:Tok):Vw X H α s (.int i) (.int i t)
 |str (x:Str) (t:Tok):Vw X H α s (.str x) (.str x t)
 |tup {p:Addr} {xs:List V} {ds:List D} {its:List Value}:s.heap.IsTuple p its.toArray->ZX xs its->Reps X.K H α xs ds->Vw X H α s (.tup ds) (.ref p)
 |lst {p:Addr} {xs:List V} {ds:List D} {its:List Value}:s.heap.IsList p its.toArray->ZX xs its->Reps X.K H α xs ds->Vw X H α s (.lst ds) (.ref p)
section
variable {X:Cx} {ξ:XK} {pins:List (Addr × Obj)} {σ:L2.St} {H:Hp} {s:Shared} {α:List Addr} {M:Sto}
theorem vw (I:Inv X pins σ H s) (h:HR X.K H α M) {v:V} {x:D} {u:Value} {k:Kd} (r:Rep X.K H α v x) (ru:ZV v u) (e:kd M x=some k):Vw X H α s k u:=by
 cases r with
 |non=>cases e;cases ru;exact .non
 |bl b=>cases e;cases ru;exact .bl b
 |int i=>cases e;obtain ⟨t,rfl⟩:=ru;exact .int i t
 |str x=>cases e;obtain ⟨t,rfl⟩:=ru;exact .str x t
 |err _ _ _=>cases e
 |dk _=>cases e
 |dt _=>cases e
 | @tup p xs ds hp rp=>
  cases e;cases ru
  obtain ⟨its,h1,h2,_⟩:=I.tuple (SqT.of hp)
  exact .tup h2 h1 rp
 | @con p xs ds hp rp=>
  cases e;cases ru
  obtain ⟨its,h1,h2,_⟩:=I.tuple hp.sq
  exact .tup h2 h1 rp
 | @rol p xs ds hp rp=>
  cases e;cases ru
  obtain ⟨its,h1,h2,_⟩:=I.list hp.sq
  exact .lst h2.isList h1 rp
 | @ref p n hp=>
  cases ru
  cases e1:M[n]? with
  |none=>simp only[kd,e1] at e;cases e
  |some o=>
   cases o with
   |lst ds=>
    simp only[kd,e1] at e
    cases e
    obtain ⟨xs,g1,r1⟩:=h.at hp e1
    obtain ⟨its,h1,h2,_⟩:=I.list (SqL.of g1)
    exact .lst h2.isList h1 r1
noncomputable def Eq3 (A:Around) (s:Shared) (u z:Value) (b:Bool):Prop:=EqAt A s u z b/\RcAt A s u z b/\RcNeAt A s u z (!b)
theorem Zh1 {f:D->D->Option Bool}: ∀ {xs ys:List D} {b:Bool},eqL f xs ys=some b->
  (∀ (j:Nat) x y,xs[j]?=some x->ys[j]?=some y-> ∃ c,f x y=some c)/\
  b=((List.range (min xs.length ys.length)).all (fun j=>match xs[j]?,ys[j]? with | some x,some y=>(f x y).getD false | _,_=>false) && xs.length == ys.length)
 | [],[],b,e=>by
  simp only[eqL,Option.some.injEq] at e
  subst e
  exact ⟨fun j x y h=>(by simp at h),(by simp)⟩
 |x :: xs,[],b,e=>by
  simp only[eqL,Option.some.injEq] at e
  subst e
  exact ⟨fun j x y h1 h2=>(by simp at h2),(by simp)⟩
 | [],y :: ys,b,e=>by
  simp only[eqL,Option.some.injEq] at e
  subst e
  exact ⟨fun j x y h1 h2=>(by simp at h1),(by simp)⟩
 |x :: xs,y :: ys,b,e=>by
  cases e1:f x y with
  |none=>simp only[eqL,e1] at e;cases e
  |some a=>
   cases e2:eqL f xs ys with
   |none=>simp only[eqL,e1,e2] at e;cases e
   |some c=>
    simp only[eqL,e1,e2,Option.some.injEq] at e
    subst e
    obtain ⟨h1,h2⟩:=Zh1 e2
    refine ⟨fun j x' y' g1 g2=> ?_,?_⟩
    ·cases j with
     |zero=>
      simp at g1 g2
      subst g1 g2
      exact ⟨a,e1⟩
     |succ j=>
      simp at g1 g2
      exact h1 j x' y' g1 g2
    ·have em:min (x :: xs).length (y :: ys).length=min xs.length ys.length + 1:=by simp only[List.length_cons];omega
     rw[em,List.range_succ_eq_map,List.all_cons,List.all_map,h2]
     simp[e1,Bool.and_assoc,Function.comp_def]
theorem ZjV (I:Inv X pins σ H s) (h:HR X.K H α M): ∀ (n:Nat) {v:V} {x y:D} {b:Bool},Rep X.K H α v x->Rep X.K H α v y->eqF n M x y=some b->b=true:=by
 intro n
 induction n with
 |zero=>intro v x y b _ _ e;simp only[eqF] at e;cases e
 |succ n ih=>
  have lists: ∀ (vs:List V) (xs ys:List D) (b:Bool),Reps X.K H α vs xs->Reps X.K H α vs ys->eqL (eqF n M) xs ys=some b->b=true:=by
   intro vs
   induction vs with
   |nil=>
    intro xs ys b r1 r2 e
    cases r1;cases r2
    simp only[eqL,Option.some.injEq] at e
    exact e.symm
   |cons v vs iv=>
    intro xs ys b r1 r2 e
    cases r1 with
    |cons p1 t1=>
     cases r2 with
     |cons p2 t2=>
      rename_i d1 ds1 d2 ds2
      cases e1:eqF n M d1 d2 with
      |none=>simp only[eqL,e1] at e;cases e
      |some a=>
       cases e2:eqL (eqF n M) ds1 ds2 with
       |none=>simp only[eqL,e1,e2] at e;cases e
       |some c=>
        simp only[eqL,e1,e2,Option.some.injEq] at e
        rw[<- e,ih p1 p2 e1,iv _ _ _ t1 t2 e2]
        rfl
  intro v x y b r1 r2 e
  have nl: ∀ {p:Addr} {xs ys:List V},SqT X.K H p xs->SqL X.K H p ys->False:=fun {p xs ys} a c=>by
   obtain ⟨i1,_,⟨o1,g1,c1,_⟩,_⟩:=I.tuple a
   obtain ⟨i2,_,⟨o2,_,g2,c2,_⟩,_⟩:=I.list c
   rw[g1] at g2
   cases g2
   rw[c1] at c2
   exact absurd c2 (by decide)
  have ll: ∀ {p:Addr} {n:Nat} {ds:List D},RefK H α 0 n p->M[n]?=some (.lst ds)-> ∃ vs,SqL X.K H p vs/\Reps X.K H α vs ds:=fun {p n ds} a c=>by
   obtain ⟨xs,g1,r1⟩:=h.at a c
   exact ⟨xs,SqL.of g1,r1⟩
  cases r1 with
  |non=>cases r2;simp only[eqF,kd,eqK,Option.some.injEq] at e;exact e.symm
  |bl c=>cases r2;simp only[eqF,kd,eqK,Option.some.injEq,beq_self_eq_true] at e;exact e.symm
  |int c=>cases r2;simp only[eqF,kd,eqK,Option.some.injEq,beq_self_eq_true] at e;exact e.symm
  |str c=>cases r2;simp only[eqF,kd,eqK,Option.some.injEq,beq_self_eq_true] at e;exact e.symm
  |err _ _ _=>simp[eqF,kd] at e
  |dk _=>simp[eqF,kd] at e
  |dt _=>simp[eqF,kd] at e
  | @tup p xs ds hp rp=>
   cases r2 with
   | @tup _ xs2 ds2 hp2 rp2=>
    cases I.tuple_inj (SqT.of hp) (SqT.of hp2)
    simp only[eqF,kd,eqK] at e
    exact lists _ _ _ _ rp rp2 e
   | @con _ xs2 ds2 hp2 rp2=>
    cases I.tuple_inj (SqT.of hp) hp2.sq
    simp only[eqF,kd,eqK] at e
    exact lists _ _ _ _ rp rp2 e
   | @rol _ xs2 ds2 hp2 rp2=>exact (nl (SqT.of hp) hp2.sq).elim
   |err _ _ _=>simp[eqF,kd] at e
   |dk _=>simp[eqF,kd] at e
   |dt _=>simp[eqF,kd] at e
   | @ref _ n2 hp2=>
    obtain ⟨ys,g⟩:=h.some_at hp2
    exact (nl (SqT.of hp) (SqL.of g)).elim
  | @con p xs ds hp rp=>
   cases r2 with
   | @tup _ xs2 ds2 hp2 rp2=>
    cases I.tuple_inj hp.sq (SqT.of hp2)
    simp only[eqF,kd,eqK] at e
    exact lists _ _ _ _ rp rp2 e
   | @con _ xs2 ds2 hp2 rp2=>
    cases I.tuple_inj hp.sq hp2.sq
    simp only[eqF,kd,eqK] at e
    exact lists _ _ _ _ rp rp2 e
   | @rol _ xs2 ds2 hp2 rp2=>exact (nl hp.sq hp2.sq).elim
   |err _ _ _=>simp[eqF,kd] at e
   |dk _=>simp[eqF,kd] at e
   |dt _=>simp[eqF,kd] at e
   | @ref _ n2 hp2=>
    obtain ⟨ys,g⟩:=h.some_at hp2
    exact (nl hp.sq (SqL.of g)).elim
  | @rol p xs ds hp rp=>
   cases r2 with
   | @tup _ xs2 ds2 hp2 rp2=>exact (nl (SqT.of hp2) hp.sq).elim
   | @con _ xs2 ds2 hp2 rp2=>exact (nl hp2.sq hp.sq).elim
   |err _ _ _=>simp[eqF,kd] at e
   |dk _=>simp[eqF,kd] at e
   |dt _=>simp[eqF,kd] at e
   | @rol _ xs2 ds2 hp2 rp2=>
    cases I.list_inj hp.sq hp2.sq
    simp only[eqF,kd,eqK,if_pos (rp.length.symm.trans rp2.length)] at e
    exact lists _ _ _ _ rp rp2 e
   | @ref _ n2 hp2=>
    cases e1:M[n2]? with
    |none=>simp only[eqF,kd,e1] at e;cases e
    |some o=>
     cases o with
     |lst ds2=>
      obtain ⟨ys,g,r⟩:=ll hp2 e1
      cases I.list_inj hp.sq g
      simp only[eqF,kd,e1,eqK,if_pos (rp.length.symm.trans r.length)] at e
      exact lists _ _ _ _ rp r e
  | @ref p n1 hp=>
   cases e0:M[n1]? with
   |none=>simp only[eqF,kd,e0] at e;cases e
   |some o0=>
    cases o0 with
    |lst ds=>
     obtain ⟨xs,g0,rp⟩:=ll hp e0
     cases r2 with
     | @tup _ xs2 ds2 hp2 rp2=>exact (nl (SqT.of hp2) g0).elim
     | @con _ xs2 ds2 hp2 rp2=>exact (nl hp2.sq g0).elim
     |err _ _ _=>simp[eqF,kd,e0] at e
     |dk _=>simp[eqF,kd,e0] at e
     |dt _=>simp[eqF,kd,e0] at e
     | @rol _ xs2 ds2 hp2 rp2=>
      cases I.list_inj g0 hp2.sq
      simp only[eqF,kd,e0,eqK,if_pos (rp.length.symm.trans rp2.length)] at e
      exact lists _ _ _ _ rp rp2 e
     | @ref _ n2 hp2=>
      cases e1:M[n2]? with
      |none=>simp only[eqF,kd,e0,e1] at e;cases e
      |some o=>
       cases o with
       |lst ds2=>
        obtain ⟨ys,g,r⟩:=ll hp2 e1
        cases I.list_inj g0 g
        simp only[eqF,kd,e0,e1,eqK,if_pos (rp.length.symm.trans r.length)] at e
        exact lists _ _ _ _ rp r e
end
end DL
end
section
namespace DL
open PySem PySem.Spec PyProof.Rows L2
open PySem.SeqAt (EqAt RcAt RcNeAt)
section
variable {X:Cx} {ξ:XK} {pins:List (Addr × Obj)} {σ:L2.St} {H:Hp} {s:Shared} {α:List Addr} {M:Sto}
theorem Zgl {A:Around} {n:Nat} {xs1 xs2:List V} {ds1 ds2:List D} {i1 i2:List Value} {b:Bool} (v1:ZX xs1 i1) (v2:ZX xs2 i2) (r1:Reps X.K H α xs1 ds1) (r2:Reps X.K H α xs2 ds2)
  (ih: ∀ (x y:D) (v w:V) (u z:Value) (b:Bool),eqF n M x y=some b->Rep X.K H α v x->Rep X.K H α w y->ZV v u->ZV w z->EqAt A s u z b) (e:eqL (eqF n M) ds1 ds2=some b):
  ∃ f:Nat->Bool,(∀ (j:Nat) (h1:j < i1.toArray.size) (h2:j < i2.toArray.size),EqAt A s i1.toArray[j] i2.toArray[j] (f j))/\b=((List.range (min i1.toArray.size i2.toArray.size)).all f && i1.toArray.size == i2.toArray.size):=by
 obtain ⟨g1,g2⟩:=Zh1 e
 have l1:i1.toArray.size=ds1.length:=by rw[List.size_toArray,<- v1.length,r1.length]
 have l2:i2.toArray.size=ds2.length:=by rw[List.size_toArray,<- v2.length,r2.length]
 refine ⟨_,fun j h1 h2=> ?_,by rw[l1,l2];exact g2⟩
 have k1:j < ds1.length:=by rw[<- l1];exact h1
 have k2:j < ds2.length:=by rw[<- l2];exact h2
 obtain ⟨c,hc⟩:=g1 j _ _ (List.getElem?_eq_getElem k1) (List.getElem?_eq_getElem k2)
 obtain ⟨v,a1,a2⟩:=r1.get (List.getElem?_eq_getElem k1)
 obtain ⟨w,b1,b2⟩:=r2.get (List.getElem?_eq_getElem k2)
 obtain ⟨u,a3,a4⟩:=v1.get a1
 obtain ⟨z,b3,b4⟩:=v2.get b1
 have q:=ih _ _ v w u z c hc a2 b2 a4 b4
 simp only[List.getElem?_eq_getElem k1,List.getElem?_eq_getElem k2,hc,Option.getD_some]
 have e1:i1.toArray[j]=u:=by
  have:=List.getElem?_eq_some_iff.mp a3
  obtain ⟨_,z⟩:=this
  simpa using z
 have e2:i2.toArray[j]=z:=by
  have:=List.getElem?_eq_some_iff.mp b3
  obtain ⟨_,z⟩:=this
  simpa using z
 rw[e1,e2]
 exact q
theorem Zh2 (I:Inv X pins σ H s) (h:HR X.K H α M) {n:Nat} {x y:D} {v w:V} {p q:Addr} {b:Bool} {A:Around} (e:eqF n M x y=some b) (rx:Rep X.K H α v x) (ry:Rep X.K H α w y) (rv:ZV v (.ref p)) (rw':ZV w (.ref q))
  (k:RcAt A s (.ref p) (.ref q) b) (k':RcNeAt A s (.ref p) (.ref q) (!b)):Eq3 A s (.ref p) (.ref q) b:=by
 refine ⟨?_,k,k'⟩
 by_cases c:p=q
 ·subst c
  cases ZV.inj rv rw'
  rw[ZjV I h n rx ry e]
  exact EqAt.same _
 ·exact EqAt.of_refs c k
theorem eq3 (I:Inv X pins σ H s) (h:HR X.K H α M): ∀ (n:Nat) (x y:D) (v w:V) (u z:Value) (b:Bool) (A:Around),A.units + n < cLine->eqF n M x y=some b->Rep X.K H α v x->Rep X.K H α w y->ZV v u->ZV w z->Eq3 A s u z b:=by
 intro n
 induction n with
 |zero=>intro x y v w u z b A _ e;simp only[eqF] at e;cases e
 |succ n ih=>
  intro x y v w u z b A hn e rx ry rv rw'
  have hu:A.units < cLine:=by omega
  have e0:=e
  unfold eqF at e
  cases ka:kd M x with
  |none=>rw[ka] at e;cases e
  |some ka'=>
   cases kb:kd M y with
   |none=>rw[ka,kb] at e;cases e
   |some kb'=>
    rw[ka,kb] at e
    have va:=vw I h rx rv ka
    have vb:=vw I h ry rw' kb
    have deep: ∀ (x y:D) (v w:V) (u z:Value) (b:Bool),eqF n M x y=some b->Rep X.K H α v x->Rep X.K H α w y->ZV v u->ZV w z->EqAt A.in1 s u z b:=fun x y v w u z b e a1 a2 a3 a4=>
     (ih x y v w u z b A.in1 (by rw[Around.in1_units];omega) e a1 a2 a3 a4).1
    cases va with
    |non=>
     cases vb<;>simp only[eqK,Option.some.injEq] at e<;>subst e
     ·exact ⟨EqAt.same _,.none_none,.none_none⟩
     ·exact ⟨.none_bool _,.none_bool _,.none_bool _⟩
     ·exact ⟨.none_int _ _,.none_int _ _,.none_int _ _⟩
     ·exact ⟨.none_str _ _,.none_str _ _,.none_str _ _⟩
     ·rename_i g _ _;exact ⟨.none_tuple g hu,.none_tuple g hu,.none_tuple g hu⟩
     ·rename_i g _ _;exact ⟨.none_list g hu,.none_list g hu,.none_list g hu⟩
    |bl c=>
     cases vb<;>simp only[eqK,Option.some.injEq] at e<;>subst e
     ·exact ⟨.bool_none _,.bool_none _,.bool_none _⟩
     ·exact ⟨.bool_bool _ _,.bool_bool _ _,.bool_bool _ _⟩
     ·exact ⟨.bool_int _ _ _,.bool_int _ _ _,.bool_int _ _ _⟩
     ·exact ⟨.bool_str _ _ _,.bool_str _ _ _,.bool_str _ _ _⟩
     ·rename_i g _ _;exact ⟨.bool_tuple _ g hu,.bool_tuple _ g hu,.bool_tuple _ g hu⟩
     ·rename_i g _ _;exact ⟨.bool_list _ g hu,.bool_list _ g hu,.bool_list _ g hu⟩
    |int c t=>
     cases vb<;>simp only[eqK,Option.some.injEq] at e<;>subst e
     ·exact ⟨.int_none _ _,.int_none _ _,.int_none _ _⟩
     ·exact ⟨.int_bool _ _ _,.int_bool _ _ _,.int_bool _ _ _⟩
     ·exact ⟨.int_int _ _ _ _,.int_int _ _ _ _,.int_int _ _ _ _⟩
     ·exact ⟨.int_str _ _ _ _,.int_str _ _ _ _,.int_str _ _ _ _⟩
     ·rename_i g _ _;exact ⟨.int_tuple _ _ g hu,.int_tuple _ _ g hu,.int_tuple _ _ g hu⟩
     ·rename_i g _ _;exact ⟨.int_list _ _ g hu,.int_list _ _ g hu,.int_list _ _ g hu⟩
    |str c t=>
     cases vb<;>simp only[eqK,Option.some.injEq] at e<;>subst e
     ·exact ⟨.str_none _ _,.str_none _ _,.str_none _ _⟩
     ·exact ⟨.str_bool _ _ _,.str_bool _ _ _,.str_bool _ _ _⟩
     ·exact ⟨.str_int _ _ _ _,.str_int _ _ _ _,.str_int _ _ _ _⟩
     ·exact ⟨.str_str _ _ _ _,.str_str _ _ _ _,.str_str _ _ _ _⟩
     ·rename_i g _ _;exact ⟨.str_tuple _ _ g hu,.str_tuple _ _ g hu,.str_tuple _ _ g hu⟩
     ·rename_i g _ _;exact ⟨.str_list _ _ g hu,.str_list _ _ g hu,.str_list _ _ g hu⟩
    | @tup p xs ds its g1 w1 q1=>
     cases vb with
     | @tup p2 xs2 ds2 its2 g2 w2 q2=>
      simp only[eqK] at e
      obtain ⟨f,hf,hb⟩:=Zgl w1 w2 q1 q2 deep e
      subst hb
      exact Zh2 I h e0 rx ry rv rw' (.tuples g1 g2 hu hf) (.tuples g1 g2 hu hf)
     | @lst p2 xs2 ds2 its2 g2 w2 q2=>
      simp only[eqK,Option.some.injEq] at e
      subst e
      exact Zh2 I h e0 rx ry rv rw' (.tuple_list g1 g2 hu) (.tuple_list g1 g2 hu)
     |non=>simp only[eqK,Option.some.injEq] at e;subst e;exact ⟨.tuple_none g1 hu,.tuple_none g1 hu,.tuple_none g1 hu⟩
     |bl c=>simp only[eqK,Option.some.injEq] at e;subst e;exact ⟨.tuple_bool _ g1 hu,.tuple_bool _ g1 hu,.tuple_bool _ g1 hu⟩
     |int c t=>simp only[eqK,Option.some.injEq] at e;subst e;exact ⟨.tuple_int _ _ g1 hu,.tuple_int _ _ g1 hu,.tuple_int _ _ g1 hu⟩
     |str c t=>simp only[eqK,Option.some.injEq] at e;subst e;exact ⟨.tuple_str _ _ g1 hu,.tuple_str _ _ g1 hu,.tuple_str _ _ g1 hu⟩
    | @lst p xs ds its g1 w1 q1=>
     cases vb with
     | @lst p2 xs2 ds2 its2 g2 w2 q2=>
      simp only[eqK] at e
      have l1:its.toArray.size=ds.length:=by rw[List.size_toArray,<- w1.length,q1.length]
      have l2:its2.toArray.size=ds2.length:=by rw[List.size_toArray,<- w2.length,q2.length]
      by_cases c:ds.length=ds2.length
      ·rw[if_pos c] at e
       have hs:its.toArray.size=its2.toArray.size:=by rw[l1,l2,c]
       obtain ⟨f,hf,hb⟩:=Zgl w1 w2 q1 q2 deep e
       rw[hs,Nat.min_self,beq_self_eq_true,Bool.and_true,<- hs] at hb
       subst hb
       exact Zh2 I h e0 rx ry rv rw' (.lists g1 g2 hs hu hf) (.lists g1 g2 hs hu hf)
      ·rw[if_neg c] at e
       have e':false=b:=Option.some.inj e
       subst e'
       have hs:(its.toArray.size != its2.toArray.size)=true:=by rw[l1,l2];simpa using c
       exact Zh2 I h e0 rx ry rv rw' (.lists_lengths g1 g2 hs hu) (.lists_lengths g1 g2 hs hu)
     | @tup p2 xs2 ds2 its2 g2 w2 q2=>
      simp only[eqK,Option.some.injEq] at e
      subst e
      exact Zh2 I h e0 rx ry rv rw' (.list_tuple g1 g2 hu) (.list_tuple g1 g2 hu)
     |non=>simp only[eqK,Option.some.injEq] at e;subst e;exact ⟨.list_none g1 hu,.list_none g1 hu,.list_none g1 hu⟩
     |bl c=>simp only[eqK,Option.some.injEq] at e;subst e;exact ⟨.list_bool _ g1 hu,.list_bool _ g1 hu,.list_bool _ g1 hu⟩
     |int c t=>simp only[eqK,Option.some.injEq] at e;subst e;exact ⟨.list_int _ _ g1 hu,.list_int _ _ g1 hu,.list_int _ _ g1 hu⟩
     |str c t=>simp only[eqK,Option.some.injEq] at e;subst e;exact ⟨.list_str _ _ g1 hu,.list_str _ _ g1 hu,.list_str _ _ g1 hu⟩
end
section
variable {X:Cx} {ξ:XK}
noncomputable def ZqS (X:Cx) (neg:Bool):R2:=fun v w H Q=> ∃ α M x y b,HR X.K H α M/\Rep X.K H α v x/\Rep X.K H α w y/\eqF 12 M x y=some b/\Q (.bl (neg ^^ b)) H
theorem ZbA (hu:X.A.units + 64 < cLine):OpR X (compareOp .Eq) (ZqS X false):=by
 intro pins s σ H v w u z Q I rv rw' ⟨α,M,x,y,b,h,rx,ry,e,q⟩
 refine (eq3 I h 12 x y v w u z b X.A (by omega) e rx ry rv rw').2.1 _ _ _ _ ⟨.bl b,H,I,rfl,?_⟩
 simpa using q
theorem Zcy (hu:X.A.units + 64 < cLine):OpR X (compareOp .NotEq) (ZqS X true):=by
 intro pins s σ H v w u z Q I rv rw' ⟨α,M,x,y,b,h,rx,ry,e,q⟩
 refine (eq3 I h 12 x y v w u z b X.A (by omega) e rx ry rv rw').2.2 _ _ _ _ ⟨.bl (!b),H,I,rfl,?_⟩
 simpa using q
noncomputable def dEq:Bo:=fun x y M=>match eqF 12 M x y with | some b=> .ok (.bl b) M | none=> .bad
noncomputable def dNe:Bo:=fun x y M=>match eqF 12 M x y with | some b=> .ok (.bl (!b)) M | none=> .bad
theorem Zc3:BO X ξ (ZqS X false) dEq:=by
 intro H α M v w x y Q h rv rw' q
 unfold dEq at q
 cases e:eqF 12 M x y with
 |none=>rw[e] at q;exact q.elim
 |some b=>rw[e] at q;exact ⟨α,M,x,y,b,h,rv,rw',e,by simpa using q _ H α Ext.refl h (.bl b)⟩
theorem ZeR:BO X ξ (ZqS X true) dNe:=by
 intro H α M v w x y Q h rv rw' q
 unfold dNe at q
 cases e:eqF 12 M x y with
 |none=>rw[e] at q;exact q.elim
 |some b=>rw[e] at q;exact ⟨α,M,x,y,b,h,rv,rw',e,by simpa using q _ H α Ext.refl h (.bl (!b))⟩
noncomputable def Zh3:V->Bool
 | .non=>true
 | .bl _=>true
 |_=>false
noncomputable def rIs (neg:Bool):R2:=fun v w H Q=>Zh3 w=true/\Q (.bl (neg ^^ decide (v=w))) H
theorem Zgm {v w:V} {u z:Value} (rv:ZV v u) (rw':ZV w z) (p:Zh3 w=true):plainIs u z=true/\(u == z)=decide (v=w):=by
 cases w with
 |non=>
  cases rw'
  cases v with
  |non=>cases rv;exact ⟨rfl,rfl⟩
  |bl b=>cases rv;exact ⟨rfl,by rw[decide_eq_false (fun z=>(nomatch z))];rfl⟩
  |int b=>obtain ⟨t,rfl⟩:=rv;exact ⟨rfl,by rw[decide_eq_false (fun z=>(nomatch z))];rfl⟩
  |str b=>obtain ⟨t,rfl⟩:=rv;exact ⟨rfl,by rw[decide_eq_false (fun z=>(nomatch z))];rfl⟩
  |byt b=>obtain ⟨t,rfl⟩:=rv;exact ⟨rfl,by rw[decide_eq_false (fun z=>(nomatch z))];rfl⟩
  |flt b=>obtain ⟨t,rfl⟩:=rv;exact ⟨rfl,by rw[decide_eq_false (fun z=>(nomatch z))];rfl⟩
  |ref b=>cases rv;exact ⟨rfl,by rw[decide_eq_false (fun z=>(nomatch z))];rfl⟩
  |ty b=>cases rv;exact ⟨rfl,by rw[decide_eq_false (fun z=>(nomatch z))];rfl⟩
 |bl c=>
  cases rw'
  cases v with
  |non=>cases rv;exact ⟨rfl,by rw[decide_eq_false (fun z=>(nomatch z))];rfl⟩
  |bl b=>cases rv;refine ⟨rfl,?_⟩;cases b<;>cases c<;>rfl
  |int b=>obtain ⟨t,rfl⟩:=rv;exact ⟨rfl,by rw[decide_eq_false (fun z=>(nomatch z))];rfl⟩
  |str b=>obtain ⟨t,rfl⟩:=rv;exact ⟨rfl,by rw[decide_eq_false (fun z=>(nomatch z))];rfl⟩
  |byt b=>obtain ⟨t,rfl⟩:=rv;exact ⟨rfl,by rw[decide_eq_false (fun z=>(nomatch z))];rfl⟩
  |flt b=>obtain ⟨t,rfl⟩:=rv;exact ⟨rfl,by rw[decide_eq_false (fun z=>(nomatch z))];rfl⟩
  |ref b=>cases rv;exact ⟨rfl,by rw[decide_eq_false (fun z=>(nomatch z))];rfl⟩
  |ty b=>cases rv;exact ⟨rfl,by rw[decide_eq_false (fun z=>(nomatch z))];rfl⟩
 |_=>cases p
theorem Zoj:OpR X (compareOp .Is) (rIs false):=by
 intro pins s σ H v w u z Q I rv rw' ⟨p,q⟩
 obtain ⟨h1,h2⟩:=Zgm rv rw' p
 refine wpAny_is_plain h1 ⟨.bl (u == z),H,I,rfl,?_⟩
 rw[h2]
 simpa using q
theorem Zh4:OpR X (compareOp .IsNot) (rIs true):=by
 intro pins s σ H v w u z Q I rv rw' ⟨p,q⟩
 obtain ⟨h1,h2⟩:=Zgm rv rw' p
 refine wpAny_isNot_plain h1 ⟨.bl (!(u == z)),H,I,rfl,?_⟩
 rw[h2]
 simpa using q
noncomputable def isP:D->D->Option Bool
 | .non,.non=>some true
 | .bl a,.bl b=>some (a == b)
 |_,.non=>some false
 |_,.bl _=>some false
 |_,_=>none
noncomputable def dIs:Bo:=fun x y M=>match isP x y with | some b=> .ok (.bl b) M | none=> .bad
noncomputable def dIsNot:Bo:=fun x y M=>match isP x y with | some b=> .ok (.bl (!b)) M | none=> .bad
theorem ZkR {K:PySem.W.Frag} {H:Hp} {α:List Addr} {v w:V} {x y:D} {b:Bool} (rv:Rep K H α v x) (rw':Rep K H α w y) (e:isP x y=some b):Zh3 w=true/\decide (v=w)=b:=by
 unfold isP at e
 split at e
 ·cases rv;cases rw';cases e;exact ⟨rfl,rfl⟩
 ·rename_i c d
  cases rv;cases rw';cases e
  refine ⟨rfl,?_⟩
  cases c<;>cases d<;>rfl
 ·rename_i hx
  cases rw';cases e
  refine ⟨rfl,decide_eq_false fun z=> ?_⟩
  subst z
  cases rv
  exact hx rfl
 ·rename_i c hx
  cases rw';cases e
  refine ⟨rfl,decide_eq_false fun z=> ?_⟩
  subst z
  cases rv
  exact hx _ rfl
 ·cases e
theorem Zrl:BO X ξ (rIs false) dIs:=by
 intro H α M v w x y Q h rv rw' q
 unfold dIs at q
 cases e:isP x y with
 |none=>rw[e] at q;exact q.elim
 |some b=>
  rw[e] at q
  obtain ⟨p,d⟩:=ZkR rv rw' e
  exact ⟨p,by rw[d];simpa using q _ H α Ext.refl h (.bl b)⟩
theorem ZjW:BO X ξ (rIs true) dIsNot:=by
 intro H α M v w x y Q h rv rw' q
 unfold dIsNot at q
 cases e:isP x y with
 |none=>rw[e] at q;exact q.elim
 |some b=>
  rw[e] at q
  obtain ⟨p,d⟩:=ZkR rv rw' e
  exact ⟨p,by rw[d];simpa using q _ H α Ext.refl h (.bl (!b))⟩
noncomputable def Zd7:D->Bool
 | .non=>true
 | .bl _=>true
 | .int _=>true
 | .str _=>true
 |_=>false
noncomputable def Zrm:D->D->Bool
 | .non,.non=>true
 | .bl a,.bl b=>a == b
 | .bl a,.int b=>(if a then 1 else 0) == b
 | .int a,.bl b=>a == (if b then 1 else 0)
 | .int a,.int b=>a == b
 | .str a,.str b=>a == b
 |_,_=>false
theorem Zgn {K:PySem.W.Frag} {H:Hp} {α:List Addr} {v:V} {x:D} (r:Rep K H α v x) (f:Zd7 x=true):ZcI v=true:=by cases r<;>first | rfl | cases f
theorem ZjX {K:PySem.W.Frag} {H:Hp} {α:List Addr} {v w:V} {x y:D} (r:Rep K H α v x) (q:Rep K H α w y) (f:Zd7 x=true) (g:Zd7 y=true):eqV v w=Zrm x y:=by
 cases r<;>(cases q<;>first | rfl | exact absurd g Bool.false_ne_true | exact absurd f Bool.false_ne_true)
theorem Zok {K:PySem.W.Frag} {H:Hp} {α:List Addr} {v:V} {x:D} (r:Rep K H α v x) (f:Zd7 x=true): ∀ {vs:List V} {ds:List D},Reps K H α vs ds->ds.all Zd7=true->vs.all ZcI=true/\inV v vs=ds.any fun y=>Zrm y x
 |_,_,.nil,_=>⟨rfl,rfl⟩
 |_,_,.cons p t,h=>by
  rw[List.all_cons,Bool.and_eq_true] at h
  obtain ⟨h1,h2⟩:=Zok r f t h.2
  refine ⟨by rw[List.all_cons,Zgn p h.1,h1];rfl,?_⟩
  unfold inV at h2 ⊢
  rw[List.any_cons,List.any_cons,h2,ZjX p r h.1 f]
noncomputable def ZgX (M:Sto):D->Option (List D)
 | .tup xs=>some xs
 | .rol xs=>some xs
 | .con xs=>some xs
 | .ref n=>match M[n]? with | some (.lst xs)=>some xs | _=>none
 |_=>none
theorem ZfF {K:PySem.W.Frag} {H:Hp} {α:List Addr} {M:Sto} (h:HR K H α M) {v:V} {x:D} {ds:List D} (r:Rep K H α v x) (e:ZgX M x=some ds): ∃ p xs,v= .ref p/\(SqL K H p xs\/SqT K H p xs)/\Reps K H α xs ds:=by
 cases r with
 | @tup p xs ds hp rp=>cases e;exact ⟨p,xs,rfl,.inr (SqT.of hp),rp⟩
 | @con p xs ds hp rp=>cases e;exact ⟨p,xs,rfl,.inr hp.sq,rp⟩
 | @rol p xs ds hp rp=>cases e;exact ⟨p,xs,rfl,.inl hp.sq,rp⟩
 | @ref p n hp=>
  cases e1:M[n]? with
  |none=>simp only[ZgX,e1] at e;cases e
  |some o=>
   cases o with
   |lst es=>
    simp only[ZgX,e1] at e
    cases e
    obtain ⟨xs,g1,r1⟩:=h.at hp e1
    exact ⟨p,xs,rfl,.inl (SqL.of g1),r1⟩
 |_=>cases e
noncomputable def inD (x y:D) (M:Sto):Option Bool:=match ZgX M y with | some ds=>if Zd7 x=true/\ds.all Zd7=true then some (ds.any fun y=>Zrm y x) else none | none=>none
noncomputable def dNotIn:Bo:=fun x y M=>match inD x y M with | some b=> .ok (.bl (!b)) M | none=> .bad
theorem Zol {H:Hp} {α:List Addr} {M:Sto} {v w:V} {x y:D} {b:Bool} (h:HR X.K H α M) (rv:Rep X.K H α v x) (rw':Rep X.K H α w y) (e:inD x y M=some b):
  ∃ p xs,w= .ref p/\(SqL X.K H p xs\/SqT X.K H p xs)/\ZcI v=true/\xs.all ZcI=true/\inV v xs=b:=by
 unfold inD at e
 cases e1:ZgX M y with
 |none=>rw[e1] at e;cases e
 |some ds=>
  rw[e1] at e
  by_cases c:Zd7 x=true/\ds.all Zd7=true
  ·simp only[if_pos c,Option.some.injEq] at e
   obtain ⟨p,xs,h1,h2,h3⟩:=ZfF h rw' e1
   obtain ⟨h4,h5⟩:=Zok rv c.1 h3 c.2
   exact ⟨p,xs,h1,h2,Zgn rv c.1,h4,h5.trans e⟩
  ·simp only[if_neg c] at e
   cases e
theorem ZjY:BO X ξ (rIn X.K true) dNotIn:=by
 intro H α M v w x y Q h rv rw' q
 unfold dNotIn at q
 cases e:inD x y M with
 |none=>rw[e] at q;exact q.elim
 |some b=>
  rw[e] at q
  obtain ⟨p,xs,h1,h2,h3,h4,h5⟩:=Zol h rv rw' e
  exact ⟨p,xs,h1,h2,h3,h4,by rw[h5];exact q _ H α Ext.refl h (.bl (!b))⟩
variable {e:Expr} {es:List Expr} {fs:Av} {fa:Ev} {p pos:Pos} {x:Str} {id T:String} {r:List V->Hp->VK->Prop} {f:List D->Sto->Out D}
noncomputable def Zl (f:List D->Sto->Out D) (fs:Av):Ev:=fun ρ M=>(fs ρ M).bind f
noncomputable def CO (X:Cx) (ξ:XK) (r:List V->Hp->VK->Prop) (f:List D->Sto->Out D):Prop:= ∀ H α M vs ds Q,HR X.K H α M->Reps X.K H α vs ds->OP X.K H α ξ Q (f ds M)->r vs H Q
theorem Zv (hc:Zco X (.builtin id) r) (hf:CO X ξ r f) (hm:X.mg x=none) (hv:bootBuiltins x=some (.builtin id)) (ha:DA X ξ (e :: es) fs) (hg:Gl X x:=by rfl) (hn:x≠"__name__":=by decide) (hdb:(x == ("__debug__":Str))=false:=by decide)
  (he:starEach (e :: es) X.env=(false,eval e X.env) :: starEach es X.env:=by rfl) (hpl:(backTo pos (starEach es X.env)).any (·.1)=false:=by rfl):DE X ξ (.Call (.Name x p) (e :: es) [] pos) (Zl f fs):=by
 obtain ⟨ta,ha,qa⟩:=ha
 refine ⟨_,Zgh hc hg hm hv ha hn hdb he hpl,fun σ ρ H α M Q s h q=> ?_⟩
 exact qa σ ρ H α M _ s h (OG.seq q fun ds M1 vs H1 α1 e1 h1 r1 q1=>hf H1 α1 M1 vs ds Q h1 r1 q1)
theorem Zab (hc:Zco X (.type T) r) (hf:CO X ξ r f) (hm:X.mg x=none) (hv:bootBuiltins x=some (.type T)) (ha:DA X ξ (e :: es) fs) (hg:Gl X x:=by rfl) (hn:x≠"__name__":=by decide) (hdb:(x == ("__debug__":Str))=false:=by decide)
  (he:starEach (e :: es) X.env=(false,eval e X.env) :: starEach es X.env:=by rfl) (hpl:(backTo pos (starEach es X.env)).any (·.1)=false:=by rfl):DE X ξ (.Call (.Name x p) (e :: es) [] pos) (Zl f fs):=by
 obtain ⟨ta,ha,qa⟩:=ha
 refine ⟨_,ZhI hc hg hm hv ha hn hdb he hpl,fun σ ρ H α M Q s h q=> ?_⟩
 exact qa σ ρ H α M _ s h (OG.seq q fun ds M1 vs H1 α1 e1 h1 r1 q1=>hf H1 α1 M1 vs ds Q h1 r1 q1)
noncomputable def bLen:List D->Sto->Out D:=fun ds M=>match ds with
 | [x]=>match ZgX M x with | some xs=> .ok (.int xs.length) M | none=> .bad
 |_=> .bad
theorem ZaB:CO X ξ (fun xs H Q=> ∃ p ys,xs=[.ref p]/\(SqL X.K H p ys\/SqT X.K H p ys)/\Q (.int ys.length) H) bLen:=by
 intro H α M vs ds Q h rs q
 unfold bLen at q
 cases rs with
 |nil=>exact q.elim
 | @cons v x vs ds r t=>
  cases t with
  |cons _ _=>exact q.elim
  |nil=>
  cases e:ZgX M x with
  |none=>simp only[e] at q;exact q.elim
  |some ys=>
   simp only[e] at q
   obtain ⟨p,xs,rfl,h2,h3⟩:=ZfF h r e
   exact ⟨p,xs,rfl,h2,by rw[h3.length];exact q _ H α Ext.refl h (.int _)⟩
noncomputable def bAbs:List D->Sto->Out D:=fun ds M=>match ds with | [.int i]=> .ok (.int (if i < 0 then -i else i)) M | _=> .bad
theorem Zc4:CO X ξ (fun xs H Q=> ∃ i,xs=[.int i]/\Q (.int (if i < 0 then -i else i)) H) bAbs:=by
 intro H α M vs ds Q h rs q
 unfold bAbs at q
 split at q
 ·cases rs with
  |cons r t=>
   cases t
   cases r
   exact ⟨_,rfl,q _ H α Ext.refl h (.int _)⟩
 ·exact q.elim
noncomputable def bMax:List D->Sto->Out D:=fun ds M=>match ds with | [.int i,.int j]=> .ok (.int (if j > i then j else i)) M | _=> .bad
noncomputable def bMin:List D->Sto->Out D:=fun ds M=>match ds with | [.int i,.int j]=> .ok (.int (if j < i then j else i)) M | _=> .bad
theorem ZkS {g:Int->Int->Int} {f:List D->Sto->Out D} (hf: ∀ ds M,f ds M=match ds with | [.int i,.int j]=> .ok (.int (g i j)) M | _=> .bad):CO X ξ (fun xs H Q=> ∃ i j,xs=[.int i,.int j]/\Q (.int (g i j)) H) f:=by
 intro H α M vs ds Q h rs q
 rw[hf] at q
 split at q
 ·rename_i i j
  cases rs with
  |cons r t=>
   cases t with
   |cons r' t'=>
    cases t'
    cases r
    cases r'
    exact ⟨i,j,rfl,q _ H α Ext.refl h (.int _)⟩
 ·exact q.elim
theorem Zh5:CO X ξ (fun xs H Q=> ∃ i j,xs=[.int i,.int j]/\Q (.int (if j > i then j else i)) H) bMax:=ZkS (g:=fun i j=>if j > i then j else i) fun ds M=>rfl
theorem Zom:CO X ξ (fun xs H Q=> ∃ i j,xs=[.int i,.int j]/\Q (.int (if j < i then j else i)) H) bMin:=ZkS (g:=fun i j=>if j < i then j else i) fun ds M=>rfl
noncomputable def bInt:List D->Sto->Out D:=fun ds M=>match ds with | [.int i]=> .ok (.int i) M | [.bl k]=> .ok (.int (if k then 1 else 0)) M | _=> .bad
theorem ZdS:CO X ξ (fun xs H Q=>(∃ i,xs=[.int i]/\Q (.int i) H)\/ ∃ k,xs=[.bl k]/\Q (.int (if k then 1 else 0)) H) bInt:=by
 intro H α M vs ds Q h rs q
 unfold bInt at q
 split at q
 ·cases rs with
  |cons r t=>
   cases t
   cases r
   exact .inl ⟨_,rfl,q _ H α Ext.refl h (.int _)⟩
 ·cases rs with
  |cons r t=>
   cases t
   cases r
   exact .inr ⟨_,rfl,q _ H α Ext.refl h (.int _)⟩
 ·exact q.elim
noncomputable def bList:List D->Sto->Out D:=fun ds M=>match ds with
 | [x]=>match ZgX M x with | some xs=> .ok (.ref M.length) (M ++ [.lst xs]) | none=> .bad
 |_=> .bad
theorem Zd8:CO X ξ (fun xs H Q=> ∃ p ys,xs=[.ref p]/\(SqL X.K H p ys\/SqT X.K H p ys)/\ ∀ l,H l=none->Q (.ref l) (upd H l (.lst ys))) bList:=by
 intro H α M vs ds Q h rs q
 unfold bList at q
 cases rs with
 |nil=>exact q.elim
 | @cons v x vs ds r t=>
  cases t with
  |cons _ _=>exact q.elim
  |nil=>
  cases e:ZgX M x with
  |none=>simp only[e] at q;exact q.elim
  |some ys=>
   simp only[e] at q
   obtain ⟨p,xs,rfl,h2,h3⟩:=ZfF h r e
   exact ⟨p,xs,rfl,h2,fun l hl=>q _ _ (α ++ [l]) (Ext.new hl) (h.new hl h3) (.ref ⟨h.last l,Kn.lst ZC⟩)⟩
noncomputable def ZbB (M:Sto) (x:D):Option String:=match kd M x with
 |some .non=>some "NoneType"
 |some (.bl _)=>some "bool"
 |some (.int _)=>some "int"
 |some (.str _)=>some "str"
 |some (.tup _)=>some "tuple"
 |some (.lst _)=>some "list"
 |none=>none
noncomputable def Zc5 (t T:String):Bool:=t == T || (t == "bool" && T == "int")
noncomputable def ZjZ (T:String) (f:Ev):Ev:=fun ρ M=>(f ρ M).bind fun x M1=>match ZbB M1 x with | some t=> .ok (.bl (Zc5 t T)) M1 | none=> .bad
noncomputable def ZuB (X:Cx) (T:String):List V->Hp->VK->Prop:=fun vs H Q=> ∃ v α M x t,vs=[v,.ty T]/\HR X.K H α M/\Rep X.K H α v x/\ZbB M x=some t/\Q (.bl (Zc5 t T)) H
structure Kit (K:PySem.W.Frag) (T:String):Prop where
 non:PySem.W.kitOne K (.type "NoneType") (.type T)=some (Zc5 "NoneType" T)
 bl:PySem.W.kitOne K (.type "bool") (.type T)=some (Zc5 "bool" T)
 int:PySem.W.kitOne K (.type "int") (.type T)=some (Zc5 "int" T)
 str:PySem.W.kitOne K (.type "str") (.type T)=some (Zc5 "str" T)
 tup:PySem.W.kitOne K (.type "tuple") (.type T)=some (Zc5 "tuple" T)
 lst:PySem.W.kitOne K (.type "list") (.type T)=some (Zc5 "list" T)
theorem Zl1 {K:PySem.W.Frag}:Kit K "int":=⟨rfl,rfl,rfl,rfl,rfl,rfl⟩
theorem Zj0 {K:PySem.W.Frag}:Kit K "bool":=⟨rfl,rfl,rfl,rfl,rfl,rfl⟩
theorem Zca {K:PySem.W.Frag}:Kit K "tuple":=⟨rfl,rfl,rfl,rfl,rfl,rfl⟩
theorem Zj1 (kt:Kit X.K T):Zco X (.builtin "isinstance") (ZuB X T):=by
 intro pins s σ H vs us Q I rs ⟨v,α,M,x,t,e1,h,rx,et,q⟩
 subst e1
 obtain ⟨u,w,rfl,ru,rw'⟩:=ZjH rs
 cases rw'
 unfold ZbB at et
 cases ek:kd M x with
 |none=>rw[ek] at et;cases et
 |some k=>
  rw[ek] at et
  have va:=vw I h rx ru ek
  have fin: ∀ tk,EP X pins σ Q (.bool (Zc5 t T)) { s with toks:=tk }:=fun tk=>⟨.bl _,H,I.tok tk,rfl,q⟩
  cases va with
  |non=>cases et;exact PySem.W.kia_one PySem.W.kitx_none I.kIn True.intro kt.non (fun z=>nomatch z) fin
  |bl b=>cases et;exact PySem.W.kia_one PySem.W.kitx_bool I.kIn True.intro kt.bl (fun z=>nomatch z) fin
  |int i t=>cases et;exact PySem.W.kia_one PySem.W.kitx_int I.kIn True.intro kt.int (fun z=>nomatch z) fin
  |str i t=>cases et;exact PySem.W.kia_one PySem.W.kitx_str I.kIn True.intro kt.str (fun z=>nomatch z) fin
  |tup g _ _=>cases et;obtain ⟨o,h1,h2,_⟩:=g;exact PySem.W.kia_one PySem.W.kitx_tuple I.kIn ⟨o,h1,h2⟩ kt.tup (fun z=>nomatch z) fin
  |lst g _ _=>cases et;obtain ⟨o,h1,h2,_⟩:=g;exact PySem.W.kia_one PySem.W.kitx_list I.kIn ⟨o,h1,h2⟩ kt.lst (fun z=>nomatch z) fin
theorem ZdT {y:Str} {p2:Pos} (kt:Kit X.K T) (hm:X.mg "isinstance"=none) (hmT:X.mg y=none) (hvT:bootBuiltins y=some (.type T)) (ha:DE X ξ e fa) (hg:Gl X "isinstance":=by rfl) (hgT:Gl X y:=by rfl) (hn:y≠"__name__":=by decide) (hdb:(y == ("__debug__":Str))=false:=by decide)
  (he:starEach [e,.Name y p2] X.env=(false,eval e X.env) :: starEach [.Name y p2] X.env:=by rfl) (he2:starEach [.Name y p2] X.env=(false,eval (.Name y p2) X.env) :: starEach [] X.env:=by rfl) (hpl:(backTo pos (starEach [.Name y p2] X.env)).any (·.1)=false:=by rfl):DE X ξ (.Call (.Name "isinstance" p) [e,.Name y p2] [] pos) (ZjZ T fa):=by
 obtain ⟨ta,ha,qa⟩:=ha
 refine ⟨_,Zgh (Zj1 kt) hg hm (by with_unfolding_all rfl) (Zfx ha (Zfx (Zlz hgT hmT hvT (v:= .ty T) rfl hn hdb) ZkM he2) he) (by decide) (by decide) he hpl,fun σ ρ H α M Q s h q=> ?_⟩
 refine qa σ ρ H α M _ s h (OG.seq q fun x M1 v H1 α1 e1 h1 r1 q1=> ?_)
 cases et:ZbB M1 x with
 |none=>simp only[et] at q1;exact q1.elim
 |some t=>
  simp only[et] at q1
  exact ⟨v,α1,M1,x,t,rfl,h1,r1,et,q1 _ H1 α1 Ext.refl h1 (.bl _)⟩
end
end DL
end
section
namespace DL
open PySem PySem.Spec PyProof.Rows L2
noncomputable def CXE (P:Program) (w:World):CXT:=fun outer H s E e s'=> ∃ (ea C:Addr) (dct:Option Addr) (B:Heap) (H':Hp),e= .ref ea/\s'.os=s.os/\AllBare s'.gens/\Un (frs outer) [] H H' s.heap s'.heap/\HOk P w H' s'.heap/\
 DQ.Fly B outer ea (.ref C) dct .none s'.heap/\(∀ b u,H' b=some u-> ∃ o,B.get? b=some o)/\(∀ b o,s.heap.get? b=some o->b ∉ frs outer-> ∃ o',B.get? b=some o')/\E (.ref C) dct H'
structure Thr (X:Cx) (ξ:XK):Prop where
 own:PassesOwn (model X.prog X.w) X.A X.env X.xe
 ps:ZhG (CXE X.prog X.w) X ξ
 mak: ∀ (pins:List (Addr × Obj)) (σ:L2.St) (H:Hp) (s:Shared) (h':Heap) (e:Addr) (oe:Obj) (vs:Array Value) (C:Addr),Inv X pins σ H s->(∀ b o,s.heap.get? b=some o->h'.get? b=some o)->s.heap.get? e=none->h'.get? e=some oe->oe.cls= .ref C->oe.dict=none->
  oe.data= .fields vs->vs[1]?=some .none->vs[2]?=some .none->ξ (.ref C) none H->X.xe (.ref e) { s with heap:=h' }
theorem ZeS {h b1 b2:Heap}: ∀ {l:List Env},h.FunFrames b1 l->(∀ b∈frs l,b2.get? b=none)->h.FunFrames b2 l
 | [],_,_=>trivial
 |env :: r,⟨h1,⟨L,o,h2,h3,h4,h5⟩,h6⟩,k=>⟨h1,⟨L,o,h2,k L (by unfold frs;rw[List.filterMap_cons,h2];exact List.mem_cons_self),h4,h5⟩,ZeS h6 fun b hb=>k b (by
   unfold frs
   rw[List.filterMap_cons,h2]
   exact List.mem_cons_of_mem _ hb)⟩
section
variable {X:Cx} {pins:List (Addr × Obj)} {σ:L2.St} {H H':Hp} {s:Shared} {h1 h2 B:Heap}
theorem ZkT (hx:X.ex=[]) (I:Inv X pins σ H s) (u:Un (frs X.stack) [] H H' s.heap h1) (hok:HOk X.prog X.w H' h1) (t1: ∀ b q,H' b=some q-> ∃ o,B.get? b=some o) (t2: ∀ b o,s.heap.get? b=some o->b ∉ frs X.stack-> ∃ o',B.get? b=some o')
  (st1:B.StaysIn h1) (st2:B.StaysIn h2) (up:h1.UpToSlots h2):Un X.fs [] X.H₀ H' X.s₀.heap h2/\HOk X.prog X.w H' h2/\ ∀ b o,X.s₀.heap.get? b=some o->b ∉ X.fs-> ∃ o',B.get? b=some o':=by
 have kB: ∀ b ob o,B.get? b=some ob->h1.get? b=some o->h2.get? b=some o:=fun b ob o e x=>by
  have z:=st1 b ob e
  rw[x] at z
  cases z
  exact st2 b _ e
 have nx: ∀ b,b ∉ X.ex:=fun b=>by rw[hx];simp
 have nL: ∀ b o,X.s₀.heap.get? b=some o->b ∉ X.fs->b ∉ frs X.stack:=fun b o e n z=>by
  rcases List.mem_cons.mp (I.stkSub b z) with q | q
  ·exact absurd (Heap.lt_size e) (by rw[q];exact Nat.not_lt_of_le I.ok.above)
  ·exact n q
 have th: ∀ b o,X.s₀.heap.get? b=some o->b ∉ X.fs-> ∃ o',B.get? b=some o':=fun b o e n=>by
  obtain ⟨o',e'⟩:=I.base.there b o e (nx b)
  exact t2 b o' e' (nL b o e n)
 have sl: ∀ b o,X.s₀.heap.get? b=some o->X.H₀ b=none->b∈X.fs-> ∃ sl,h2.get? b=some { o with slots:=sl }:=fun b o e n hb=>by
  obtain ⟨s1,e1⟩:=I.base.slot b o e n hb (nx b)
  obtain ⟨s2,e2⟩:=u.any e1 (I.base.free b o e n (nx b)) (by simp)
  obtain ⟨_,o',g1,g2⟩:=I.ok.funs.mem hb
  rw[e] at g1
  cases g1
  obtain ⟨s3,e3⟩:=up b _ e2 g2
  exact ⟨s3,e3⟩
 refine ⟨⟨fun b o e n hb _=> ?_,fun b o e n hb _=>sl b o e n hb,fun b o e n _=> ?_,fun b o e _=> ?_,fun b xs e=>u.tups b xs (I.base.tups b xs e),fun b o xs e=>u.frzs b o xs (I.base.frzs b o xs e),fun b ps e=> ?_⟩,fun a o e=> ?_,th⟩
 ·obtain ⟨ob,g⟩:=th b o e hb
  exact kB b ob o g (u.keep b o (I.base.keep b o e n hb (nx b)) (I.base.free b o e n (nx b)) (nL b o e hb) (by simp))
 ·obtain ⟨o',e'⟩:=I.base.there b o e (nx b)
  exact u.free b o' e' (I.base.free b o e n (nx b)) (by simp)
 ·by_cases hb:b∈X.fs
  ·obtain ⟨s1,e1⟩:=sl b o e (I.ok.frf b hb) hb
   exact ⟨_,e1⟩
  ·obtain ⟨ob,g⟩:=th b o e hb
   exact ⟨ob,st2 b ob g⟩
 ·obtain ⟨m1,e1⟩:=I.base.tbls b ps e
  obtain ⟨m2,e2⟩:=u.tbls b _ e1
  exact ⟨m1 ++ m2,by rw[e2,Array.append_assoc]⟩
 ·refine (hok a o e).stay (fun b q hb x=> ?_) (fun _ q=>q) fun _ _ q=>q
  have tr: ∃ q,H' b=some q:=by
   rcases hb with z | z
   ·exact ⟨o,z ▸ e⟩
   ·exact ⟨_,z⟩
  obtain ⟨q',z⟩:=tr
  obtain ⟨ob,g⟩:=t1 b q' z
  exact kB b ob q g x
end
theorem Zj2 {P:Program} {w:World} {H:Hp} {h:Heap} {a:Addr} {o:HO} (x:Zba P w H h a o): ∃ ob,h.get? a=some ob:=by
 cases o with
 |lst xs=>obtain ⟨_,_,_,_,e⟩:=x;exact ⟨_,e⟩
 |tup xs=>obtain ⟨_,_,_,ob,e,_⟩:=x;exact ⟨_,e⟩
 |dK kvs=>obtain ⟨_,_,_,_,o,_,_,e,_⟩:=x;exact ⟨_,e⟩
 |dT kvs=>obtain ⟨_,_,_,_,o,_,_,e,_⟩:=x;exact ⟨_,e⟩
 |set S n=>obtain ⟨o,_,_,_,e,_⟩:=x;exact ⟨_,e⟩
 |ins C dx fs=>obtain ⟨_,_,_,e,_⟩:=x;exact ⟨_,e⟩
 |own y=>exact x
 |xd fs=>obtain ⟨_,⟨_,_,_,e,_⟩,_⟩:=x;exact ⟨_,e⟩
 |rng lo hi=>obtain ⟨_,_,_,e⟩:=x;exact ⟨_,e⟩
 |frz ob u=>obtain ⟨e,_⟩:=x;exact ⟨_,e⟩
 |tbl ps=>exact ⟨_,(show h.get? a=some _ from x)⟩
 |met f y=>exact ⟨_,(show h.get? a=some _ from x)⟩
 |ext φ=>obtain ⟨_,e,_⟩:=x;exact e
noncomputable def Zjv (h:Heap) (l:List Addr):Heap:=Zjs h fun b=>if b∈l then some (.own 0) else none
theorem Zgo {h:Heap} {l:List Addr} {b:Addr} {o:Obj} (e:h.get? b=some o) (n:b ∉ l):(Zjv h l).get? b=some o:=Zgd e (if_neg n)
theorem ZfG {h:Heap} {l:List Addr} {b:Addr} {o:Obj} (e:(Zjv h l).get? b=some o):h.get? b=some o/\b ∉ l:=by
 obtain ⟨a,n⟩:=Zhy e
 refine ⟨a,fun z=> ?_⟩
 simp only[if_pos z] at n
 cases n
theorem Zh6 {h:Heap} {l:List Addr} {b:Addr} (n:b∈l):(Zjv h l).get? b=none:=by
 cases q:(Zjv h l).get? b with
 |none=>rfl
 |some o=>exact absurd n (ZfG q).2
theorem Zon {P:Program} {w:World} {K:PySem.W.Frag} {mg:Str->Option Value} {base:Heap} {N:List Str} {qual:Str} {scope:Scope} {f:Addr} {cd:Value} {A:Around} {outer:List Env} {s:Shared} {H:Hp} {E:XK}:
  Thr (Zft (CXE P w) P w K mg base N qual scope f cd A outer s H E) E:=by
 refine ⟨PassesOwn.leaving,fun pins σ H1 s1 e s2 I h=> ?_,fun pins σ H1 s1 h' e oe vs C I k hn he hc hdi hd v1 v2 q=> ?_⟩
 ·obtain ⟨ea,C,dct,B,H2,rfl,os,bare,un,hok,fl,t1,t2,q⟩:=h
  refine DQ.ZhT (outer:=outer) I.ok.frames rfl fl fun h3 f3 up=> ?_
  obtain ⟨a1,a2,a3⟩:=ZkT rfl I un hok t1 t2 fl.stay f3.stay up
  exact ⟨ea,C,dct,B,H2,rfl,os.trans I.os,bare,a1,a2,f3,t1,a3,q⟩
 ·have st:=I.stack
  have t2: ∀ b o,s1.heap.get? b=some o->b ∉ frs (Zft (CXE P w) P w K mg base N qual scope f cd A outer s H E).stack-> ∃ o',(Zjv s1.heap (frs (Zft (CXE P w) P w K mg base N qual scope f cd A outer s H E).stack)).get? b=some o':=fun b o x n=>⟨o,Zgo x n⟩
  have hs:(Zjv s1.heap (frs (Zft (CXE P w) P w K mg base N qual scope f cd A outer s H E).stack)).StaysIn h':=fun b o x=>k b o (ZfG x).1
  have hl:h'.FunFrames (Zjv s1.heap (frs (Zft (CXE P w) P w K mg base N qual scope f cd A outer s H E).stack)) (Zft (CXE P w) P w K mg base N qual scope f cd A outer s H E).stack:=
   (ZeS st fun b hb=>Zh6 hb).of_keeps fun b o x _=>⟨o,k b o x,rfl⟩
  have hb:(Zjv s1.heap (frs (Zft (CXE P w) P w K mg base N qual scope f cd A outer s H E).stack)).get? e=none:=by
   cases z:(Zjv s1.heap (frs (Zft (CXE P w) P w K mg base N qual scope f cd A outer s H E).stack)).get? e with
   |none=>rfl
   |some o=>
    have:=(ZfG z).1
    rw[hn] at this
    cases this
  have t1: ∀ b u,H1 b=some u-> ∃ o,(Zjv s1.heap (frs (Zft (CXE P w) P w K mg base N qual scope f cd A outer s H E).stack)).get? b=some o:=fun b u x=>by
   obtain ⟨o,g⟩:=Zj2 (I.hok b u x)
   exact ⟨o,Zgo g fun z=>by rw[I.stkFree b z] at x;cases x⟩
  refine DQ.ZhU (s:={ s1 with heap:=h' }) (outer:=outer) I.ok.frames rfl hl he hs hb hd v1 v2 fun h3 f3 up=> ?_
  obtain ⟨a1,a2,a3⟩:=ZkT rfl I (Un.kept k) (I.hok.kept k) t1 t2 hs f3.stay up
  rw[hc,hdi] at f3
  exact ⟨e,C,none,_,H1,rfl,I.os,I.bare,a1,a2,f3,t1,a3,q⟩
end DL
end
section
namespace DL
open PySem PySem.Spec PyProof.Rows L2
noncomputable def FP (K:PySem.W.Frag) (H:Hp) (α:List Addr) (ξ:XK) (Dn:Ends):Fl->Prop
 | .nx ρ' M'=> ∀ σ' H' α',Ext K H H' α α'->HR K H' α' M'->SR K H' α' σ' ρ'->Dn.nx σ' H'
 | .brk ρ' M'=> ∀ σ' H' α',Ext K H H' α α'->HR K H' α' M'->SR K H' α' σ' ρ'->Dn.bk σ' H'
 | .cnt ρ' M'=> ∀ σ' H' α',Ext K H H' α α'->HR K H' α' M'->SR K H' α' σ' ρ'->Dn.ct σ' H'
 | .ret d M'=> ∀ v H' α',Ext K H H' α α'->HR K H' α' M'->Rep K H' α' v d->Dn.rt v H'
 | .exc c M'=> ∀ C H' α',PySem.W.nsIn K mainGlobals c=some (some (.ref C))->Ext K H H' α α'->HR K H' α' M'->ξ (.ref C) none H'
 | .bad=>False
theorem FP.ext {K:PySem.W.Frag} {H H1:Hp} {α α1:List Addr} {ξ:XK} {Dn:Ends} {o:Fl} (h:FP K H α ξ Dn o) (e:Ext K H H1 α α1):FP K H1 α1 ξ Dn o:=by
 cases o with
 |nx ρ M=>exact fun σ' H' α' e'=>h σ' H' α' (e.trans e')
 |brk ρ M=>exact fun σ' H' α' e'=>h σ' H' α' (e.trans e')
 |cnt ρ M=>exact fun σ' H' α' e'=>h σ' H' α' (e.trans e')
 |ret d M=>exact fun v H' α' e'=>h v H' α' (e.trans e')
 |exc c M=>exact fun C H' α' n e'=>h C H' α' n (e.trans e')
 |bad=>exact h
noncomputable def DS (X:Cx) (ξ:XK) (st:Stmt) (g:Sv):Prop:= ∃ t:TS,PS X st t/\ ∀ σ ρ H α M Dn,SR X.K H α σ ρ->HR X.K H α M->FP X.K H α ξ Dn (g ρ M)->t Dn σ H
noncomputable def DSs (X:Cx) (ξ:XK) (st:List Stmt) (g:Sv):Prop:= ∃ t:TS,PSs X st t/\ ∀ σ ρ H α M Dn,SR X.K H α σ ρ->HR X.K H α M->FP X.K H α ξ Dn (g ρ M)->t Dn σ H
noncomputable def ZaS {β:Type} (o:Out β) (k:β->Sto->Fl):Fl:=match o with
 | .ok a M=>k a M
 | .exc c M=> .exc c M
 | .bad=> .bad
theorem FP.seq {β γ:Type} {K:PySem.W.Frag} {R:Hp->List Addr->γ->β->Prop} {H:Hp} {α:List Addr} {ξ:XK} {Dn:Ends} {Q1:γ->Hp->Prop} {o:Out β} {f:β->Sto->Fl}
  (h:FP K H α ξ Dn (ZaS o f)) (k: ∀ d M' v H' α',Ext K H H' α α'->HR K H' α' M'->R H' α' v d->FP K H' α' ξ Dn (f d M')->Q1 v H'):OG K R H α ξ Q1 o:=by
 cases o with
 |ok d M'=>exact fun v H' α' e hr r=>k d M' v H' α' e hr r (FP.ext (o:=f d M') h e)
 |exc c M'=>exact h
 |bad=>exact h
noncomputable def ZK (g h:Sv):Sv:=fun ρ M=>match g ρ M with
 | .nx ρ1 M1=>h ρ1 M1
 |o=>o
noncomputable def sNil:Sv:=fun ρ M=> .nx ρ M
noncomputable def Zar (f:Ev):Sv:=fun ρ M=>ZaS (f ρ M) fun d M1=> .ret d M1
noncomputable def Zrn:Sv:=fun _ M=> .ret .non M
noncomputable def ZeT (f:Ev):Sv:=fun ρ M=>ZaS (f ρ M) fun _ M1=> .nx ρ M1
noncomputable def sIf (c:Tv) (g h:Sv):Sv:=fun ρ M=>ZaS (c ρ M) fun k M1=>if k=true then g ρ M1 else h ρ M1
noncomputable def ZuC:Sv:=fun ρ M=> .brk ρ M
noncomputable def ZuD:Sv:=fun ρ M=> .cnt ρ M
noncomputable abbrev Tg:=D->Ro->Option Ro
noncomputable abbrev Tgs:=List D->Ro->Option Ro
noncomputable def gNm (i:Nat):Tg:=fun d ρ=>some (ρ.set i (some d))
noncomputable def gNl:Tgs:=fun ds ρ=>match ds with | []=>some ρ | _=>none
noncomputable def gCs (g:Tg) (gs:Tgs):Tgs:=fun ds ρ=>match ds with | d :: r=>(match g d ρ with | some ρ1=>gs r ρ1 | none=>none) | []=>none
noncomputable def gTp (gs:Tgs):Tg:=fun d ρ=>match d with | .tup ds=>gs ds ρ | _=>none
noncomputable def ZQ (g:Tg) (f:Ev):Sv:=fun ρ M=>ZaS (f ρ M) fun d M1=>match g d ρ with | some ρ1=> .nx ρ1 M1 | none=> .bad
noncomputable def Zh7 (i j:Nat) (fs:Av):Sv:=fun ρ M=>ZaS (fs ρ M) fun ds M1=>match ds with | [v,w]=> .nx ((ρ.set i (some v)).set j (some w)) M1 | _=> .bad
noncomputable def Znt (fo fi fe:Ev):Sv:=fun ρ M=>ZaS (fe ρ M) fun d M1=>ZaS (fo ρ M1) fun o M2=>ZaS (fi ρ M2) fun i M3=>match o,i with
 | .ref n,.int k=>(match M3[n]? with
  |some (.lst xs)=>(match ixN xs.length k with | some j=> .nx ρ (M3.set n (.lst (xs.set j d))) | none=> .bad)
  |_=> .bad)
 |_,_=> .bad
section
variable {X:Cx} {ξ:XK} {st:Stmt} {sts:List Stmt} {g h:Sv} {e:Expr} {f:Ev} {pos:Pos} {c:Expr} {fc:Tv}
theorem ZL:DSs X ξ [] sNil:=⟨_,ZlA,fun σ ρ H α M Dn s h q=>q σ H α Ext.refl h s⟩
theorem Zf (h1:DS X ξ st g) (h2:DSs X ξ sts h):DSs X ξ (st :: sts) (ZK g h):=by
 obtain ⟨t1,p1,q1⟩:=h1
 obtain ⟨t2,p2,q2⟩:=h2
 refine ⟨_,ZjB p1 p2,fun σ ρ H α M Dn s hh q=>q1 σ ρ H α M { Dn with nx:=t2 Dn } s hh ?_⟩
 unfold ZK at q
 cases e:g ρ M with
 |nx ρ1 M1=>rw[e] at q;exact fun σ' H' α' ex hr sr=>q2 σ' ρ1 H' α' M1 Dn sr hr (FP.ext q ex)
 |brk ρ1 M1=>rw[e] at q;exact q
 |cnt ρ1 M1=>rw[e] at q;exact q
 |ret d M1=>rw[e] at q;exact q
 |exc c M1=>rw[e] at q;exact q
 |bad=>rw[e] at q;exact q
theorem Zj (h1:DS X ξ st g):DSs X ξ [st] g:=let ⟨_,p,q⟩:=h1;⟨_,ZlB p,q⟩
theorem ZA (he:DE X ξ e f):DS X ξ (.Return (some e) pos) (Zar f):=by
 obtain ⟨t,p,q⟩:=he
 exact ⟨_,ZnK p,fun σ ρ H α M Dn s hh w=>q σ ρ H α M _ s hh (FP.seq w fun d M1 v H1 α1 e1 h1 r1 w1=>w1 v H1 α1 Ext.refl h1 r1)⟩
theorem Zc6 (he:DE X ξ e f) (hs:swapsWith e none pos.line X.env=pure false:=by rfl):DS X ξ (.Expr e pos) (ZeT f):=by
 obtain ⟨t,p,q⟩:=he
 exact ⟨_,ZlC p hs,fun σ ρ H α M Dn s hh w=>q σ ρ H α M _ s hh (FP.seq w fun d M1 v H1 α1 e1 h1 r1 w1=>w1 σ H1 α1 Ext.refl h1 (s.mono e1))⟩
theorem ZaF {a b:List Stmt} (hc:DT X ξ c fc) (ha:DSs X ξ a g) (hb:DSs X ξ b h):DS X ξ (.If c a b pos) (sIf fc g h):=by
 obtain ⟨tc,pc,qc⟩:=hc
 obtain ⟨ta,pa,qa⟩:=ha
 obtain ⟨tb,pb,qb⟩:=hb
 refine ⟨_,Zq4 pc pa pb,fun σ ρ H α M Dn s hh w=>qc σ ρ H α M _ s hh (FP.seq w fun k M1 v H1 α1 e1 h1 r1 w1=> ?_)⟩
 cases r1
 cases k with
 |true=>exact ZkQ (qa σ ρ H1 α1 M1 Dn (s.mono e1) h1 w1)
 |false=>exact ZkP (qb σ ρ H1 α1 M1 Dn (s.mono e1) h1 w1)
noncomputable def DG (X:Cx) (tg:Expr) (g:Tg):Prop:= ∃ t:TG,PG X tg t/\ ∀ v d σ ρ H α ρ' Q,SR X.K H α σ ρ->Rep X.K H α v d->g d ρ=some ρ'->(∀ σ',SR X.K H α σ' ρ'->Q σ' H)->t v σ H Q
noncomputable def DGs (X:Cx) (tgs:List Expr) (g:Tgs):Prop:= ∃ t:TGs,PGs X tgs t/\ ∀ vs ds σ ρ H α ρ' Q,SR X.K H α σ ρ->Reps X.K H α vs ds->g ds ρ=some ρ'->(∀ σ',SR X.K H α σ' ρ'->Q σ' H)->t vs σ H Q
theorem Zm (i:Nat) {x:Str} (hN:X.N.Nodup) (hi:X.N[i]?=some x:=by rfl) (hx:Loc X.env.scope x:=by first | exact Or.inl rfl | exact Or.inr rfl) (hf:X.fn x=true\/X.env.scope.names.lookup x=some .local:=by first | exact .inl rfl | exact .inr rfl | assumption):DG X (.Name x pos) (gNm i):=by
 refine ⟨_,ZlD hN hi hx hf,fun v d σ ρ H α ρ' Q s r e k=> ?_⟩
 cases e
 exact k _ (s.set i r)
theorem ZH:DGs X [] gNl:=by
 refine ⟨_,ZlE,fun vs ds σ ρ H α ρ' Q s r e k=> ?_⟩
 cases r with
 |nil=>cases e;exact ⟨rfl,k _ s⟩
 |cons _ _=>cases e
theorem Zk {es:List Expr} {g:Tg} {gs:Tgs} (h1:DG X e g) (h2:DGs X es gs) (hs:(assignEach (e :: es) X.env).map (·.2)=assign e X.env :: (assignEach es X.env).map (·.2):=by rfl):DGs X (e :: es) (gCs g gs):=by
 obtain ⟨t1,p1,q1⟩:=h1
 obtain ⟨t2,p2,q2⟩:=h2
 refine ⟨_,ZjC p1 p2 hs,fun vs ds σ ρ H α ρ' Q s r e k=> ?_⟩
 cases r with
 |nil=>cases e
 |cons r rr=>
  rename_i v d vs ds
  cases e1:g d ρ with
  |none=>simp only[gCs,e1] at e;cases e
  |some ρ1=>
   simp only[gCs,e1] at e
   exact ⟨v,vs,rfl,q1 v d σ ρ H α ρ1 _ s r e1 fun σ' s'=>q2 vs ds σ' ρ1 H α ρ' Q s' rr e k⟩
theorem ZR {es:List Expr} {k:Nat} {gs:Tgs} {n:Nat} (hc:X.calm=true) (h:DGs X es gs) (hn:(assignEach es X.env).length=n:=by rfl) (hlen: ∀ ds ρ ρ',gs ds ρ=some ρ'->ds.length=n) (hst:(assignEach es X.env).findIdx? (·.1)=none:=by rfl):DG X (.Tuple es k pos) (gTp gs):=by
 obtain ⟨t,p,q⟩:=h
 refine ⟨_,ZnM hc p hn hst,fun v d σ ρ H α ρ' Q s r e k=> ?_⟩
 cases r with
 | @tup a xs ds hp rp=>
  have e':gs ds ρ=some ρ':=e
  exact ⟨a,xs,rfl,(SqT.of hp),by rw[rp.length];exact hlen ds ρ ρ' e',q xs ds σ ρ H α ρ' Q s rp e' k⟩
 |_=>cases e
theorem ZI {ds:List D} {ρ ρ':Ro} (h:gNl ds ρ=some ρ'):ds.length=0:=by cases ds with | nil=>rfl | cons _ _=>cases h
theorem Zn {g:Tg} {gs:Tgs} {n:Nat} (h: ∀ ds ρ ρ',gs ds ρ=some ρ'->ds.length=n) (ds:List D) (ρ ρ':Ro) (e:gCs g gs ds ρ=some ρ'):ds.length=n + 1:=by
 cases ds with
 |nil=>cases e
 |cons d r=>
  cases e1:g d ρ with
  |none=>simp only[gCs,e1] at e;cases e
  |some ρ1=>simp only[gCs,e1] at e;rw[List.length_cons,h r ρ1 ρ' e]
theorem Zs (i:Nat) {x:Str} {pos':Pos} (hN:X.N.Nodup) (he:DE X ξ e f) (hi:X.N[i]?=some x:=by rfl) (hx:Loc X.env.scope x:=by first | exact Or.inl rfl | exact Or.inr rfl) (hs:swapsWith e (some (.Name x pos')) pos.line X.env=pure false:=by rfl) (hf:X.fn x=true\/X.env.scope.names.lookup x=some .local:=by first | exact .inl rfl | exact .inr rfl | assumption):
  DS X ξ (.Assign [.Name x pos'] e pos) (ZQ (gNm i) f):=by
 obtain ⟨t,p,q⟩:=he
 exact ⟨_,ZnO hN hi hx p hs hf,fun σ ρ H α M Dn s hh w=>q σ ρ H α M _ s hh (FP.seq w fun d M1 v H1 α1 e1 h1 r1 w1=>w1 _ H1 α1 Ext.refl h1 ((s.mono e1).set i r1))⟩
theorem Zcb {tg:Expr} {gt:Tg} (he:DE X ξ e f) (hg:DG X tg gt) (hs:swapsWithSole [tg] e pos.line X.env=pure false:=by rfl) (hw:swappedStores [tg] e X.env=pure none:=by rfl)
  (h1:(assignEach [tg] X.env).map (·.2)=[assign tg X.env]:=by rfl):DS X ξ (.Assign [tg] e pos) (ZQ gt f):=by
 obtain ⟨t,p,q⟩:=he
 obtain ⟨tt,pt,qt⟩:=hg
 refine ⟨_,ZkJ p pt hs hw h1,fun σ ρ H α M Dn s hh w=>q σ ρ H α M _ s hh (FP.seq w fun d M1 v H1 α1 e1 h1 r1 w1=> ?_)⟩
 cases eg:gt d ρ with
 |none=>simp only[eg] at w1;exact w1.elim
 |some ρ1=>
  simp only[eg] at w1
  exact qt v d σ ρ H1 α1 ρ1 _ (s.mono e1) r1 eg fun σ' s'=>w1 σ' H1 α1 Ext.refl h1 s'
theorem Zc7 (i j:Nat) {x y:Str} {a b:Expr} {fs:Av} {px py pt:Pos} {kt k2 pt2} (hc:X.calm=true) (hN:X.N.Nodup) (ha:DA X ξ [a,b] fs) (hi:X.N[i]?=some x:=by rfl) (hj:X.N[j]?=some y:=by rfl) (hij:i≠j:=by decide)
  (hx:X.env.scope.names.lookup x=some .local:=by rfl) (hy:X.env.scope.names.lookup y=some .local:=by rfl)
  (hw:swappedStores [.Tuple [.Name x px,.Name y py] kt pt] (.Tuple [a,b] k2 pt2) X.env=pure (some [x,y]):=by rfl)
  (hs:swapsWithSole [.Tuple [.Name x px,.Name y py] kt pt] (.Tuple [a,b] k2 pt2) pos.line X.env=pure false:=by rfl):
  DS X ξ (.Assign [.Tuple [.Name x px,.Name y py] kt pt] (.Tuple [a,b] k2 pt2) pos) (Zh7 i j fs):=by
 obtain ⟨t,p,q⟩:=ha
 refine ⟨_,ZnP hc hN hi hj hij hx hy p hw hs,fun σ ρ H α M Dn s hh w=>q σ ρ H α M _ s hh (FP.seq w fun ds M1 vs H1 α1 e1 h1 r1 w1=> ?_)⟩
 match r1 with
 | .nil=>exact w1.elim
 | .cons _ .nil=>exact w1.elim
 | .cons _ (.cons _ (.cons _ _))=>exact w1.elim
 | .cons r (.cons r' .nil)=>exact ⟨_,_,rfl,w1 _ H1 α1 Ext.refl h1 (((s.mono e1).set i r).set j r')⟩
theorem ZkU {o i:Expr} {fo fi:Ev} {pos':Pos} (ho:DE X ξ o fo) (hi:DE X ξ i fi) (he:DE X ξ e f)
  (ha: ∀ v,assign (.Subscript o i pos') X.env v=(do
   let ov <- holding [v] (eval o X.env)
   let iv <- holding [v,ov] (eval i X.env)
   standAt pos'
   holding [v,ov,iv] (setItem ov iv v)
   release [v,ov,iv] []):=by intro _;rfl) (hs:swapsWithSole [.Subscript o i pos'] e pos.line X.env=pure false:=by rfl) (hw:swappedStores [.Subscript o i pos'] e X.env=pure none:=by rfl)
  (h1:(assignEach [.Subscript o i pos'] X.env).map (·.2)=[assign (.Subscript o i pos') X.env]:=by rfl):DS X ξ (.Assign [.Subscript o i pos'] e pos) (Znt fo fi f):=by
 obtain ⟨t,p,q⟩:=he
 obtain ⟨to,po,qo⟩:=ho
 obtain ⟨ti,pi,qi⟩:=hi
 refine ⟨_,ZkJ p (ZnN po pi ZjK ha) hs hw h1,fun σ ρ H α M Dn s hh w=>q σ ρ H α M _ s hh (FP.seq w fun d M1 v H1 α1 e1 h1 r1 w1=> ?_)⟩
 refine qo σ ρ H1 α1 M1 _ (s.mono e1) h1 (FP.seq w1 fun od M2 ov H2 α2 e2 h2 r2 w2=> ?_)
 refine qi σ ρ H2 α2 M2 _ ((s.mono e1).mono e2) h2 (FP.seq w2 fun kd M3 kv H3 α3 e3 h3 r3 w3=> ?_)
 cases Rep.mono e3 r2 with
 | @ref p n hp=>
  cases r3 with
  |int k=>
   cases em:M3[n]? with
   |none=>simp only[em] at w3;exact w3.elim
   |some so=>
    cases so with
    |lst ds=>
     cases ej:ixN ds.length k with
     |none=>simp only[em,ej] at w3;exact w3.elim
     |some j=>
      simp only[em,ej] at w3
      obtain ⟨xs,g1,g2⟩:=h3.at hp em
      refine ⟨p,xs,k,j,rfl,rfl,g1,by rw[g2.length];exact ej,?_⟩
      exact w3 σ _ α3 (Ext.wr g1) (h3.wr hp g1 (Reps.set (Rep.mono e3 (Rep.mono e2 r1)) j g2)) ((((s.mono e1).mono e2).mono e3).mono (Ext.wr g1))
  |_=>exact w3.elim
 |_=>exact w3.elim
noncomputable def whN (c:Tv) (g:Sv):Nat->Ro->Sto->Option Fl
 |0,_,_=>none
 |n + 1,ρ,M=>match c ρ M with
  | .ok true M1=>(match g ρ M1 with
   | .nx ρ2 M2=>whN c g n ρ2 M2
   | .cnt ρ2 M2=>whN c g n ρ2 M2
   | .brk ρ2 M2=>some (.nx ρ2 M2)
   |o=>some o)
  | .ok false M1=>some (.nx ρ M1)
  | .exc e M1=>some (.exc e M1)
  | .bad=>some .bad
theorem ZcO {c:Tv} {g:Sv}: ∀ {n:Nat} {ρ:Ro} {M:Sto} {o:Fl},whN c g n ρ M=some o-> ∀ k,whN c g (n + k) ρ M=some o
 |0,_,_,_,e,_=>by simp only[whN] at e;cases e
 |n + 1,ρ,M,o,e,k=>by
  have ek:n + 1 + k=(n + k) + 1:=by omega
  rw[ek]
  unfold whN at e ⊢
  cases ec:c ρ M with
  |bad=>rw[ec] at e;exact e
  |exc x M1=>rw[ec] at e;exact e
  |ok b M1=>
   rw[ec] at e
   cases b with
   |false=>exact e
   |true=>
    cases eg:g ρ M1 with
    |nx ρ2 M2=>simp only[eg] at e ⊢;exact ZcO e k
    |cnt ρ2 M2=>simp only[eg] at e ⊢;exact ZcO e k
    |brk ρ2 M2=>simp only[eg] at e ⊢;exact e
    |ret d M2=>simp only[eg] at e ⊢;exact e
    |exc x M2=>simp only[eg] at e ⊢;exact e
    |bad=>simp only[eg] at e ⊢;exact e
open Classical in
noncomputable def sWh (c:Tv) (g:Sv):Sv:=fun ρ M=>if h: ∃ o n,whN c g n ρ M=some o then Classical.choose h else .bad
theorem Zcz {c:Tv} {g:Sv} {n:Nat} {ρ:Ro} {M:Sto} {o:Fl} (e:whN c g n ρ M=some o):sWh c g ρ M=o:=by
 have hx: ∃ o n,whN c g n ρ M=some o:=⟨o,n,e⟩
 unfold sWh
 rw[dif_pos hx]
 obtain ⟨m,em⟩:=Classical.choose_spec hx
 have h1:=ZcO em n
 have h2:=ZcO e m
 rw[Nat.add_comm] at h2
 rw[h1] at h2
 exact Option.some.inj h2
theorem Zh8 {c:Tv} {g:Sv} {ρ:Ro} {M:Sto} (e:sWh c g ρ M≠ .bad): ∃ n,whN c g n ρ M=some (sWh c g ρ M):=by
 by_cases hx: ∃ o n,whN c g n ρ M=some o
 ·obtain ⟨o,n,h⟩:=hx
  exact ⟨n,by rw[Zcz h];exact h⟩
 ·unfold sWh at e
  rw[dif_neg hx] at e
  exact absurd rfl e
theorem Zh9 {c:Tv} {g:Sv} {ρ:Ro} {M M1:Sto} (h:c ρ M= .ok false M1):sWh c g ρ M= .nx ρ M1:=Zcz (n:=1) (by simp only[whN,h])
theorem Zj3 {c:Tv} {g:Sv} {ρ ρ2:Ro} {M M1 M2:Sto} (h:c ρ M= .ok true M1) (h2:g ρ M1= .nx ρ2 M2) (hb:sWh c g ρ2 M2≠ .bad):sWh c g ρ M=sWh c g ρ2 M2:=by
 obtain ⟨n,e⟩:=Zh8 hb
 exact Zcz (n:=n + 1) (by simp only[whN,h,h2];exact e)
theorem Zd9 {body:List Stmt} (hp:PassesOwn (model X.prog X.w) X.A X.env X.xe) (hc:DT X ξ c fc) (hb:DSs X ξ body g):DS X ξ (.While c body [] pos) (sWh fc g):=by
 obtain ⟨tc,pc,qc⟩:=hc
 obtain ⟨tb,pb,qb⟩:=hb
 refine ⟨_,ZjD hp pc pb,fun σ ρ H α M Dn s hh w=> ?_⟩
 have nb:sWh fc g ρ M≠ .bad:=fun z=>by rw[z] at w;exact w
 obtain ⟨n,en⟩:=Zh8 nb
 generalize sWh fc g ρ M=o at w en
 refine ⟨fun m σ' H'=> ∃ ρ' α' M',Ext X.K H H' α α'/\SR X.K H' α' σ' ρ'/\HR X.K H' α' M'/\whN fc g m ρ' M'=some o,⟨n,ρ,α,M,Ext.refl,s,hh,en⟩,?_⟩
 rintro m σ1 H1 ⟨ρ1,α1,M1,e1,s1,h1,en1⟩
 cases m with
 |zero=>simp only[whN] at en1;cases en1
 |succ m=>
  refine qc σ1 ρ1 H1 α1 M1 _ s1 h1 ?_
  unfold whN at en1
  cases ec:fc ρ1 M1 with
  |bad=>rw[ec] at en1;cases en1;exact w.elim
  |exc x M2=>
   rw[ec] at en1;cases en1
   exact fun C H' α' nn ex hr=>w C H' α' nn (e1.trans ex) hr
  |ok b M2=>
   rw[ec] at en1
   intro v H2 α2 e2 h2 ev
   cases ev
   cases b with
   |false=>
    cases en1
    exact ZkP (w σ1 H2 α2 (e1.trans e2) h2 (s1.mono e2))
   |true=>
    refine ZkQ ⟨fun σ' H'=> ∃ ρ' α' M',Ext X.K H H' α α'/\SR X.K H' α' σ' ρ'/\HR X.K H' α' M'/\whN fc g m ρ' M'=some o,fun σ' H' z=>⟨m,Nat.lt_succ_self m,z⟩,?_⟩
    refine qb σ1 ρ1 H2 α2 M2 _ (s1.mono e2) h2 ?_
    have e12:=e1.trans e2
    cases eg:g ρ1 M2 with
    |nx ρ2 M3=>simp only[eg] at en1;exact fun σ' H' α' ex hr sr=>⟨ρ2,α',M3,e12.trans ex,sr,hr,en1⟩
    |cnt ρ2 M3=>simp only[eg] at en1;exact fun σ' H' α' ex hr sr=>⟨ρ2,α',M3,e12.trans ex,sr,hr,en1⟩
    |brk ρ2 M3=>simp only[eg] at en1;cases en1;exact fun σ' H' α' ex hr sr=>w σ' H' α' (e12.trans ex) hr sr
    |ret d M3=>simp only[eg] at en1;cases en1;exact fun v H' α' ex hr sr=>w v H' α' (e12.trans ex) hr sr
    |exc x M3=>simp only[eg] at en1;cases en1;exact fun C H' α' nn ex hr=>w C H' α' nn (e12.trans ex) hr
    |bad=>simp only[eg] at en1;cases en1;exact w.elim
noncomputable def ZbQ (tg:Tg) (g:Sv):List D->Ro->Sto->Fl
 | [],ρ,M=> .nx ρ M
 |d :: r,ρ,M=>match tg d ρ with
  |none=> .bad
  |some ρ1=>(match g ρ1 M with
   | .nx ρ2 M2=>ZbQ tg g r ρ2 M2
   | .cnt ρ2 M2=>ZbQ tg g r ρ2 M2
   | .brk ρ2 M2=> .nx ρ2 M2
   |o=>o)
noncomputable def Zhq (tg:Tg) (g:Sv) (n:Nat):Nat->Nat->Ro->Sto->Fl
 |f,i,ρ,M=>match M[n]? with
  |some (.lst xs)=>(match xs[i]? with
   |none=> .nx ρ M
   |some d=>(match f with
    |0=> .bad
    |f + 1=>(match tg d ρ with
     |none=> .bad
     |some ρ1=>(match g ρ1 M with
      | .nx ρ2 M2=>Zhq tg g n f (i + 1) ρ2 M2
      | .cnt ρ2 M2=>Zhq tg g n f (i + 1) ρ2 M2
      | .brk ρ2 M2=> .nx ρ2 M2
      |o=>o))))
  |none=> .bad
noncomputable def Zby (lo:Int) (n:Nat):List D:=(List.range n).map fun (i:Nat)=>D.int (lo + i)
noncomputable def ZkV (tg:Tg) (g:Sv) (d:D) (ρ:Ro) (M:Sto):Fl:=match d with
 | .tup xs=>ZbQ tg g xs ρ M
 | .rol xs=>ZbQ tg g xs ρ M
 | .ref n=>(match M[n]? with | some (.lst xs)=>Zhq tg g n xs.length 0 ρ M | none=> .bad)
 |_=> .bad
noncomputable def Zl2 (tg:Tg) (f:Ev) (g:Sv):Sv:=fun ρ M=>ZaS (f ρ M) fun d M1=>ZkV tg g d ρ M1
noncomputable def Zcc (tg:Tg) (fs:Av) (g:Sv):Sv:=fun ρ M=>ZaS (fs ρ M) fun ds M1=>match ds with
 | [.int j]=>if -(2 ^ 62)<=j/\j < 2 ^ 62 then ZbQ tg g (Zby 0 j.toNat) ρ M1 else .bad
 |_=> .bad
noncomputable def Zia (tg:Tg) (fs:Av) (g:Sv):Sv:=fun ρ M=>ZaS (fs ρ M) fun ds M1=>match ds with
 | [.int i,.int j]=>if -(2 ^ 62)<=i/\i < 2 ^ 62/\ -(2 ^ 62)<=j/\j < 2 ^ 62 then ZbQ tg g (Zby i (j - i).toNat) ρ M1 else .bad
 |_=> .bad
theorem Zgp {lo:Int} {n i:Nat} (h:i < n):(Zby lo n)[i]?=some (.int (lo + i)):=by
 unfold Zby
 rw[List.getElem?_map,List.getElem?_range h]
 rfl
theorem Zea {lo:Int} {n:Nat}:(Zby lo n).length=n:=by unfold Zby;rw[List.length_map,List.length_range]
theorem Zib {lo:Int} {n i:Nat} (h:i < n):(Zby lo n).drop i= .int (lo + i) :: (Zby lo n).drop (i + 1):=by
 have hl:i < (Zby lo n).length:=by rw[Zea];exact h
 have e:=Zgp (lo:=lo) h
 rw[List.getElem?_eq_getElem hl] at e
 rw[List.drop_eq_getElem_cons hl,Option.some.inj e]
theorem Zj4 {tg:Expr} {gt:Tg} {tt:TG} {tb:TS} {Dn:Ends} {H H1:Hp} {α α1:List Addr} {o:Fl} {k:Ro->Sto->Fl} (w:FP X.K H α ξ Dn o)
  (qt: ∀ v d σ ρ H α ρ' Q,SR X.K H α σ ρ->Rep X.K H α v d->gt d ρ=some ρ'->(∀ σ',SR X.K H α σ' ρ'->Q σ' H)->tt v σ H Q) (qb: ∀ σ ρ H α M Dn,SR X.K H α σ ρ->HR X.K H α M->FP X.K H α ξ Dn (g ρ M)->tb Dn σ H)
  {v:V} {d:D} {σ1:L2.St} {ρ1:Ro} {M1:Sto} (e1:Ext X.K H H1 α α1) (s1:SR X.K H1 α1 σ1 ρ1) (h1:HR X.K H1 α1 M1) (r:Rep X.K H1 α1 v d)
  (en:(match gt d ρ1 with | none=>Fl.bad | some ρ2=>(match g ρ2 M1 with | .nx ρ3 M3=>k ρ3 M3 | .cnt ρ3 M3=>k ρ3 M3 | .brk ρ3 M3=> .nx ρ3 M3 | o=>o))=o)
  {N:L2.St->Hp->Prop} (hN: ∀ σ' H',(∃ ρ' α' M',Ext X.K H H' α α'/\SR X.K H' α' σ' ρ'/\HR X.K H' α' M'/\k ρ' M'=o)->N σ' H'):tt v σ1 H1 fun σ2 H2=>tb { Dn with nx:=N,ct:=N,bk:=Dn.nx } σ2 H2:=by
 cases eg:gt d ρ1 with
 |none=>rw[eg] at en;cases en;exact w.elim
 |some ρ2=>
  simp only[eg] at en
  refine qt v d σ1 ρ1 H1 α1 ρ2 _ s1 r eg fun σ2 s2=>qb σ2 ρ2 H1 α1 M1 _ s2 h1 ?_
  cases ex:g ρ2 M1 with
  |nx ρ3 M3=>simp only[ex] at en;exact fun σ' H' α' e2 hr sr=>hN _ _ ⟨ρ3,α',M3,e1.trans e2,sr,hr,en⟩
  |cnt ρ3 M3=>simp only[ex] at en;exact fun σ' H' α' e2 hr sr=>hN _ _ ⟨ρ3,α',M3,e1.trans e2,sr,hr,en⟩
  |brk ρ3 M3=>simp only[ex] at en;cases en;exact fun σ' H' α' e2 hr sr=>w σ' H' α' (e1.trans e2) hr sr
  |ret d M3=>simp only[ex] at en;cases en;exact fun v H' α' e2 hr sr=>w v H' α' (e1.trans e2) hr sr
  |exc x M3=>simp only[ex] at en;cases en;exact fun C H' α' nn e2 hr=>w C H' α' nn (e1.trans e2) hr
  |bad=>simp only[ex] at en;cases en;exact w.elim
theorem Zoo {tg:Expr} {gt:Tg} {tt:TG} {tb:TS} {Dn:Ends} {H:Hp} {α:List Addr} {lo:Int} {n:Nat} {σ:L2.St} {ρ:Ro} {M:Sto}
  (qt: ∀ v d σ ρ H α ρ' Q,SR X.K H α σ ρ->Rep X.K H α v d->gt d ρ=some ρ'->(∀ σ',SR X.K H α σ' ρ'->Q σ' H)->tt v σ H Q) (qb: ∀ σ ρ H α M Dn,SR X.K H α σ ρ->HR X.K H α M->FP X.K H α ξ Dn (g ρ M)->tb Dn σ H)
  (s:SR X.K H α σ ρ) (hh:HR X.K H α M) (w:FP X.K H α ξ Dn (ZbQ gt g (Zby lo n) ρ M)):
  ∃ W:Nat->Nat->L2.St->Hp->Prop,(∃ m,W 0 m σ H)/\ ∀ i m σ H,W i m σ H->
   ((Itr lo n).stop i H/\Dn.nx σ H)\/((Itr lo n).go i H/\ ∃ N:L2.St->Hp->Prop,(∀ σ' H',N σ' H'-> ∃ m',m' < m/\W (i + 1) m' σ' H')/\ ∀ x H',(Itr lo n).yld i H x H'->tt x σ H' fun σ2 H2=>tb { Dn with nx:=N,ct:=N,bk:=Dn.nx } σ2 H2):=by
 generalize ho:ZbQ gt g (Zby lo n) ρ M=o at w
 refine ZhE (fun i σ' H'=> ∃ ρ' α' M',Ext X.K H H' α α'/\SR X.K H' α' σ' ρ'/\HR X.K H' α' M'/\ZbQ gt g ((Zby lo n).drop i) ρ' M'=o) ⟨ρ,α,M,Ext.refl,s,hh,ho⟩ ?_ ?_
 ·rintro i σ1 H1 hi ⟨ρ1,α1,M1,e1,s1,h1,en⟩
  rw[Zib hi] at en
  exact Zj4 (tg:=tg) w qt qb e1 s1 h1 (.int (lo + i)) en (fun σ' H' z=>z)
 ·rintro σ1 H1 ⟨ρ1,α1,M1,e1,s1,h1,en⟩
  rw[List.drop_eq_nil_of_le (by rw[Zea];exact Nat.le_refl _)] at en
  cases en
  exact w σ1 H1 α1 e1 h1 s1
theorem Zcd {tg a:Expr} {gt:Tg} {fs:Av} {body:List Stmt} {p p2:Pos} (hp:PassesOwn (model X.prog X.w) X.A X.env X.xe) (hm:X.mg "range"=none) (ha:DA X ξ [a] fs) (hg:DG X tg gt) (hb:DSs X ξ body g)
  (hgl:Gl X "range":=by rfl) (hs:starEach [a] X.env=[(false,eval a X.env)]:=by rfl) (hf: ∀ x,foldedSetIterable (.Call (.Name "range" p) [a] [] p2) X.env x=pure x:=by intro _;rfl):DS X ξ (.For tg (.Call (.Name "range" p) [a] [] p2) body [] pos) (Zcc gt fs g):=by
 obtain ⟨ta,pa,qa⟩:=ha
 obtain ⟨tt,pt,qt⟩:=hg
 obtain ⟨tb,pb,qb⟩:=hb
 refine ⟨_,ZhD hp (ZeE hgl hm pa hs) pt pb hf,fun σ ρ H α M Dn s hh w=>qa σ ρ H α M _ s hh (FP.seq w fun ds M1 vs H1 α1 e1 h1 r1 w1=> ?_)⟩
 match r1 with
 | .nil=>exact w1.elim
 | .cons r (.cons _ _)=>cases r<;>exact w1.elim
 | .cons r .nil=>
  cases r with
  |int j=>
   by_cases c: -(2 ^ 62)<=j/\j < 2 ^ 62
   ·simp only[if_pos c] at w1
    exact ⟨j,rfl,c.1,c.2,Zoo (tg:=tg) qt qb (s.mono e1) h1 w1⟩
   ·simp only[if_neg c] at w1
    exact w1.elim
  |_=>exact w1.elim
noncomputable def ZuE (K:PySem.W.Frag) (tl:TE):TI:=fun σ H R=>tl σ H fun x H1=> ∃ a,x= .ref a/\(((∃ xs,SqL K H1 a xs)/\R (Itl K a) H1)\/((∃ xs,SqT K H1 a xs)/\R (Itt K a) H1))
theorem ZkW {tg l:Expr} {tl:TE} (hl:PE X l tl):PI X tg l (ZuE X.K tl):=by
 intro pins s σ H R I h
 refine thn (hl pins s σ H _ I h) fun v s1 ⟨x,H1,I1,r1,q1⟩=> ?_
 obtain ⟨a,e,q⟩:=q1
 subst e
 cases r1
 have fp: ∀ b∈[s1.heap.objs.size],ZdP X pins H1 b:=fun b hb=>by
  have e:b=s1.heap.objs.size:=by simpa using hb
  subst e
  exact I1.fpOk (Nat.le_refl _) (I1.hok.fresh (Nat.le_refl _))
 rcases q with ⟨⟨xs,hq⟩,q⟩ | ⟨⟨xs,hq⟩,q⟩
 ·obtain ⟨its,rv,p,hz⟩:=I1.list hq
  refine wpAny_pyIter_list p.isList ?_
  exact ⟨s1.heap.objs.size,[s1.heap.objs.size],_,_,H1,rfl,I1.kept (t':=s1.toks) fun b o e=>Heap.get?_push_of_some _ e,ZhB a _,⟨_,Heap.get?_push_size _ rfl,rfl,rfl⟩,fp,q⟩
 ·obtain ⟨its,rv,p,hz⟩:=I1.tuple hq
  refine wpAny_pyIter_tuple (show s1.heap.IsTuple a its.toArray from p) ?_
  exact ⟨s1.heap.objs.size,[s1.heap.objs.size],_,_,H1,rfl,I1.kept (t':=s1.toks) fun b o e=>Heap.get?_push_of_some _ e,ZgO a _,⟨_,Heap.get?_push_size _ rfl,rfl,rfl⟩,fp,q⟩
theorem Zgq {tg l:Expr} {gt:Tg} {f:Ev} {body:List Stmt} (hp:PassesOwn (model X.prog X.w) X.A X.env X.xe) (hl:DE X ξ l f) (hg:DG X tg gt) (hb:DSs X ξ body g)
  (hf: ∀ x,foldedSetIterable l X.env x=pure x:=by intro _;rfl):DS X ξ (.For tg l body [] pos) (Zl2 gt f g):=by
 obtain ⟨ta,pa,qa⟩:=hl
 obtain ⟨tt,pt,qt⟩:=hg
 obtain ⟨tb,pb,qb⟩:=hb
 refine ⟨_,ZhD hp (ZkW pa) pt pb hf,fun σ ρ H α M Dn s hh w=>qa σ ρ H α M _ s hh (FP.seq w fun d M1 v H1 α1 e1 h1 r1 w1=> ?_)⟩
 have s1:=s.mono e1
 have pure_: ∀ (ds:List D) (xs:List V),Reps X.K H1 α1 xs ds->FP X.K H1 α1 ξ Dn (ZbQ gt g ds ρ M1)-> ∀ (i:Nat) σ' H',(∃ ρ' α' M',Ext X.K H1 H' α1 α'/\SR X.K H' α' σ' ρ'/\HR X.K H' α' M'/\ZbQ gt g (ds.drop i) ρ' M'=ZbQ gt g ds ρ M1)->
   (∀ x,xs[i]?=some x->tt x σ' H' fun σ2 H2=>tb { Dn with nx:=fun σ H=> ∃ ρ' α' M',Ext X.K H1 H α1 α'/\SR X.K H α' σ ρ'/\HR X.K H α' M'/\ZbQ gt g (ds.drop (i + 1)) ρ' M'=ZbQ gt g ds ρ M1,ct:=fun σ H=> ∃ ρ' α' M',Ext X.K H1 H α1 α'/\SR X.K H α' σ ρ'/\HR X.K H α' M'/\ZbQ gt g (ds.drop (i + 1)) ρ' M'=ZbQ gt g ds ρ M1,bk:=Dn.nx } σ2 H2)/\
   (i=xs.length->Dn.nx σ' H'):=by
  intro ds xs r w1 i σ' H' ⟨ρ',α',M',ex,sr,hr,en⟩
  refine ⟨fun x hx=> ?_,fun hi=> ?_⟩
  ·have hi:i < ds.length:=by rw[<- r.length];exact (List.getElem?_eq_some_iff.mp hx).1
   obtain ⟨v,g1,g2⟩:=r.get (List.getElem?_eq_getElem hi)
   rw[hx] at g1
   cases g1
   rw[List.drop_eq_getElem_cons hi] at en
   exact Zj4 (tg:=tg) w1 qt qb ex sr hr (Rep.mono ex g2) en (fun σ' H' z=>z)
  ·rw[hi,r.length,List.drop_length] at en
   have en':Fl.nx ρ' M'=ZbQ gt g ds ρ M1:=en
   rw[<- en'] at w1
   exact w1 σ' H' α' ex hr sr
 cases r1 with
 | @tup p xs ds hp rp=>
  have w2:FP X.K H1 α1 ξ Dn (ZbQ gt g ds ρ M1):=w1
  refine ⟨p,rfl,.inr ⟨⟨xs,(SqT.of hp)⟩,ZlF (K:=X.K) (a:=p) (xs:=xs) (fun i σ' H'=> ∃ ρ' α' M',Ext X.K H1 H' α1 α'/\SR X.K H' α' σ' ρ'/\HR X.K H' α' M'/\ZbQ gt g (ds.drop i) ρ' M'=ZbQ gt g ds ρ M1) ⟨ρ,α1,M1,Ext.refl,s1,h1,rfl⟩ ?_ ?_ ?_⟩⟩
  ·rintro i σ' H' _ ⟨ρ',α',M',ex,_⟩
   exact SqT.of (ex.tup _ _ hp)
  ·intro i x σ' H' hx z
   exact (pure_ ds xs rp w2 i σ' H' z).1 x hx
  ·intro σ' H' z
   exact (pure_ ds xs rp w2 _ σ' H' z).2 rfl
 | @rol p xs ds hp rp=>
  have w2:FP X.K H1 α1 ξ Dn (ZbQ gt g ds ρ M1):=w1
  refine ⟨p,rfl,.inl ⟨⟨xs,hp.sq⟩,ZjG (K:=X.K) (a:=p) (xs:=xs) (fun i σ' H'=> ∃ ρ' α' M',Ext X.K H1 H' α1 α'/\SR X.K H' α' σ' ρ'/\HR X.K H' α' M'/\ZbQ gt g (ds.drop i) ρ' M'=ZbQ gt g ds ρ M1) ⟨ρ,α1,M1,Ext.refl,s1,h1,rfl⟩ ?_ ?_ ?_⟩⟩
  ·rintro i σ' H' _ ⟨ρ',α',M',ex,_⟩
   exact (ex.rol _ _ hp).sq
  ·intro i x σ' H' hx z
   exact (pure_ ds xs rp w2 i σ' H' z).1 x hx
  ·intro σ' H' z
   exact (pure_ ds xs rp w2 _ σ' H' z).2 rfl
 | @ref p n hp=>
  cases em:M1[n]? with
  |none=>simp only[ZkV,em] at w1;exact w1.elim
  |some so=>
   cases so with
   |lst ds=>
    simp only[ZkV,em] at w1
    obtain ⟨xs0,g0,r0⟩:=h1.at hp em
    generalize eo:Zhq gt g n ds.length 0 ρ M1=o at w1
    refine ⟨p,rfl,.inl ⟨⟨xs0,SqL.of g0⟩,fun i m σ' H'=> ∃ ρ' α' M',Ext X.K H1 H' α1 α'/\SR X.K H' α' σ' ρ'/\HR X.K H' α' M'/\Zhq gt g n m i ρ' M'=o,⟨ds.length,ρ,α1,M1,Ext.refl,s1,h1,eo⟩,?_⟩⟩
    rintro i m σ' H' ⟨ρ',α',M',ex,sr,hr,en⟩
    unfold Zhq at en
    cases em2:M'[n]? with
    |none=>simp only[em2] at en;cases en;exact w1.elim
    |some so2=>
     cases so2 with
     |lst ds2=>
      simp only[em2] at en
      obtain ⟨xs,g1,g2⟩:=hr.at (ex.get hp) em2
      cases ei:ds2[i]? with
      |none=>
       simp only[ei] at en
       cases en
       refine .inl ⟨⟨xs,SqL.of g1,?_⟩,w1 σ' H' α' ex hr sr⟩
       rw[g2.length]
       exact List.getElem?_eq_none_iff.mp ei
      |some d=>
       simp only[ei] at en
       obtain ⟨v,k1,k2⟩:=g2.get ei
       cases m with
       |zero=>cases en;exact w1.elim
       |succ m=>
        refine .inr ⟨⟨xs,v,SqL.of g1,k1⟩,fun σ2 H2=> ∃ ρ' α' M',Ext X.K H1 H2 α1 α'/\SR X.K H2 α' σ2 ρ'/\HR X.K H2 α' M'/\Zhq gt g n m (i + 1) ρ' M'=o,fun σ2 H2 z=>⟨m,Nat.lt_succ_self m,z⟩,fun x H2 y=> ?_⟩
        obtain ⟨ey,y⟩:=y
        subst ey
        have ev:=y xs (SqL.of g1)
        rw[k1] at ev
        cases ev
        exact Zj4 (tg:=tg) w1 qt qb ex sr hr k2 en (fun σ' H' z=>z)
 |_=>exact w1.elim
end
noncomputable def fnF (g:Sv) (n k:Nat):List D->Sto->Out D:=fun ds M=>if ds.length=n then (match g (ds.map some ++ List.replicate k none) M with
 | .ret d M'=> .ok d M'
 | .nx _ M'=> .ok .non M'
 | .exc c M'=> .exc c M'
 |_=> .bad) else .bad
noncomputable def spD (K:PySem.W.Frag) (F:List D->Sto->Out D):Sp:=fun vs H Q E=> ∃ ds α M,Reps K H α vs ds/\HR K H α M/\OP K H α E Q (F ds M)
theorem ZeU: ∀ {ds:List D} {k i:Nat} {d:D},(ds.map some ++ List.replicate k none)[i]?=some (some d)->ds[i]?=some d
 | [],k,i,d,h=>by
  rw[List.map_nil,List.nil_append] at h
  have:=List.mem_of_getElem? h
  rw[List.mem_replicate] at this
  cases this.2
 |x :: r,k,0,d,h=>by simpa using h
 |x :: r,k,i + 1,d,h=>by
  rw[List.map_cons,List.cons_append,List.getElem?_cons_succ] at h
  rw[List.getElem?_cons_succ]
  exact ZeU h
theorem SR.start {K:PySem.W.Frag} {H:Hp} {α:List Addr} {N:List Str} {vs:List V} {ds:List D} {k:Nat} (r:Reps K H α vs ds) (hk:k=N.length - ds.length):SR K H α (start N vs) (ds.map some ++ List.replicate k none):=by
 unfold L2.start
 refine ⟨by simp only[List.length_append,List.length_map,List.length_replicate,r.length,hk],fun i d h=> ?_⟩
 obtain ⟨v,h1,h2⟩:=r.get (ZeU h)
 refine ⟨v,?_,h2⟩
 have hl:i < vs.length:=(List.getElem?_eq_some_iff.mp h1).1
 rw[List.getElem?_append_left (by rw[List.length_map];exact hl),List.getElem?_map,h1]
 rfl
section
variable {P:Program} {w:World} {K:PySem.W.Frag} {mg:Str->Option Value} {base:Heap}
theorem Z0 {x qual:Str} {st:Stmt} {f:Addr} {fd:FuncData} {N ps:List Str} {k n m:Nat} {g:Sv} (F:Fun K x qual st f fd) (S:FnScope N ps (Zg st)) (hn:n=ps.length) (hm:m=N.length - n)
  (hb: ∀ (cdv:Value) (A:Around) (outer:List Env) (s:Shared) (H:Hp) (E:XK),Room k (A.deeper (envOfC qual (Zg st) s.heap.objs.size f cdv))->Thr (Zft (CXE P w) P w K mg base N qual (Zg st) f cdv A outer s H E) E->DSs (Zft (CXE P w) P w K mg base N qual (Zg st) f cdv A outer s H E) E (Zr st) g):
  FnOk P w K mg base (CXE P w) (k + 1) f fd ps (spD K (fnF g n m)):=by
 obtain ⟨oc,od,kV,doc,pm,an,cdv,ct,osl,rfl,lk,hcd⟩:=F.ex
 refine Zrd lk hcd S (fun vs H Q E h=> ?_) (fun A outer s H vs Q E hr h=> ?_)
 ·obtain ⟨ds,α,M,r,_,q⟩:=h
  by_cases c:ds.length=n
  ·rw[r.length,c,hn]
  ·simp only[fnF,if_neg c] at q
   exact q.elim
 ·obtain ⟨ds,α,M,r,hh,q⟩:=h
  obtain ⟨t,p,w'⟩:=hb cdv A outer s H E hr Zon
  by_cases c:ds.length=n
  ·simp only[fnF,if_pos c] at q
   refine ⟨t,p,w' _ _ H α M _ (SR.start (N:=N) r (k:=m) (by rw[hm,c])) hh ?_⟩
   cases e:g (ds.map some ++ List.replicate m none) M with
   |nx ρ' M'=>simp only[e] at q;exact fun σ' H' α' ex hr sr=>q _ H' α' ex hr .non
   |ret d M'=>simp only[e] at q;exact q
   |exc x M'=>simp only[e] at q;exact q
   |brk ρ' M'=>simp only[e] at q;exact q.elim
   |cnt ρ' M'=>simp only[e] at q;exact q.elim
   |bad=>simp only[e] at q;exact q.elim
  ·simp only[fnF,if_neg c] at q
   exact q.elim
end
section
variable {X:Cx} {ξ:XK} {k:Nat} {f:Addr} {fd:FuncData} {ps:List Str} {F:List D->Sto->Out D} {x:Str} {p pos:Pos} {e:Expr} {es:List Expr} {fs:Av}
theorem Zl3 (G:FnOk X.prog X.w X.K X.mg X.base (CXE X.prog X.w) k f fd ps (spD X.K F)) (T:Thr X ξ) (hr:Room k X.A) (hm:X.mg x=some (.ref f)) (hk:PySem.W.keepIn X.K (.ref f)=true) (hb:Zfy X.K fd ps []) (ha:DA X ξ (e :: es) fs) (hg:Gl X x:=by rfl)
  (hdb:(x == ("__debug__":Str))=false:=by decide) (he:starEach (e :: es) X.env=(false,eval e X.env) :: starEach es X.env:=by rfl) (hpl:(backTo pos (starEach es X.env)).any (·.1)=false:=by rfl):DE X ξ (.Call (.Name x p) (e :: es) [] pos) (Zl F fs):=by
 obtain ⟨t,pa,qa⟩:=ha
 refine ⟨_,ZlK G hr hg hm hk hb .nil T.ps pa hdb he hpl,fun σ ρ H α M Q s hh q=>qa σ ρ H α M _ s hh (OG.seq q fun ds M1 vs H1 α1 e1 h1 r1 q1=> ?_)⟩
 rw[List.append_nil]
 exact ⟨ds,α1,M1,r1,h1,q1⟩
end
end DL
end
section
namespace DL
open PySem PySem.Spec PyProof.Rows L2
theorem Zc8:bootBuiltins "abs"=some (.builtin "abs"):=by decide +kernel
theorem Zc9:bootBuiltins "int"=some (.type "int"):=by decide +kernel
theorem Zl4:bootBuiltins "bool"=some (.type "bool"):=by decide +kernel
theorem Zda:bootBuiltins "list"=some (.type "list"):=by decide +kernel
theorem ZcP:bootBuiltins "tuple"=some (.type "tuple"):=by decide +kernel
theorem Zgr:bootBuiltins "max"=some (.builtin "max"):=by decide +kernel
theorem Zop:bootBuiltins "min"=some (.builtin "min"):=by decide +kernel
noncomputable def Cal (P:Program) (w:World) (K:PySem.W.Frag) (mg:Str->Option Value) (base:Heap) (x:Str) (k n:Nat) (F:List D->Sto->Out D):Prop:=
 ∃ (f:Addr) (fd:FuncData) (ps:List Str),FnOk P w K mg base (CXE P w) k f fd ps (spD K F)/\mg x=some (.ref f)/\PySem.W.keepIn K (.ref f)=true/\ps.length=n/\Zfy K fd ps []
theorem Zi {X:Cx} {ξ:XK} {k n:Nat} {F:List D->Sto->Out D} {x:Str} {p pos:Pos} {e:Expr} {es:List Expr} {fs:Av} (C:Cal X.prog X.w X.K X.mg X.base x k n F) (T:Thr X ξ) (hr:Room k X.A) (ha:DA X ξ (e :: es) fs) (hg:Gl X x:=by rfl)
  (hdb:(x == ("__debug__":Str))=false:=by decide) (he:starEach (e :: es) X.env=(false,eval e X.env) :: starEach es X.env:=by rfl) (hpl:(backTo pos (starEach es X.env)).any (·.1)=false:=by rfl):DE X ξ (.Call (.Name x p) (e :: es) [] pos) (Zl F fs):=by
 obtain ⟨f,fd,ps,G,hm,hk,_,hb⟩:=C
 exact Zl3 G T hr hm hk hb ha hg hdb he hpl
theorem Zoq {K:PySem.W.Frag} {H:Hp} {a:Addr} {ns:List Int} {n:Nat} {F:List D->Sto->Out D} (hl:ns.length<=n) (hO:ZqR H) (hS:SqL K H a (ns.map V.int)) (h: ∃ M',F [.rol (ns.map D.int)] []= .ok (.bl true) M'):
  spD K F [.ref a] H (fun v _=>v= .bl true) (fun _ _ _=>False):=by
 obtain ⟨M',e⟩:=h
 have hF:SqF K H a (ns.map V.int):=by
  rcases hS with (h | ⟨o,h⟩) | h
  ·rcases hO a with z | ⟨o,xs,z⟩
   ·rw[h] at z;cases z
   ·rw[h] at z;cases z
  ·exact .inl ⟨o,h⟩
  ·exact .inr h
 refine ⟨[.rol (ns.map D.int)],[],[],.cons (.rol hF (Reps.ints ns)) .nil,HR.nil,?_⟩
 rw[e]
 intro v H' α' _ _ r
 cases r
 rfl
end DL
end
section
namespace DL
open PySem PySem.Spec PyProof.Rows L2
inductive Src where
 |pur (ds:List D)
 |sto (n:Nat)
 |zip (n m:Nat)
 |enu (n:Nat)
 |rev (n l:Nat)
 |zips (ns:List Nat)
noncomputable def Zic (M:Sto) (i:Nat):List Nat->Option (Option (List D))
 | []=>some (some [])
 |n :: ns=>match M[n]? with
  |none=>none
  |some (.lst xs)=>match Zic M i ns with
   |none=>none
   |some r=>match xs[i]?,r with | some x,some ds=>some (some (x :: ds)) | _,_=>some none
noncomputable def nxt (src:Src) (i:Nat) (M:Sto):Option (Option D):=match src with
 | .pur ds=>some ds[i]?
 | .sto n=>match M[n]? with | some (.lst xs)=>some xs[i]? | none=>none
 | .zip n m=>match M[n]?,M[m]? with
  |some (.lst xs),some (.lst ys)=>(match xs[i]?,ys[i]? with | some x,some y=>some (some (.tup [x,y])) | _,_=>some none)
  |_,_=>none
 | .enu n=>match M[n]? with | some (.lst xs)=>(match xs[i]? with | some x=>some (some (.tup [.int i,x])) | none=>some none) | none=>none
 | .zips ns=>match Zic M i ns with | some (some ds)=>some (some (.tup ds)) | some none=>some none | none=>none
 | .rev n l=>match M[n]? with | some (.lst xs)=>if i < l then (match xs[l - 1 - i]? with | some x=>some (some x) | none=>none) else (if i=l then some none else none) | none=>none
noncomputable def cnt (src:Src) (M:Sto):Nat:=match src with
 | .pur ds=>ds.length
 | .sto n=>match M[n]? with | some (.lst xs)=>xs.length | none=>0
 | .zip n _=>match M[n]? with | some (.lst xs)=>xs.length | none=>0
 | .enu n=>match M[n]? with | some (.lst xs)=>xs.length | none=>0
 | .rev _ l=>l
 | .zips ns=>match ns with | n :: _=>(match M[n]? with | some (.lst xs)=>xs.length | none=>0) | []=>0
noncomputable def Ats (H:Hp) (α:List Addr):List Nat->List Addr->Prop
 | [],[]=>True
 |n :: ns,l :: ls=>RefK H α 0 n l/\Ats H α ns ls
 |_,_=>False
noncomputable def Zl5 (K:PySem.W.Frag) (H:Hp) (α:List Addr) (J:It) (src:Src):Prop:= ∀ (i:Nat) H' α' M',Ext K H H' α α'->HR K H' α' M'->match nxt src i M' with
 |some none=>J.stop i H'
 |some (some d)=>J.go i H'/\ ∀ x H'',J.yld i H' x H''->Ext K H' H'' α' α'/\HR K H'' α' M'/\Rep K H'' α' x d
 |none=>True
noncomputable def DI (X:Cx) (ξ:XK) (tg iter:Expr) (f:Ro->Sto->Out Src):Prop:= ∃ wi:TI,PI X tg iter wi/\ ∀ σ ρ H α M R,SR X.K H α σ ρ->HR X.K H α M->OG X.K (Zl5 X.K) H α ξ R (f ρ M)->wi σ H R
section
variable {X:Cx} {ξ:XK} {tg iter a b:Expr} {fs:Av} {f:Ev} {p pos:Pos}
noncomputable def iR1 (fs:Av):Ro->Sto->Out Src:=fun ρ M=>(fs ρ M).bind fun ds M1=>match ds with
 | [.int j]=>if -(2 ^ 62)<=j/\j < 2 ^ 62 then .ok (.pur (Zby 0 j.toNat)) M1 else .bad
 |_=> .bad
theorem ZgY {K:PySem.W.Frag} {H:Hp} {α:List Addr} {lo:Int} {n:Nat}:Zl5 K H α (Itr lo n) (.pur (Zby lo n)):=by
 intro i H' α' M' ex hr
 show match some (Zby lo n)[i]? with | some none=>_ | some (some d)=>_ | none=>True
 by_cases h:i < n
 ·rw[Zgp h]
  refine ⟨h,fun x H'' y=> ?_⟩
  obtain ⟨e1,e2⟩:=y
  subst e1 e2
  exact ⟨Ext.refl,hr,.int _⟩
 ·rw[List.getElem?_eq_none (by rw[Zea];omega)]
  exact Nat.le_of_not_lt h
theorem Zid (hm:X.mg "range"=none) (ha:DA X ξ [a] fs) (hgl:Gl X "range":=by rfl) (hs:starEach [a] X.env=[(false,eval a X.env)]:=by rfl):DI X ξ tg (.Call (.Name "range" p) [a] [] pos) (iR1 fs):=by
 obtain ⟨ta,pa,qa⟩:=ha
 refine ⟨_,ZeE hgl hm pa hs,fun σ ρ H α M R s hh q=>qa σ ρ H α M _ s hh (OG.seq q fun ds M1 vs H1 α1 e1 h1 r1 w1=> ?_)⟩
 match r1 with
 | .nil=>exact w1.elim
 | .cons r (.cons _ _)=>cases r<;>exact w1.elim
 | .cons r .nil=>
  cases r with
  |int j=>
   by_cases c: -(2 ^ 62)<=j/\j < 2 ^ 62
   ·simp only[if_pos c] at w1
    exact ⟨j,rfl,c.1,c.2,w1 _ H1 α1 Ext.refl h1 ZgY⟩
   ·simp only[if_neg c] at w1
    exact w1.elim
  |_=>exact w1.elim
noncomputable def iSq (f:Ev):Ro->Sto->Out Src:=fun ρ M=>(f ρ M).bind fun d M1=>match d with
 | .tup ds=> .ok (.pur ds) M1
 | .rol ds=> .ok (.pur ds) M1
 | .con ds=> .ok (.pur ds) M1
 | .ref n=> .ok (.sto n) M1
 |_=> .bad
theorem Zdb (ha:DE X ξ a f):DI X ξ tg a (iSq f):=by
 obtain ⟨ta,pa,qa⟩:=ha
 refine ⟨_,ZkW pa,fun σ ρ H α M R s hh q=>qa σ ρ H α M _ s hh (OG.seq q fun d M1 v H1 α1 e1 h1 r1 w1=> ?_)⟩
 cases r1 with
 | @tup p xs ds hp rp=>
  refine ⟨p,rfl,.inr ⟨⟨xs,(SqT.of hp)⟩,w1 (Itt X.K p) H1 α1 Ext.refl h1 ?_⟩⟩
  intro i H' α' M' ex hr
  show match some ds[i]? with | some none=>_ | some (some d)=>_ | none=>True
  cases ei:ds[i]? with
  |none=>exact ⟨xs,SqT.of (ex.tup _ _ hp),by rw[rp.length];exact List.getElem?_eq_none_iff.mp ei⟩
  |some d=>
   obtain ⟨v,k1,k2⟩:=rp.get ei
   refine ⟨⟨xs,v,SqT.of (ex.tup _ _ hp),k1⟩,fun x H'' y=> ?_⟩
   obtain ⟨ey,y⟩:=y
   have z:=y xs (SqT.of (ex.tup _ _ hp))
   rw[k1] at z
   cases z
   subst ey
   exact ⟨Ext.refl,hr,Rep.mono ex k2⟩
 | @con p xs ds hp rp=>
  refine ⟨p,rfl,.inr ⟨⟨xs,hp.sq⟩,w1 (Itt X.K p) H1 α1 Ext.refl h1 ?_⟩⟩
  intro i H' α' M' ex hr
  show match some ds[i]? with | some none=>_ | some (some d)=>_ | none=>True
  cases ei:ds[i]? with
  |none=>exact ⟨xs,hp.sq,by rw[rp.length];exact List.getElem?_eq_none_iff.mp ei⟩
  |some d=>
   obtain ⟨v,k1,k2⟩:=rp.get ei
   refine ⟨⟨xs,v,hp.sq,k1⟩,fun x H'' y=> ?_⟩
   obtain ⟨ey,y⟩:=y
   have z:=y xs hp.sq
   rw[k1] at z
   cases z
   subst ey
   exact ⟨Ext.refl,hr,Rep.mono ex k2⟩
 | @rol p xs ds hp rp=>
  refine ⟨p,rfl,.inl ⟨⟨xs,hp.sq⟩,w1 (Itl X.K p) H1 α1 Ext.refl h1 ?_⟩⟩
  intro i H' α' M' ex hr
  show match some ds[i]? with | some none=>_ | some (some d)=>_ | none=>True
  have hq:=(ex.rol _ _ hp).sq
  cases ei:ds[i]? with
  |none=>exact ⟨xs,hq,by rw[rp.length];exact List.getElem?_eq_none_iff.mp ei⟩
  |some d=>
   obtain ⟨v,k1,k2⟩:=rp.get ei
   refine ⟨⟨xs,v,hq,k1⟩,fun x H'' y=> ?_⟩
   obtain ⟨ey,y⟩:=y
   have z:=y xs hq
   rw[k1] at z
   cases z
   subst ey
   exact ⟨Ext.refl,hr,Rep.mono ex k2⟩
 | @ref p n hp=>
  obtain ⟨xs0,g0⟩:=h1.some_at hp
  refine ⟨p,rfl,.inl ⟨⟨xs0,SqL.of g0⟩,w1 (Itl X.K p) H1 α1 Ext.refl h1 ?_⟩⟩
  intro i H' α' M' ex hr
  show match (match M'[n]? with | some (.lst xs)=>some xs[i]? | none=>none) with | some none=>_ | some (some d)=>_ | none=>True
  cases em:M'[n]? with
  |none=>exact True.intro
  |some so=>
   cases so with
   |lst ds=>
    obtain ⟨xs,g1,g2⟩:=hr.at (ex.get hp) em
    show match some ds[i]? with | some none=>_ | some (some d)=>_ | none=>True
    cases ei:ds[i]? with
    |none=>exact ⟨xs,SqL.of g1,by rw[g2.length];exact List.getElem?_eq_none_iff.mp ei⟩
    |some d=>
     obtain ⟨v,k1,k2⟩:=g2.get ei
     refine ⟨⟨xs,v,SqL.of g1,k1⟩,fun x H'' y=> ?_⟩
     obtain ⟨ey,y⟩:=y
     have z:=y xs (SqL.of g1)
     rw[k1] at z
     cases z
     subst ey
     exact ⟨Ext.refl,hr,k2⟩
 |_=>exact w1.elim
end
noncomputable def blk (X:Cx) (scope:Scope) (cl:List (Str × Addr)) (N:List Str) (C:Addr) (fp:List Addr) (s:Shared) (H:Hp):Cx:=
 { X with N:=N,s₀:=s,H₀:=H,env:=compEnvC scope cl C X.env,outer:=X.stack,stack:=X.stack,ex:=fp,fn:=fun _=>false,pn:=[],xe:=fun _ _=>False }
theorem Zdc {X:Cx} {scope:Scope} {cl:List (Str × Addr)} {N:List Str} {C:Addr} {fp:List Addr} {s:Shared} {H:Hp}:Thr (blk X scope cl N C fp s H) E0:=
 ⟨PassesOwn.never,fun _ _ _ _ _ _ _ ⟨_,_,_,_,_,_,_,_,_,_,_,_,_,q⟩=>q,fun _ _ _ _ _ _ _ _ _ _ _ _ _ _ _ _ _ _ q=>q⟩
noncomputable def ZdH (src:Src) (tg:Tg) (c:Tv) (f:Ev) (n:Nat):Nat->Nat->Ro->Sto->Out Unit
 |fuel,i,ρ,M=>match nxt src i M with
  |none=> .bad
  |some none=> .ok () M
  |some (some d)=>(match fuel with
   |0=> .bad
   |fuel + 1=>(match tg d ρ with
    |none=> .bad
    |some ρ1=>(match c ρ1 M with
     | .ok true M1=>(match f ρ1 M1 with
      | .ok x M2=>(match M2[n]? with
       |some (.lst xs)=>if xs.length < 10000000 then ZdH src tg c f n fuel (i + 1) ρ1 (M2.set n (.lst (xs ++ [x]))) else .bad
       |none=> .bad)
      |_=> .bad)
     | .ok false M1=>ZdH src tg c f n fuel (i + 1) ρ1 M1
     |_=> .bad)))
noncomputable def roB (k:Nat) (fr:List Nat) (ρ:Ro):Ro:=List.replicate k none ++ fr.map fun i=>(ρ[i]?).join
noncomputable def Zbx (fi:Ro->Sto->Out Src) (k:Nat) (fr:List Nat) (tg:Tg) (c:Tv) (f:Ev):Ev:=fun ρ M=>(fi ρ M).bind fun src M1=>match ZdH src tg c f M1.length (cnt src M1) 0 (roB k fr ρ) (M1 ++ [.lst []]) with
 | .ok _ M2=> .ok (.ref M1.length) M2
 |_=> .bad
structure Blk (X:Cx) (scope:Scope) (cl:List (Str × Addr)) (N:List Str) (k:Nat) (fr:List Nat):Prop where
 clos:closureFor scope X.env=pure cl
 kind:scope.kind= .function
 cell: ∀ y∈scope.names,y.2≠ .cell
 names: ∀ y∈scope.names,y.2= .local->scope.names.lookup y.1=some .local
 sub: ∀ x c,cl.lookup x=some c->X.env.cells.lookup x=some c
 has: ∀ x,((relabel scope X.env).names.lookup x=some .cell\/(relabel scope X.env).names.lookup x=some .free)-> ∃ c,cl.lookup x=some c
 len:N.length=k + fr.length
 at_: ∀ (j i:Nat),fr[j]?=some i-> ∃ x,N[k + j]?=some x/\X.N[i]?=some x/\X.env.kindOf x=some .cell/\((relabel scope X.env).names.lookup x=some .cell\/(relabel scope X.env).names.lookup x=some .free)/\cl.lookup x=X.env.cells.lookup x
theorem ZeV {prog:Program} {w:World} {A:Around} {R:Result->Shared->Prop} {s:Shared} {elt target iter:Expr} {ifs:List Expr} {scope:Scope} {pos:Pos} {it acc:Value} {env:Env} (I:Nat->Shared->Prop)
  (turn: ∀ n s,I n s->wpAny (model prog w) A (pyNext it) (fun r s₁=>match r with
   |none=>R (.ok .next) s₁
   |some v=>wpAny (model prog w) A (letOwnedTupleGo target it v) (fun _ s₁=>wpAny (model prog w) A (assign target env v) (fun _ s₂=>
     wpAny (model prog w) A (forIn ifs true fun c r=>if r=true then do let ok <- isTrue c env (eval c env);pure (ForInStep.yield ok) else pure (ForInStep.yield r)) (fun ok s₃=>
      if ok=true then wpAny (model prog w) A (eval elt env) (fun x s₄=>
       wpAny (model prog w) A (call (.builtin "list.append") [acc,x]) (fun _ s₅=> ∃ m,m < n/\I m s₅) (fun _ _=>False) s₄) (fun _ _=>False) s₃
      else ∃ m,m < n/\I m s₃) (fun _ _=>False) s₂) (fun _ _=>False) s₁) (fun _ _=>False) s₁) (fun _ _=>False) s)
  (n:Nat) (h:I n s):
  codeAny (model prog w) A (.compLoop (.ListComp elt [⟨target,iter,ifs,0⟩] scope pos) 0 it acc env) R s:=by
 refine codeAny_loop rfl I (fun n s hI=> ?_) n h
 show wpAny _ A ((compTurn (.ListComp elt [⟨target,iter,ifs,0⟩] scope pos) 0 it acc env).onRaise (fun x=>do noteFrame x env;theTreesLotGoes x)) _ _ s
 refine wpAny_noted ?_
 rw[compTurn_list]
 refine wpAny_bind (wpAny_standAt (wpAny_bind (wpAny_mono (turn n s hI) (fun r s₁ h₁=> ?_) fun _ _ h'=>h'.elim)))
 cases r with
 |none=>exact wpAny_pure h₁
 |some v=>
  refine wpAny_bind (wpAny_mono h₁ (fun _ s₁ h₁=> ?_) fun _ _ h'=>h'.elim)
  refine wpAny_bind (wpAny_mono h₁ (fun _ s₂ h₂=>wpAny_bind (wpAny_mono h₂ (fun ok s₃ h₃=> ?_) fun _ _ h'=>h'.elim)) fun _ _ h'=>h'.elim)
  cases ok with
  |false=>exact wpAny_pure ⟨rfl,h₃⟩
  |true=>
   exact wpAny_bind (wpAny_bind (wpAny_mono h₃ (fun x s₄ h₄=>wpAny_bind (wpAny_mono h₄ (fun _ s₅ h₅=>wpAny_pure (wpAny_pure ⟨rfl,h₅⟩)) fun _ _ h'=>h'.elim)) fun _ _ h'=>h'.elim))
noncomputable def DC (X:Cx) (ifs:List Expr) (c:Tv):Prop:=(ifs=[]/\c=fun _ M=> .ok true M)\/ ∃ e,ifs=[e]/\DT X E0 e c
section
variable {X:Cx} {ξ:XK} {tg iter elt:Expr} {ifs:List Expr} {scope:Scope} {cl:List (Str × Addr)} {N:List Str} {k:Nat} {fr:List Nat} {fi:Ro->Sto->Out Src} {gt:Tg} {c:Tv} {f:Ev} {pos:Pos}
theorem Zgs (B:Blk X scope cl N k fr) {pins:List (Addr × Obj)} {σ:L2.St} {H:Hp} {s:Shared} {fp:List Addr} (I:Inv X pins σ H s) (hf: ∀ b∈fp,ZdP X pins H b) (hlt: ∀ b∈fp,b < s.heap.objs.size):(blk X scope cl N s.heap.objs.size fp s H).Ok where
 mod:=I.ok.mod
 kind:=B.kind
 glob:=I.ok.glob
 blt:=I.ok.blt
 above:=Nat.le_refl _
 inj:=fun x y c h1 h2=>I.ok.inj x y c (B.sub x c h1) (B.sub y c h2)
 has:=fun x h=>B.has x h
 cab:=fun x c h=>(by cases h)
 hd:=I.ok.hd
 frames:=I.ok.frames
 stk:= .inl rfl
 exf:=fun b hb=>⟨Nat.ne_of_lt (hlt b hb),fun x c h=>(hf b hb).2.2.2.2.1 x c (B.sub x c h)⟩
 bs:=I.bs
 bsz:=Nat.le_trans I.ok.bsz I.sz
 noex:=fun b o e hb=>by
  rcases (hf b hb).2.2.2.1 with z | z
  ·exact I.ok.noex b o e z
  ·exact absurd (Nat.lt_of_lt_of_le (Heap.lt_size (I.ok.bs b o e).1) z) (Nat.lt_irrefl _)
 exfs:=fun b hb z=>by
  rcases List.mem_cons.mp (I.stkSub b z) with e | e
  ·exact (hf b hb).2.1 e
  ·exact (hf b hb).2.2.1 e
 funs:=I.stack
 frf:=I.stkFree
theorem join_some {α:Type} {o:Option (Option α)} {v:α} (h:o.join=some v):o=some (some v):=by
 cases o with
 |none=>cases h
 |some x=>cases x with
  |none=>cases h
  |some y=>cases h;rfl
theorem Zl6 {ρ:Ro} {i:Nat} {d:D} (h:(roB k fr ρ)[i]?=some (some d)): ∃ j r,i=k + j/\fr[j]?=some r/\ρ[r]?=some (some d):=by
 unfold roB at h
 by_cases hi:i < k
 ·rw[List.getElem?_append_left (by rw[List.length_replicate];exact hi)] at h
  have:=List.mem_of_getElem? h
  rw[List.mem_replicate] at this
  cases this.2
 ·rw[List.getElem?_append_right (by rw[List.length_replicate];omega),List.length_replicate,List.getElem?_map] at h
  cases e:fr[i - k]? with
  |none=>rw[e] at h;cases h
  |some r=>
   rw[e] at h
   exact ⟨i - k,r,by omega,e,join_some (Option.some.inj h)⟩
noncomputable def stB (k:Nat) (fr:List Nat) (σ:L2.St):L2.St:=List.replicate k none ++ fr.map fun i=>(σ[i]?).join
theorem Zl7 {σ:L2.St} {i:Nat} {d:V} (h:(stB k fr σ)[i]?=some (some d)): ∃ j r,i=k + j/\fr[j]?=some r/\σ[r]?=some (some d):=by
 unfold stB at h
 by_cases hi:i < k
 ·rw[List.getElem?_append_left (by rw[List.length_replicate];exact hi)] at h
  have:=List.mem_of_getElem? h
  rw[List.mem_replicate] at this
  cases this.2
 ·rw[List.getElem?_append_right (by rw[List.length_replicate];omega),List.length_replicate,List.getElem?_map] at h
  cases e:fr[i - k]? with
  |none=>rw[e] at h;cases h
  |some r=>
   rw[e] at h
   exact ⟨i - k,r,by omega,e,join_some (Option.some.inj h)⟩
theorem SR.blk {K:PySem.W.Frag} {H:Hp} {α:List Addr} {σ:L2.St} {ρ:Ro} (h:SR K H α σ ρ):SR K H α (stB k fr σ) (roB k fr ρ):=by
 refine ⟨by simp[stB,roB],fun i d e=> ?_⟩
 obtain ⟨j,r,rfl,e1,e2⟩:=Zl6 e
 obtain ⟨v,e3,e4⟩:=h.2 r d e2
 refine ⟨v,?_,e4⟩
 unfold stB
 rw[List.getElem?_append_right (by rw[List.length_replicate];omega),List.length_replicate,List.getElem?_map,Nat.add_sub_cancel_left,e1]
 show some (σ[r]?).join=_
 rw[e3]
 rfl
theorem ZfH (B:Blk X scope cl N k fr) {pins:List (Addr × Obj)} {σ:L2.St} {H:Hp} {s:Shared} {fp:List Addr} {h1:Heap} {tk:Nat} {m:Str->Option Value} (I:Inv X pins σ H s) (hf: ∀ b∈fp,ZdP X pins H b) (hlt: ∀ b∈fp,b < s.heap.objs.size)
  (hn:h1.Ns s.heap.objs.size m) (hk: ∀ b o,s.heap.get? b=some o->h1.get? b=some o):Inv (blk X scope cl N s.heap.objs.size fp s H) [] (stB k fr σ) H { s with heap:=h1,toks:=tk } where
 ok:=Zgs B I hf hlt
 os:=rfl
 bare:=I.bare
 base:=Un.kept hk
 loc:=by
  refine ⟨m,hn,fun i x v e1 e2 e3=> ?_⟩
  obtain ⟨j,r,rfl,g1,g2⟩:=Zl7 e2
  obtain ⟨y,k1,k2,k3,k4,k5⟩:=B.at_ j r g1
  have exy:x=y:=Option.some.inj (e1.symm.trans k1)
  subst exy
  obtain ⟨m0,hm0,hl⟩:=I.loc
  obtain ⟨u,ru,lk⟩:=hl r x v k2 g2 (.inr (.inl k3))
  refine ⟨u,ru,?_⟩
  rcases lk with ⟨z,_⟩ | ⟨_,c,z1,⟨o,z2,z3⟩⟩
  ·rw[k3] at z;cases z
  ·exact .inr ⟨k4,c,k5.trans z1,⟨o,hk _ _ z2,z3⟩⟩
 cell:=fun x c h=>by
  obtain ⟨v,o,e1,e2⟩:=I.cell x c (B.sub x c h)
  exact ⟨v,o,hk _ _ e1,e2⟩
 free:=I.fresh
 freeC:=fun x c h=>I.freeC x c (B.sub x c h)
 pin:=fun p hp=>(by simp[blk] at hp)
 hok:=I.hok.kept hk
 len:=by
  show (stB k fr σ).length=N.length
  rw[B.len]
  simp[stB]
 qd:=I.qd
theorem Zeb {pins:List (Addr × Obj)} {σ σ5:L2.St} {H3 H5:Hp} {s3 s6:Shared} {fp:List Addr} (B:Blk X scope cl N k fr) (I3:Inv X pins σ H3 s3) (f3: ∀ b∈fp,ZdP X pins H3 b) (I6:Inv (blk X scope cl N s3.heap.objs.size fp s3 H3) [] σ5 H5 s6):Inv X pins σ H5 s6/\ ∀ (σ':L2.St) (s8:Shared) (h':Heap),Inv X pins σ' H5 s8->(∀ b o,b≠s3.heap.objs.size->s8.heap.get? b=some o->h'.get? b=some o)->Inv X pins σ' H5 { s8 with heap:=h',toks:=s8.toks }:=by
 refine ⟨I3.call' (s':=s6) (ch:=fp) I6.os I6.base I6.hok I6.bare fun b hb=> ?_,fun σ' s8 h' I8 sb=> ?_⟩
 ·obtain ⟨_,z1,z2,z3,z4,z5⟩:=f3 b hb
  exact ⟨z3,z1,z4,z5⟩
 ·exact I8.turned (it:=s3.heap.objs.size) sb I6.free (Nat.ne_of_gt I3.lt) (.inr I3.sz)
   (fun x c h z=>by
    obtain ⟨v,o,e,_⟩:=I3.cell x c h
    exact absurd (Heap.lt_size e) (by rw[z];exact Nat.lt_irrefl _)) (fun p hp z=>by
    have:=(I3.pin p hp).1
    exact absurd (Heap.lt_size this) (by rw[z];exact Nat.lt_irrefl _))
noncomputable def CmI (Y:Cx) (fp:List Addr) (tn:Nat->Heap->Prop) (H3:Hp) (α3:List Addr) (g:Nat->Nat->Ro->Sto->Prop) (n:Nat) (s':Shared):Prop:=
 ∃ i σ' ρ' H' α' M',Inv Y [] σ' H' s'/\tn i s'.heap/\(∀ b∈fp,H' b=none)/\SR Y.K H' α' σ' ρ'/\HR Y.K H' α' M'/\Ext Y.K H3 H' α3 α'/\g n i ρ' M'
theorem Zgt {Y:Cx} {fp α3:List Addr} {it D:Addr} {tn:Nat->Heap->Prop} {J:It} {tg iter elt:Expr} {ifs:List Expr} {scope:Scope} {pos:Pos} {gt:Tg} {c:Tv} {f:Ev} {src:Src} {H3:Hp} {σ0:L2.St} {ρ0:Ro} {M3 M9:Sto} {u9:Unit} {n0 fuel:Nat} {s4:Shared} {R:Result->Shared->Prop}
  (T:Turn Y.prog Y.w Y.K Y.A tg J fp it tn) (hxe: ∀ x y,Y.xe x y->False) (fp5: ∀ {H':Hp},(∀ b∈fp,H' b=none)-> ∀ b∈fp,ZdP Y [] H' b) (hg:DG Y tg gt) (tst:DC Y ifs c) (he:DE Y E0 elt f)
  (sc:Zl5 Y.K H3 α3 J src) (aD:RefK H3 α3 0 n0 D) (I4:Inv Y [] σ0 H3 s4) (st4:tn 0 s4.heap) (fr4: ∀ b∈fp,H3 b=none) (sr:SR Y.K H3 α3 σ0 ρ0) (h3:HR Y.K H3 α3 M3) (er:ZdH src gt c f n0 fuel 0 ρ0 M3= .ok u9 M9)
  (post: ∀ σ5 H5 α5 s6,Inv Y [] σ5 H5 s6->Ext Y.K H3 H5 α3 α5->HR Y.K H5 α5 M9->R (.ok .next) s6):
  codeAny (model Y.prog Y.w) Y.A (.compLoop (.ListComp elt [⟨tg,iter,ifs,0⟩] scope pos) 0 (.ref it) (.ref D) Y.env) R s4:=by
 obtain ⟨tt,pt,qt⟩:=hg
 obtain ⟨te,pe,qe⟩:=he
 refine ZeV (CmI Y fp tn H3 α3 fun n i ρ' M'=>ZdH src gt c f n0 n i ρ' M'= .ok u9 M9) ?_ fuel ⟨0,σ0,ρ0,H3,α3,M3,I4,st4,fr4,sr,h3,Ext.refl,er⟩
 rintro n s5 ⟨i,σ5,ρ5,H5,α5,M5,I5,st5,fr5,sr5,hr5,ex5,en⟩
 have src5:=sc i H5 α5 M5 ex5 hr5
 rw[ZdH] at en
 cases ex:nxt src i M5 with
 |none=>rw[ex] at en;cases en
 |some od=>
  rw[ex] at src5 en
  cases od with
  |none=>
   cases en
   have fin:=T.done Y rfl rfl rfl rfl i [] s5 σ5 H5 (fun _ _=>False) I5 (fp5 fr5) st5 src5
   refine thn fin fun r s6 w6=> ?_
   obtain ⟨hr6,I6⟩:=w6
   subst hr6
   exact post σ5 H5 α5 s6 I6 ex5 hr5
  |some d=>
   obtain ⟨go,yl⟩:=src5
   cases n with
   |zero=>cases en
   |succ n=>
    simp only at en
    have itm:=T.item Y rfl rfl rfl rfl i [] s5 σ5 H5 (fun _ _=>False) I5 (fp5 fr5) st5 go
    refine thn itm fun r s6 ⟨u,hr6,w6⟩=> ?_
    subst hr6
    refine thn w6 fun _ s7 ⟨x,H7,I7,r7,y7,st7,fr7⟩=> ?_
    obtain ⟨ex7,hr7,rp7⟩:=yl x H7 y7
    have sr5:=sr5.mono ex7
    have hr5:=hr7
    have ex5:=ex5.trans ex7
    have I7':=I7.pinned (fp5 fr7) (T.obj _ _ st7)
    cases eg:gt d ρ5 with
    |none=>rw[eg] at en;cases en
    |some ρ6=>
     rw[eg] at en
     simp only at en
     have asg:=pt _ s7 σ5 H7 x u _ I7' r7 (qt x d σ5 ρ5 H7 α5 ρ6 (fun σ' H'=>H'=H7/\SR Y.K H7 α5 σ' ρ6) sr5 rp7 eg fun σ' s'=>⟨rfl,s'⟩)
     refine wpAny_mono asg (fun _ s8 ⟨σ8,H8,I8,z8,sr8⟩=> ?_) (fun x y z=>hxe x y z)
     subst z8
     have again: ∀ {σ9:L2.St} {H9:Hp} {s9:Shared},Inv Y ([] ++ Zb6 fp s7.heap) σ9 H9 s9->Inv Y [] σ9 H9 s9/\tn (i + 1) s9.heap/\ ∀ b∈fp,H9 b=none:=fun {σ9 H9 s9} I9=>by
      refine ⟨I9.unpinned,T.keep _ _ _ st7 fun b hb o e=>(I9.pin (b,o) (List.mem_append_right _ (List.mem_append_right _ (ZaM hb e)))).1,fun b hb=> ?_⟩
      obtain ⟨o,e,_⟩:=T.obj _ _ st7 b hb
      exact (I9.pin (b,o) (List.mem_append_right _ (List.mem_append_right _ (ZaM hb e)))).2.1
     have after: ∀ (kk:Bool) (M8:Sto) (H9:Hp) (α9:List Addr) (s9:Shared),Inv Y ([] ++ Zb6 fp s7.heap) σ8 H9 s9->Ext Y.K H8 H9 α5 α9->HR Y.K H9 α9 M8->c ρ6 M5= .ok kk M8->
       (if kk=true then wpAny (model Y.prog Y.w) Y.A (eval elt Y.env) (fun x s₄=>wpAny (model Y.prog Y.w) Y.A (call (.builtin "list.append") [.ref D,x]) (fun _ s₅=> ∃ m,m < n + 1/\CmI Y fp tn H3 α3 (fun n i ρ' M'=>ZdH src gt c f n0 n i ρ' M'= .ok u9 M9) m s₅) (fun _ _=>False) s₄) (fun _ _=>False) s9
        else ∃ m,m < n + 1/\CmI Y fp tn H3 α3 (fun n i ρ' M'=>ZdH src gt c f n0 n i ρ' M'= .ok u9 M9) m s9):=by
      intro kk M8 H9 α9 s9 I9 ex9 hr9 ec
      rw[ec] at en
      cases kk with
      |false=>
       obtain ⟨a1,a2,a3⟩:=again I9
       exact ZkP ⟨n,Nat.lt_succ_self n,i + 1,σ8,ρ6,H9,α9,M8,a1,a2,a3,sr8.mono ex9,hr9,ex5.trans ex9,en⟩
      |true=>
       simp only at en
       refine ZkQ ?_
       cases ef:f ρ6 M8 with
       |exc x9 M10=>rw[ef] at en;cases en
       |bad=>rw[ef] at en;cases en
       |ok y M10=>
        rw[ef] at en
        simp only at en
        have ev:=pe _ s9 σ8 H9 (fun v H'=> ∃ α',Ext Y.K H9 H' α9 α'/\HR Y.K H' α' M10/\Rep Y.K H' α' v y) I9 (qe σ8 ρ6 H9 α9 M8 _ (sr8.mono ex9) hr9 (by
         rw[ef]
         exact fun v H' α' e h r=>⟨α',e,h,r⟩))
        refine wpAny_mono ev (fun yv s10 ⟨v,H10,I10,r10,α10,ex10,hr10,rp10⟩=> ?_) (fun x y z=>hxe x y z)
        cases em:M10[n0]? with
        |none=>rw[em] at en;cases en
        |some so=>
         cases so with
         |lst ds=>
          rw[em] at en
          simp only at en
          by_cases cz:ds.length < 10000000
          ·rw[if_pos cz] at en
           have aD10:=ex10.get (ex9.get (ex5.get aD))
           obtain ⟨xs,g1,g2⟩:=hr10.at aD10 em
           have ap:=ZeL (X:=Y) _ s10 σ8 H10 (.ref D) [v] (.ref D) [yv] (fun _ H'=>H'=upd H10 D (.lst (xs ++ [v]))) I10 rfl (.cons r10 .nil) ⟨D,xs,v,rfl,rfl,g1,by rw[g2.length];exact Nat.lt_of_lt_of_le cz (by decide),rfl⟩
           refine wpAny_mono ap (fun _ s11 ⟨v11,H11,I11,_,z11⟩=> ?_) (fun x y z=>hxe x y z)
           subst z11
           obtain ⟨a1,a2,a3⟩:=again I11
           have exw:Ext Y.K H10 (upd H10 D (.lst (xs ++ [v]))) α10 α10:=Ext.wr g1
           exact ⟨n,Nat.lt_succ_self n,i + 1,σ8,ρ6,_,α10,_,a1,a2,a3,((sr8.mono ex9).mono ex10).mono exw,hr10.wr aD10 g1 (g2.append (.cons rp10 .nil)),((ex5.trans ex9).trans ex10).trans exw,en⟩
          ·rw[if_neg cz] at en
           cases en
     rcases tst with ⟨rfl,ec⟩ | ⟨e,rfl,tt',ptt,qtt⟩
     ·refine wpAny_tests_nil ?_
      exact after true M5 H8 α5 s8 I8 Ext.refl hr5 (by rw[ec])
     ·refine wpAny_tests_one ?_
      cases ec:c ρ6 M5 with
      |exc x9 M10=>rw[ec] at en;cases en
      |bad=>rw[ec] at en;cases en
      |ok kk M8=>
       have tv':=ptt _ s8 σ8 H8 (fun b H'=>b=kk/\ ∃ α',Ext Y.K H8 H' α5 α'/\HR Y.K H' α' M8) I8 (qtt σ8 ρ6 H8 α5 M5 _ sr8 hr5 (by
        rw[ec]
        exact fun v H' α' e h r=>⟨r,α',e,h⟩))
       refine wpAny_mono tv' (fun b s9 ⟨H9,I9,zb,α9,ex9,hr9⟩=> ?_) (fun x y z=>hxe x y z)
       subst zb
       exact after b M8 H9 α9 s9 I9 ex9 hr9 ec
theorem Zdd (B:Blk X scope cl N k fr) (hi:DI X ξ tg iter fi) (hg: ∀ C fp s H,DG (blk X scope cl N C fp s H) tg gt) (ht: ∀ C fp s H,DC (blk X scope cl N C fp s H) ifs c) (he: ∀ C fp s H,DE (blk X scope cl N C fp s H) E0 elt f)
  (hs: ∀ x,foldedSetIterable iter X.env x=pure x:=by intro _;rfl):DE X ξ (.ListComp elt [⟨tg,iter,ifs,0⟩] scope pos) (Zbx fi k fr gt c f):=by
 obtain ⟨wi,pi,qi⟩:=hi
 refine ⟨fun σ H Q=> ∃ ρ α M,SR X.K H α σ ρ/\HR X.K H α M/\OP X.K H α ξ Q (Zbx fi k fr gt c f ρ M),?_,fun σ ρ H α M Q s h q=>⟨ρ,α,M,s,h,q⟩⟩
 rintro pins s σ H Q I ⟨ρ,α,M,sr,hr,op⟩
 rw[eval_ListComp]
 refine wpAny_comprehension_free (use:=none) rfl hs B.clos B.kind B.names ?_
 refine thn (pi pins s σ H (fun J H2=> ∃ α2 M2 src,Ext X.K H H2 α α2/\HR X.K H2 α2 M2/\Zl5 X.K H2 α2 J src/\OP X.K H2 α2 ξ Q (match ZdH src gt c f M2.length (cnt src M2) 0 (roB k fr ρ) (M2 ++ [.lst []]) with | .ok _ M2'=> .ok (.ref M2.length) M2' | _=> .bad)) I
  (qi σ ρ H α M _ sr hr (OG.seq op fun src M1 J H1 α1 e1 h1 r1 q1=>⟨α1,M1,src,e1,h1,r1,q1⟩))) fun v s1 w1=>thn w1 fun itv s2 w2=> ?_
 obtain ⟨it,fp,tn,J,H2,rfl,I2,T,st2,f2,α2,M2,src,e2,h2,sc,op2⟩:=w2
 have srI:=sr.mono e2
 refine wpAny_newObj_type ?_
 have I3:Inv X pins σ (upd H2 s2.heap.objs.size (.lst [])) { s2 with heap:=s2.heap.push { cls:= .type "list",data:= .seq ([]:List Value).toArray } }:=I2.lnew (its:=[]) (t':=s2.toks) .nil (Nat.zero_le _)
 have fD:H2 s2.heap.objs.size=none:=I2.fresh
 generalize hD:s2.heap.objs.size=D at I3 fD
 generalize hs3:({ s2 with heap:=s2.heap.push { cls:= .type "list",data:= .seq ([]:List Value).toArray } }:Shared)=s3 at I3
 generalize hH3:upd H2 D (.lst [])=H3 at I3
 have h3:HR X.K H3 (α2 ++ [D]) (M2 ++ [.lst []]):=by rw[<- hH3];exact h2.new fD .nil
 have e3:Ext X.K H2 H3 α2 (α2 ++ [D]):=by rw[<- hH3];exact Ext.new fD
 have aD:RefK H3 (α2 ++ [D]) 0 M2.length D:=⟨h2.last D,by first | exact Kn.lst ZC | (rw[<- hH3];exact Kn.lst ZC)⟩
 have lt2: ∀ b∈fp,b < s2.heap.objs.size:=fun b hb=>let ⟨o,e,_⟩:=T.obj _ _ st2 b hb;Heap.lt_size e
 have keep3: ∀ b o,s2.heap.get? b=some o->s3.heap.get? b=some o:=fun b o e=>by rw[<- hs3];exact Heap.get?_push_of_some _ e
 have f3: ∀ b∈fp,ZdP X pins H3 b:=fun b hb=>⟨by rw[<- hH3,ZP (by rw[<- hD];exact Nat.ne_of_lt (lt2 b hb))];exact (f2 b hb).1,(f2 b hb).2⟩
 have lt3: ∀ b∈fp,b < s3.heap.objs.size:=fun b hb=>let ⟨o,e,_⟩:=T.obj _ _ st2 b hb;Heap.lt_size (keep3 b o e)
 have st3:tn 0 s3.heap:=T.keep _ _ _ st2 fun b _ o e=>keep3 b o e
 refine wpAny_newFunctionEnv B.cell (by intro y hy;simp at hy) (fun h₁ hns₁ hsb₁=> ?_) B.kind
 have keep4: ∀ b o,s3.heap.get? b=some o->h₁.get? b=some o:=fun b o e=>hsb₁.extBut b o (Nat.ne_of_lt (Heap.lt_size e)) (Heap.get?_push_of_some _ e)
 have I4:=ZfH (tk:=s3.toks + ([]:List (Str × Value)).length) B I3 f3 lt3 hns₁ keep4
 have st4:tn 0 h₁:=T.keep _ _ _ st3 fun b _ o e=>keep4 b o e
 have fp5: ∀ {H':Hp},(∀ b∈fp,H' b=none)-> ∀ b∈fp,ZdP (blk X scope cl N s3.heap.objs.size fp s3 H3) [] H' b:=fun hn b hb=>⟨hn b hb,Nat.ne_of_lt (lt3 b hb),(Zgs B I3 f3 lt3).exfs b hb,.inl hb,fun x c h=>(f3 b hb).2.2.2.2.1 x c (B.sub x c h),fun p hp=>(by simp[blk] at hp)⟩
 cases er:ZdH src gt c f M2.length (cnt src M2) 0 (roB k fr ρ) (M2 ++ [.lst []]) with
 |exc x M9=>rw[er] at op2;exact op2.elim
 |bad=>rw[er] at op2;exact op2.elim
 |ok u9 M9=>
  rw[er] at op2
  have loop:codeAny (model X.prog X.w) X.A (.compLoop (.ListComp elt [⟨tg,iter,ifs,0⟩] scope pos) 0 (.ref it) (.ref D) (compEnvC scope cl s3.heap.objs.size X.env)) (compPost (model X.prog X.w) X.A X.xe none (EP X pins σ Q) (.ref D) s3.heap.objs.size) { s3 with heap:=h₁,toks:=s3.toks + ([]:List (Str × Value)).length }:=by
   refine Zgt (Y:=blk X scope cl N s3.heap.objs.size fp s3 H3) T (fun _ _ z=>z) fp5 (hg _ fp s3 H3) (ht _ fp s3 H3) (he _ fp s3 H3) (fun i H' α' M' ex hr=>sc i H' α' M' (e3.trans ex) hr) aD I4 st4 (fun b hb=>(f3 b hb).1) ((srI.blk).mono e3) h3 er ?_
   intro σ5 H5 α5 s6 I6 ex5 hr5
   obtain ⟨I7,I8⟩:=Zeb B I3 f3 I6
   obtain ⟨m6,hm6,_⟩:=id I6.loc
   exact ⟨m6,hm6,fun h' sb=>⟨.ref D,H5,I8 σ s6 h' I7 (fun b o hb e=>(sb.2 b hb).trans e),rfl,op2 _ H5 α5 (e3.trans ex5) hr5 (.ref (ex5.get aD))⟩⟩
  exact codeAny_compStart_list loop (T.self X.A 0 _ _ _ st4 loop)
end
end DL
end
section
namespace DL
open PySem PySem.Spec PyProof.Rows L2
theorem Zor {names:List (Str × NameKind)} (h:names.all (fun y=>y.2 != .cell && y.2 != .free)=true) (x:Str): ¬ (names.lookup x=some .cell\/names.lookup x=some .free):=by
 induction names with
 |nil=>intro z;rcases z with z | z<;>simp at z
 |cons y r ih=>
  rw[List.all_cons,Bool.and_eq_true] at h
  obtain ⟨n,kd⟩:=y
  rw[List.lookup_cons]
  cases e:x == n with
  |true=>
   simp only
   intro z
   have h1:=h.1
   rcases z with z | z<;>(cases z;simp at h1)
  |false=>exact ih h.2
theorem Zj5 {names:List (Str × NameKind)} {env:Env} (h:names.all (fun y=>y.2 != .cell && y.2 != .free)=true):
  (names.map fun (n,k)=>if (k == NameKind.free && env.scope.kind == .function && env.kindOf n == some .cell) then (n,NameKind.cell) else (n,k))=names:=by
 induction names with
 |nil=>rfl
 |cons y r ih=>
  rw[List.all_cons,Bool.and_eq_true] at h
  obtain ⟨n,kd⟩:=y
  have hk:(kd == NameKind.free)=false:=by
   have h1:=h.1
   rw[Bool.and_eq_true] at h1
   have h2:=h1.2
   cases kd<;>first | rfl | simp at h2
  rw[List.map_cons,ih h.2]
  simp[hk]
theorem Zro {X:Cx} {scope:Scope} {N:List Str} {k:Nat} (h:scope.names.all (fun y=>y.2 != .cell && y.2 != .free)=true) (hk:scope.kind= .function) (hn: ∀ y∈scope.names,y.2= .local->scope.names.lookup y.1=some .local) (hl:N.length=k):Blk X scope [] N k [] where
 clos:=closureFor_none fun y hy z=>by
  have:=List.all_eq_true.mp h y hy
  rw[z] at this
  simp at this
 kind:=hk
 cell:=fun y hy z=>by
  have:=List.all_eq_true.mp h y hy
  rw[z] at this
  simp at this
 names:=hn
 sub:=fun x c z=>(by cases z)
 has:=fun x z=>by
  have e:(relabel scope X.env).names=scope.names:=Zj5 h
  rw[e] at z
  exact absurd z (Zor h x)
 len:=hl
 at_:=fun j i z=>(by simp at z)
theorem ZfI {env:Env}: ∀ (names:List (Str × NameKind)) (acc:List (Str × Addr)),(∀ y∈names,y.2= .free-> ∃ c,env.cells.lookup y.1=some c)->
  (forIn names acc fun (x:Str × NameKind) (cs:List (Str × Addr))=>if x.2 == NameKind.free then (do let a <- cellOf env x.1;pure (ForInStep.yield ((x.1,a) :: cs))) else (pure (ForInStep.yield cs):Sem _))=
   (pure (((names.filter fun y=>y.2 == .free).map fun y=>(y.1,(env.cells.lookup y.1).getD 0)).reverse ++ acc):Sem (List (Str × Addr)))
 | [],acc,_=>by simp
 | (n,kd) :: r,acc,h=>by
  rw[List.forIn_cons]
  by_cases hk:(kd == NameKind.free)=true
  ·obtain ⟨c,hc⟩:=h (n,kd) List.mem_cons_self (by simpa using hk)
   have e1:cellOf env n=pure c:=by unfold cellOf;rw[hc]
   have ih:=ZfI r ((n,c) :: acc) fun y hy=>h y (List.mem_cons_of_mem _ hy)
   simp only[hk,if_true,e1,pure_bind]
   refine Eq.trans ih ?_
   simp[List.filter_cons,hk,hc]
  ·have ih:=ZfI r acc fun y hy=>h y (List.mem_cons_of_mem _ hy)
   simp only[hk,if_false,pure_bind]
   refine Eq.trans ih ?_
   simp[List.filter_cons,hk]
noncomputable def clF (scope:Scope) (env:Env):List (Str × Addr):=((scope.names.filter fun y=>y.2 == .free).map fun y=>(y.1,(env.cells.lookup y.1).getD 0)).reverse
theorem ZdU {env:Env}: ∀ {l:List (Str × NameKind)} {x:Str} {c:Addr},(l.map fun y=>(y.1,(env.cells.lookup y.1).getD 0)).lookup x=some c->c=(env.cells.lookup x).getD 0/\ ∃ y∈l,y.1=x
 | [],x,c,h=>by simp at h
 |y :: r,x,c,h=>by
  rw[List.map_cons,List.lookup_cons] at h
  cases e:x == y.1 with
  |true=>
   rw[e] at h
   have ex:x=y.1:=by simpa using e
   cases h
   exact ⟨by rw[ex],y,List.mem_cons_self,ex.symm⟩
  |false=>
   rw[e] at h
   obtain ⟨h1,z,h2,h3⟩:=ZdU h
   exact ⟨h1,z,List.mem_cons_of_mem _ h2,h3⟩
theorem Zce {α:Type}: ∀ {l:List (Str × α)} {x:Str},(∃ y∈l,y.1=x)-> ∃ c,l.lookup x=some c
 | [],x,h=>by obtain ⟨y,h1,_⟩:=h;simp at h1
 |z :: r,x,h=>by
  rw[List.lookup_cons]
  cases e:x == z.1 with
  |true=>exact ⟨_,rfl⟩
  |false=>
   obtain ⟨y,h1,h2⟩:=h
   rcases List.mem_cons.mp h1 with q | q
   ·subst q;rw[h2] at e;simp at e
   ·exact Zce ⟨y,q,h2⟩
theorem Zaz {env:Env} (nc: ∀ n,env.scope.names.lookup n=env.kindOf n): ∀ {names:List (Str × NameKind)} {x:Str} {kd:NameKind},(names.map fun (n,k)=>if (k == NameKind.free && env.scope.kind == .function && env.kindOf n == some .cell) then (n,NameKind.cell) else (n,k)).lookup x=some kd->
  names.lookup x=some kd\/(names.lookup x=some .free/\kd= .cell)
 | [],x,kd,h=>by simp at h
 | (n,q) :: r,x,kd,h=>by
  rw[List.map_cons,List.lookup_cons] at h
  rw[List.lookup_cons]
  dsimp only at h ⊢
  by_cases c:(q == NameKind.free && env.scope.kind == .function && env.kindOf n == some .cell)=true
  ·rw[if_pos c] at h
   dsimp only at h
   cases e:x == n with
   |true=>
    rw[e] at h
    cases h
    simp only[Bool.and_eq_true,beq_iff_eq] at c
    exact .inr ⟨by rw[c.1.1],rfl⟩
   |false=>rw[e] at h;exact Zaz nc h
  ·rw[if_neg c] at h
   dsimp only at h
   cases e:x == n with
   |true=>rw[e] at h;exact .inl h
   |false=>rw[e] at h;exact Zaz nc h
theorem ZbC {env:Env}: ∀ {names:List (Str × NameKind)} {x:Str},names.lookup x=some .free->(∃ kd,(kd=NameKind.cell\/kd=NameKind.free)/\(names.map fun (n,k)=>if (k == NameKind.free && env.scope.kind == .function && env.kindOf n == some .cell) then (n,NameKind.cell) else (n,k)).lookup x=some kd)
 | [],x,h=>by simp at h
 | (n,q) :: r,x,h=>by
  rw[List.lookup_cons] at h
  rw[List.map_cons,List.lookup_cons]
  by_cases c:(q == NameKind.free && env.scope.kind == .function && env.kindOf n == some .cell)=true
  ·dsimp only
   rw[if_pos c]
   cases e:x == n with
   |true=>exact ⟨_,.inl rfl,rfl⟩
   |false=>rw[e] at h;exact ZbC h
  ·dsimp only
   rw[if_neg c]
   cases e:x == n with
   |true=>rw[e] at h;exact ⟨q,.inr (Option.some.inj h),rfl⟩
   |false=>rw[e] at h;exact ZbC h
noncomputable def Ztq (XN N:List Str) (dn sn:List (Str × NameKind)) (k:Nat) (fr:List Nat):Bool:=
 (sn.all fun y=>y.2 != .cell && (y.2 != .free || dn.lookup y.1 == some .cell) && (y.2 != .local || sn.lookup y.1 == some .local)) && N.length == k + fr.length &&
  (List.range fr.length).all fun j=>match fr[j]? with
   |some i=>(match N[k + j]?,XN[i]? with | some x,some y=>x == y && dn.lookup x == some .cell && sn.lookup x == some .free | _,_=>false)
   |none=>false
theorem Zl8 {X:Cx} {scope:Scope} {N:List Str} {k n:Nat} {fr:List Nat} {XN:List Str} {dn:List (Str × NameKind)} (hN:X.N=XN) (hd:X.env.scope.names=dn) (hc:X.env.cells=cellsFrom n dn []) (hk:scope.kind= .function) (h:Ztq XN N dn scope.names k fr=true):Blk X scope (clF scope X.env) N k fr:=by
 unfold Ztq at h
 simp only[Bool.and_eq_true,List.all_eq_true,bne_iff_ne,ne_eq,Bool.or_eq_true,beq_iff_eq] at h
 obtain ⟨⟨h1,h2⟩,h3⟩:=h
 have kind: ∀ x,X.env.kindOf x=dn.lookup x:=fun x=>by rw[<- hd];rfl
 have cel: ∀ x,dn.lookup x=some .cell-> ∃ c,X.env.cells.lookup x=some c:=fun x e=>by
  have:=PySem.W.cellsFrom_some dn n [] (.inl e)
  rw[hc]
  exact Option.isSome_iff_exists.mp this
 have frc: ∀ y∈scope.names,y.2= .free-> ∃ c,X.env.cells.lookup y.1=some c:=fun y hy e=>by
  rcases (h1 y hy).1.2 with z | z
  ·exact absurd e z
  ·exact cel _ z
 have sub: ∀ x c,(clF scope X.env).lookup x=some c->X.env.cells.lookup x=some c:=fun x c e=>by
  unfold clF at e
  rw[<- List.map_reverse] at e
  obtain ⟨e1,y,e2,e3⟩:=ZdU e
  have e4:=List.mem_filter.mp (List.mem_reverse.mp e2)
  obtain ⟨c',g⟩:=frc y e4.1 (by simpa using e4.2)
  rw[e3] at g
  rw[g] at e1 ⊢
  rw[e1]
  rfl
 have has: ∀ x,scope.names.lookup x=some .free-> ∃ c,(clF scope X.env).lookup x=some c:=fun x e=>by
  refine Zce ?_
  have m:=PySem.mem_of_lookup e
  exact ⟨(x,(X.env.cells.lookup x).getD 0),List.mem_reverse.mpr (List.mem_map.mpr ⟨(x,.free),List.mem_filter.mpr ⟨m,by simp⟩,rfl⟩),rfl⟩
 refine ⟨?_,hk,fun y hy=>(h1 y hy).1.1,fun y hy e=> ?_,sub,fun x z=> ?_,h2,fun j i e=> ?_⟩
 ·have:=ZfI (env:=X.env) scope.names [] frc
  rw[List.append_nil] at this
  unfold closureFor
  exact (congrArg (fun (m:Sem (List (Str × Addr)))=>m >>= fun cs=>(pure cs:Sem (List (Str × Addr)))) this).trans (pure_bind _ _)
 ·rcases (h1 y hy).2 with z | z
  ·exact absurd e z
  ·exact z
 ·have nc: ∀ m,X.env.scope.names.lookup m=X.env.kindOf m:=fun m=>rfl
  refine has x ?_
  rcases z with z | z
  ·rcases Zaz nc z with q | q
   ·exact absurd rfl (h1 _ (PySem.mem_of_lookup q)).1.1
   ·exact q.1
  ·rcases Zaz nc z with q | q
   ·exact q
   ·cases q.2
 ·have hj:j < fr.length:=(List.getElem?_eq_some_iff.mp e).1
  have q:=h3 j (List.mem_range.mpr hj)
  rw[e] at q
  dsimp only at q
  cases e1:N[k + j]? with
  |none=>rw[e1] at q;cases q
  |some x=>
   cases e2:XN[i]? with
   |none=>rw[e1,e2] at q;cases q
   |some y=>
    rw[e1,e2] at q
    simp only[Bool.and_eq_true,beq_iff_eq] at q
    obtain ⟨⟨q1,q2⟩,q3⟩:=q
    subst q1
    obtain ⟨kd,r1,r2⟩:=ZbC (env:=X.env) q3
    obtain ⟨c,r3⟩:=has x q3
    refine ⟨x,rfl,by rw[hN];exact e2,by rw[kind];exact q2,?_,r3.trans (sub x c r3).symm⟩
    rcases r1 with r1 | r1
    ·exact .inl (r1 ▸ r2)
    ·exact .inr (r1 ▸ r2)
section
variable {X:Cx} {ξ:XK}
noncomputable def ZcA:List D->Option (List Bool)
 | []=>some []
 | .bl b :: r=>match ZcA r with | some bs=>some (b :: bs) | none=>none
 |_ :: _=>none
noncomputable def Ztr:List D->Sto->Out D:=fun ds M=>match ds with
 | [.ref n]=>(match M[n]? with | some (.lst xs)=>(match ZcA xs with | some bs=> .ok (.bl (bs.all id)) M | none=> .bad) | none=> .bad)
 |_=> .bad
end
section
variable {prog:Program} {w:World} {A:Around} {E:Value->Shared->Prop} {s:Shared}
theorem Zec {α β:Type} {f g:α->Option β}: ∀ {l:List α},(∀ m∈l,f m=g m)->l.filterMap f=l.filterMap g
 | [],_=>rfl
 |x :: r,h=>by
  rw[List.filterMap_cons,List.filterMap_cons,h x List.mem_cons_self,Zec fun m hm=>h m (List.mem_cons_of_mem _ hm)]
theorem Zj6 (xs:Array Value):((List.range xs.size).filterMap fun (m:Nat)=>xs[((xs.size:Int) - 1 + (m:Int) * (-1)).toNat]?).toArray=xs.toList.reverse.toArray:=by
 congr 1
 apply List.ext_getElem?
 intro i
 have all:(List.range xs.size).filterMap (fun (m:Nat)=>xs[((xs.size:Int) - 1 + (m:Int) * (-1)).toNat]?)=(List.range xs.size).map fun m=>xs[xs.size - 1 - m]?.getD .none:=by
  rw[<- List.filterMap_eq_map]
  refine Zec fun m hm=> ?_
  have hm':=List.mem_range.mp hm
  have e:((xs.size:Int) - 1 + (m:Int) * (-1)).toNat=xs.size - 1 - m:=by omega
  rw[e]
  have hlt:xs.size - 1 - m < xs.size:=by omega
  simp[hlt]
 rw[all]
 by_cases hi:i < xs.size
 ·have hlt:xs.size - 1 - i < xs.size:=by omega
  rw[List.getElem?_map,List.getElem?_range hi,List.getElem?_reverse (by simpa using hi)]
  simp[hlt]
 ·rw[List.getElem?_eq_none (by simpa using hi),List.getElem?_eq_none (by simpa using hi)]
end
section
variable {X:Cx} {ξ:XK} {e:Expr} {f:Ev} {p2 p3 p4 pos:Pos} {j:Nat}
theorem Reps.rev {K:PySem.W.Frag} {H:Hp} {α:List Addr}: ∀ {vs:List V} {ds:List D},Reps K H α vs ds->Reps K H α vs.reverse ds.reverse
 |_,_,.nil=> .nil
 |_,_,.cons r t=>by
  rw[List.reverse_cons,List.reverse_cons]
  exact (Reps.rev t).append (.cons r .nil)
end
end DL
end
section
namespace DL
open PySem PySem.Spec PyProof.Rows L2
section
variable {X:Cx} {ξ:XK}
end
end DL
end
section
namespace DL
open PySem PySem.Spec PyProof.Rows L2
section
variable {M:Model} {A:Around} {E:Value->Shared->Prop} {s:Shared}
end
section
variable {X:Cx} {ξ:XK} {tg iter elt:Expr} {ifs:List Expr} {scope:Scope} {cl:List (Str × Addr)} {N:List Str} {k:Nat} {fr:List Nat} {fi:Ro->Sto->Out Src} {gt:Tg} {c:Tv} {f:Ev} {pos:Pos}
end
section
variable {X:Cx} {scope0:Scope} {cl0:List (Str × Addr)} {N0:List Str} {k0:Nat} {fr0:List Nat} {C:Addr} {fp:List Addr} {s:Shared} {H:Hp} {scope:Scope} {N:List Str} {k:Nat} {fr:List Nat} {dn:List (Str × NameKind)}
end
end DL
end
section
namespace DL
open PySem PySem.Spec PyProof.Rows L2
open PySem.W (nsIn excIn tailIn nsOkIn mroIn clsIn typeIn findIn specialIn takesIn kitOne Looks)
noncomputable abbrev bmV:List Value:=[.type "ValueError",.type "Exception",.type "BaseException",.type "object"]
noncomputable def Zl9 (K:PySem.W.Frag) (c:Str):Option Addr:=match nsIn K mainGlobals c with | some (some (.ref C))=>some C | _=>none
theorem Zj7 {K:PySem.W.Frag} {c:Str} {C:Addr} (h:Zl9 K c=some C):nsIn K mainGlobals c=some (some (.ref C)):=by
 unfold Zl9 at h
 split at h
 ·rename_i C' e;cases h;exact e
 ·cases h
noncomputable def Zj8 (K:PySem.W.Frag) (c:Str):Bool:=match Zl9 K c with
 |some C=>excIn K C bmV "ValueError.__new__" && findIn K (.ref C) "__getattribute__" == some (some (.builtin "BaseException.__getattribute__")) && findIn K (.ref C) "__getattr__" == some none && findIn K (.ref C) "__class__" == some (some (.builtin "object.__class__")) &&
  specialIn K (.builtin "object.__class__") "__get__" == some (some (.builtin "getset_descriptor.__get__")) && takesIn K (.builtin "object.__class__") == some true && mroIn K C (.type "BaseException") == some true && mroIn K C (.type "object") == some true && (clsIn K C).isSome
 |none=>false
theorem Zma {K:PySem.W.Frag} {c:Str} (h:Zj8 K c=true): ∃ C,nsIn K mainGlobals c=some (some (.ref C))/\excIn K C bmV "ValueError.__new__"=true/\DQ.ExcC K C:=by
 unfold Zj8 at h
 split at h
 ·rename_i C e
  simp only[Bool.and_eq_true,beq_iff_eq] at h
  obtain ⟨⟨⟨⟨⟨⟨⟨⟨h1,h2⟩,h3⟩,h4⟩,h5⟩,h6⟩,h7⟩,h8⟩,h9⟩:=h
  exact ⟨C,Zj7 e,h1,h2,h3,h4,h5,h6,h7,h8,h9⟩
 ·cases h
theorem Zmb {K:PySem.W.Frag} {h:Heap} {C:Addr} {bmB:List Value} {newId:String} (X:K.In h) (q:excIn K C bmB newId=true):
  ∃ bm N nm q bs hdct sn sub ab col dd k0 k1 k2 k3 k5 mN,h.get? C=some (excClassObj nm q C N bs bm hdct sn sub ab col dd k0 k1 k2 k3 k5 newId)/\h.Ns N mN/\mN "__init__"=none/\OwnTail h bmB bm:=by
 unfold excIn at q
 split at q
 ·rename_i dd cd sl ho
  split at q
  ·rename_i C' bm k0 k1 k2 k3 n k5 hm hs
   simp only[Bool.and_eq_true,beq_iff_eq,Bool.not_eq_true'] at q
   obtain ⟨⟨⟨⟨⟨rfl,rfl⟩,hdel⟩,ht⟩,hok⟩,hni⟩:=q
   obtain ⟨nm,bs,mro,ns,qn,hd,sn,sub,ab,col,del⟩:=cd
   dsimp only at hm hdel hok hni
   subst hm hdel
   obtain ⟨l⟩:=sl
   simp only at hs
   subst hs
   exact ⟨bm,ns,nm,qn,bs,hd,sn,sub,ab,col,dd,k0,k1,k2,k3,k5,_,X _ _ ho,.of_isNs (PySem.W.isNs_of_in X hok),PySem.W.nsMap_none_of_in X hok hni,PySem.W.tail_of_in X ht⟩
  ·cases q
 ·cases q
noncomputable def Zts (tab:List (Str × Bool)) (f:Ev):Ev:=fun ρ M=>(f ρ M).bind fun x M1=>match x with | .err c _=>(match tab.lookup c with | some b=> .ok (.bl b) M1 | none=> .bad) | _=> .bad
section
variable {X:Cx} {ξ:XK} {e:Expr} {fa:Ev} {p pos:Pos} {tab:List (Str × Bool)}
noncomputable def ZcB (c:Str) (fs:Av):Sv:=fun ρ M=>ZaS (fs ρ M) fun ds M1=>if ds.length<=1000 then .exc c M1 else .bad
theorem Zed {x:Str} {np cpos:Pos} {a:Expr} {as:List Expr} {fs:Av} (T:Thr X ξ) (hx:Zj8 X.K x=true) (gl: ∀ c v,nsIn X.K mainGlobals c=some (some v)->X.mg c=some v) (hh:X.A.handled=none) (ha:DA X ξ (a :: as) fs) (hg:Gl X x:=by rfl) (hdb:(x == ("__debug__":Str))=false:=by decide)
  (he:starEach (a :: as) X.env=(false,eval a X.env) :: starEach as X.env:=by rfl) (hpl:(backTo cpos (starEach as X.env)).any (·.1)=false:=by rfl):DS X ξ (.Raise (some (.Call (.Name x np) (a :: as) [] cpos)) none pos) (ZcB x fs):=by
 obtain ⟨ta,pa,qa⟩:=ha
 obtain ⟨C,hC,hq,_⟩:=Zma hx
 refine ⟨fun Dn σ H=>ta σ H fun vs H1=>vs.length<=sizeLine/\ξ (.ref C) none H1,fun pins s σ H Dn I h=> ?_,fun σ ρ H α M Dn s h q=> ?_⟩
 ·obtain ⟨tl,N,nm,q,bs,hdct,sn,sub,ab,col,dd,k0,k1,k2,k3,k5,mN,gC,hN,hni,TL⟩:=Zmb I.ok.mod.kin hq
  refine wpAny_Raise_call_subT (C:=C) (nm:=nm) (q:=q) (N:=N) (bs:=bs) (bm:=tl) (hdct:=hdct) (sn:=sn) (sub:=sub) (ab:=ab) (col:=col) (dd:=dd) (k0:=k0) (k1:=k1) (k2:=k2) (k3:=k3) (k5:=k5) F.excBase_ValueError (mN:=mN)
   (TL.hasType F.excBase_ValueError.hasBase) hh (by rw[he];show (false || (backTo cpos (starEach as X.env)).any (·.1))=false;rw[hpl];rfl) hni (ZhA I hg (gl x _ hC) ⟨rfl,?_⟩ hdb)
  have hs:=pa cpos pins s σ H _ I h
  rw[he] at hs ⊢
  refine Calls.evalArgs_plain (wpAny_mono hs (fun us s2 ⟨vs,H1,I1,r1,z1,z2⟩=>⟨rfl,by rw[<- r1.length];exact z1,I1.bk _ _ gC,hN.keeps I1.bk,TL.keeps I1.bk,fun h' e m=> ?_⟩) fun _ _ y=>y)
  obtain ⟨t,g1,g2,g3⟩:=m.there
  exact T.mak pins σ H1 s2 h' e _ _ C I1 m.keeps m.new g1 rfl rfl rfl rfl rfl z2
 ·refine qa σ ρ H α M _ s h (FP.seq q fun ds M1 vs H1 α1 e1 h1 r1 w1=> ?_)
  by_cases hl:ds.length<=1000
  ·rw[if_pos hl] at w1
   exact ⟨by rw[r1.length];exact ZlX hl,w1 C H1 α1 hC Ext.refl h1⟩
  ·rw[if_neg hl] at w1
   exact w1.elim
end
end DL
end
section
namespace DL
open PySem PySem.Spec PyProof.Rows L2
open PySem.W (nsIn excIn tailIn nsOkIn mroIn clsIn typeIn findIn specialIn takesIn kitOne Looks looks_mroIn looks_typeIn)
section
variable {X:Cx} {pins pins' pn:List (Addr × Obj)} {σ:L2.St} {H H':Hp} {s:Shared} {xe:Value->Shared->Prop} {e:Addr}
end
noncomputable def Ztt (gb:Sv) (cs:List Str) (i:Nat) (gh:Sv):Sv:=fun ρ M=>match gb ρ M with
 | .exc c M1=>if cs.contains c=true then (match gh ((List.replicate ρ.length none).set i (some (.err c []))) M1 with
  | .ret d M2=> .ret d M2
  | .nx _ M2=> .nx (List.replicate ρ.length none) M2
  |_=> .bad) else .bad
 |o=>o
section
variable {X:Cx} {ξ:XK} {d n:Str} {cs:List Str} {i:Nat} {body suite:List Stmt} {b0:Stmt} {gb gh:Sv} {pos hpos np:Pos}
end
theorem Zw {k:Nat} {A:Around} {env:Env} (hr:Room k (A.deeper env)) (h:100<=k):A.handled.isNone=true:=by
 have e:A.handled=none:=hr.hd h
 rw[e]
 rfl
end DL
end
section
namespace DL
open PySem PySem.Spec PyProof.Rows L2
noncomputable abbrev Me:=D->List D->Sto->Out D
noncomputable def MO (X:Cx) (ξ:XK) (r:V->List V->Hp->VK->Prop) (g:Me):Prop:= ∀ H α M v vs x ds Q,HR X.K H α M->Rep X.K H α v x->Reps X.K H α vs ds->OP X.K H α ξ Q (g x ds M)->r v vs H Q
theorem HR.wrE {K:PySem.W.Frag} {H:Hp} {α:List Addr} {M:Sto} {n:Nat} {p:Addr} {xs ys:List V} {ds:List D} (h:HR K H α M) (e:RefK H α 0 n p) (hp:H p=some (.lst ys)) (r:Reps K H α xs ds):Ext K H (upd H p (.lst xs)) α α/\HR K (upd H p (.lst xs)) α (M.set n (.lst ds)):=
 ⟨Ext.wr hp,h.wr e hp r⟩
section
variable {X:Cx} {ξ:XK} {o e:Expr} {es:List Expr} {fo fa:Ev} {fs:Av} {name:Str} {apos cpos pos:Pos} {T id:String} {r:V->List V->Hp->VK->Prop} {g:Me}
noncomputable def Zmc (x:D) (M:Sto):Bool:=match x with | .ref n=>M[n]?.isSome | _=>false
noncomputable def Zjw (g:Me) (fo:Ev) (fs:Av):Ev:=fun ρ M=>(fo ρ M).bind fun x M1=>if Zmc x M1=true then (fs ρ M1).bind fun ds M2=>g x ds M2 else .bad
theorem Zmd {K:PySem.W.Frag} {H:Hp} {α:List Addr} {M:Sto} {v:V} {x:D} (h:HR K H α M) (rx:Rep K H α v x) (k:Zmc x M=true):tyV K "list" v H:=by
 cases rx with
 | @ref p n hp=>
  obtain ⟨xs,g⟩:=h.some_at hp
  exact .inl ⟨rfl,_,SqL.of g⟩
 |_=>cases k
theorem Zme (slot:Slot "list" name id) (hty:typeOf (.builtin id)=pure (.type "method_descriptor")) (hm:MtR X id r) (hf:MO X ξ r g) (ho:DE X ξ o fo) (ha:DA X ξ (e :: es) fs)
  (hbase:attributeBase o name X.env (eval o X.env)=eval o X.env:=by rfl)
  (hfew:((backTo cpos (starEach (e :: es) X.env)).all (fun x=> !x.1) && (backToKw cpos (keywordEach [] X.env)).all (fun x=>x.1.isSome)
   && decide ((e :: es).length + ([]:List Keyword).length + (if ([]:List Keyword).isEmpty then 0 else 1) < 30))=true:=by rfl)
  (hline:(apos.endLine == cpos.line)=true:=by rfl) (hs:starEach (e :: es) X.env=(false,eval e X.env) :: starEach es X.env:=by rfl) (hplain:(backTo cpos (starEach es X.env)).any (·.1)=false:=by rfl):
  DE X ξ (.Call (.Attribute o name apos) (e :: es) [] cpos) (Zjw g fo fs):=by
 obtain ⟨to,po,qo⟩:=ho
 obtain ⟨ta,pa,qa⟩:=ha
 refine ⟨_,Zrg PySem.F.plainAttrs_list slot hty hm po pa hbase hfew hline hs hplain,fun σ ρ H α M Q s h q=> ?_⟩
 refine qo σ ρ H α M _ s h (OG.seq q fun x M1 v H1 α1 e1 h1 r1 q1=> ?_)
 by_cases k:Zmc x M1=true
 ·rw[if_pos k] at q1
  exact ⟨Zmd h1 r1 k,qa σ ρ H1 α1 M1 _ (s.mono e1) h1 (OG.seq q1 fun ds M2 vs H2 α2 e2 h2 r2 q2=>hf H2 α2 M2 v vs x ds Q h2 (Rep.mono e2 r1) r2 q2)⟩
 ·rw[if_neg k] at q1
  exact q1.elim
noncomputable def mApp:Me:=fun x ds M=>match x,ds with
 | .ref n,[d]=>(match M[n]? with | some (.lst xs)=>if xs.length < 10000000 then .ok .non (M.set n (.lst (xs ++ [d]))) else .bad | none=> .bad)
 |_,_=> .bad
theorem Zos:MO X ξ rAppend mApp:=by
 intro H α M v vs x ds Q h rx rs q
 cases rx with
 | @ref p n hp=>
  match rs with
  | .nil=>exact q.elim
  | .cons _ (.cons _ _)=>exact q.elim
  | .cons (v:=u) (d:=d) ru .nil=>
   cases em:M[n]? with
   |none=>simp only[mApp,em] at q;exact q.elim
   |some so=>
    cases so with
    |lst es=>
     obtain ⟨xs,g1,g2⟩:=h.at hp em
     by_cases c:es.length < 10000000
     ·simp only[mApp,em,if_pos c] at q
      obtain ⟨k1,k2⟩:=h.wrE hp g1 (g2.append (.cons ru .nil))
      exact ⟨p,xs,u,rfl,rfl,g1,by rw[g2.length];exact Nat.lt_of_lt_of_le c (by decide),q _ _ α k1 k2 .non⟩
     ·simp only[mApp,em,if_neg c] at q
      exact q.elim
 |_=>cases rs<;>exact q.elim
noncomputable def Ztu:Me:=fun x ds M=>match x,ds with
 | .ref n,[]=>(match M[n]? with | some (.lst _)=> .ok .non (M.set n (.lst [])) | none=> .bad)
 |_,_=> .bad
noncomputable def mExt:Me:=fun x ds M=>match x,ds with
 | .ref n,[.ref m]=>(match M[n]?,M[m]? with | some (.lst xs),some (.lst ys)=>if xs.length + ys.length<=10000000 then .ok .non (M.set n (.lst (xs ++ ys))) else .bad | _,_=> .bad)
 |_,_=> .bad
theorem Zie {x:D} {l:List D} {M:Sto} (h:mExt x l M≠ .bad): ∃ n m,x= .ref n/\l=[.ref m]:=by
 unfold mExt at h
 split at h
 ·rename_i n m;exact ⟨n,m,rfl,rfl⟩
 ·exact absurd rfl h
theorem Zot:MO X ξ rExtend mExt:=by
 intro H α M v vs x ds Q h rx rs q
 obtain ⟨n,m,rfl,rfl⟩:=Zie (x:=x) (l:=ds) (M:=M) fun z=>by rw[z] at q;exact q.elim
 cases rx with
 | @ref p n hp=>
 cases rs with
 |cons ru rs=>
 cases rs
 cases ru with
 | @ref p2 m hp2=>
 cases em:M[n]? with
 |none=>simp only[mExt,em] at q;exact q.elim
 |some so=>
 cases em2:M[m]? with
 |none=>cases so;simp only[mExt,em,em2] at q;exact q.elim
 |some so2=>
 cases so with
 |lst es=>
 cases so2 with
 |lst es2=>
 obtain ⟨xs,g1,g2⟩:=h.at hp em
 obtain ⟨ys,g3,g4⟩:=h.at hp2 em2
 by_cases c:es.length + es2.length<=10000000
 ·simp only[mExt,em,em2,if_pos c] at q
  obtain ⟨k1,k2⟩:=h.wrE hp g1 (g2.append g4)
  exact ⟨p,p2,xs,ys,rfl,rfl,g1,g3,by rw[g2.length,g4.length];exact Nat.le_trans c (by decide),q _ _ α k1 k2 .non⟩
 ·simp only[mExt,em,em2,if_neg c] at q
  exact q.elim
theorem Zde (ho:DE X ξ o fo) (ha:DE X ξ e fa) (hbase:attributeBase o "append" X.env (eval o X.env)=eval o X.env:=by rfl)
  (hfew:((backTo cpos (starEach [e] X.env)).all (fun x=> !x.1) && (backToKw cpos (keywordEach [] X.env)).all (fun x=>x.1.isSome)
   && decide ([e].length + ([]:List Keyword).length + (if ([]:List Keyword).isEmpty then 0 else 1) < 30))=true:=by rfl)
  (hline:(apos.endLine == cpos.line)=true:=by rfl) (hs:starEach [e] X.env=(false,eval e X.env) :: starEach [] X.env:=by rfl) (hplain:(backTo cpos (starEach [] X.env)).any (·.1)=false:=by rfl):
  DE X ξ (.Call (.Attribute o "append" apos) [e] [] cpos) (Zjw mApp fo (Zc fa aNil)):=Zme PySem.F.slot_list_append PySem.F.type_list_append ZeL Zos ho (Za ha Zd hs) hbase hfew hline hs hplain
noncomputable def DO (X:Cx) (ξ:XK) (e:Option Expr) (f:Ro->Sto->Out (Option Int)):Prop:= ∃ t:TO,PO X e t/\ ∀ σ ρ H α M (Q:Option Int->Hp->Prop),SR X.K H α σ ρ->HR X.K H α M->OG X.K (fun _ _ v d=>v=d) H α ξ Q (f ρ M)->t σ H Q
noncomputable def oNo:Ro->Sto->Out (Option Int):=fun _ M=> .ok none M
noncomputable def oSo (f:Ev):Ro->Sto->Out (Option Int):=fun ρ M=>(f ρ M).bind fun x M1=>match x with | .int i=> .ok (some i) M1 | _=> .bad
theorem Zdf:DO X ξ none oNo:=⟨_,ZlM,fun σ ρ H α M Q s h q=>q none H α Ext.refl h rfl⟩
theorem Zdg (ha:DE X ξ e fa):DO X ξ (some e) (oSo fa):=by
 obtain ⟨ta,pa,qa⟩:=ha
 refine ⟨_,ZlN pa,fun σ ρ H α M Q s h q=> ?_⟩
 refine qa σ ρ H α M _ s h (OG.seq q fun x M1 v H1 α1 e1 h1 r1 q1=> ?_)
 cases r1 with
 |int i=>exact ⟨i,rfl,q1 (some i) H1 α1 Ext.refl h1 rfl⟩
 |_=>exact q1.elim
noncomputable def ZfJ (xs:List D) (lo hi:Option Int):List D:=(xs.drop (HT.sIx xs.length 0 lo)).take (HT.sIx xs.length xs.length hi - HT.sIx xs.length 0 lo)
theorem Reps.drop {K:PySem.W.Frag} {H:Hp} {α:List Addr}: ∀ (n:Nat) {vs:List V} {ds:List D},Reps K H α vs ds->Reps K H α (vs.drop n) (ds.drop n)
 |0,_,_,h=>h
 |_ + 1,_,_,.nil=> .nil
 |n + 1,_,_,.cons _ t=>Reps.drop n t
theorem Reps.take {K:PySem.W.Frag} {H:Hp} {α:List Addr}: ∀ (n:Nat) {vs:List V} {ds:List D},Reps K H α vs ds->Reps K H α (vs.take n) (ds.take n)
 |0,_,_,_=> .nil
 |_ + 1,_,_,.nil=> .nil
 |n + 1,_,_,.cons r t=> .cons r (Reps.take n t)
theorem Reps.cut {K:PySem.W.Frag} {H:Hp} {α:List Addr} {vs:List V} {ds:List D} (r:Reps K H α vs ds) (lo hi:Option Int):Reps K H α (ZkN vs lo hi) (ZfJ ds lo hi):=by
 unfold ZkN ZfJ
 rw[r.length]
 exact (r.drop _).take _
noncomputable def eSl (f:Ev) (lo hi:Ro->Sto->Out (Option Int)):Ev:=fun ρ M=>(f ρ M).bind fun x M1=>(lo ρ M1).bind fun l M2=>(hi ρ M2).bind fun u M3=>match x with
 | .ref n=>(match M3[n]? with | some (.lst xs)=> .ok (.ref M3.length) (M3 ++ [.lst (ZfJ xs l u)]) | none=> .bad)
 | .rol xs=> .ok (.ref M3.length) (M3 ++ [.lst (ZfJ xs l u)])
 | .tup xs=>if HT.sIx xs.length 0 l=0/\HT.sIx xs.length xs.length u=xs.length then .bad else .ok (.tup (ZfJ xs l u)) M3
 |_=> .bad
theorem Zdh {lo hi:Option Expr} {fl fh:Ro->Sto->Out (Option Int)} {p2:Pos} (he:DE X ξ e fa) (hl:DO X ξ lo fl) (hh:DO X ξ hi fh):DE X ξ (.Subscript e (.Slice lo hi none p2) pos) (eSl fa fl fh):=by
 obtain ⟨ta,pa,qa⟩:=he
 obtain ⟨tl,pl,ql⟩:=hl
 obtain ⟨th,ph,qh⟩:=hh
 refine ⟨_,ZjJ (SlR.or ZlS Zn1) pa pl ph,fun σ ρ H α M Q s h q=> ?_⟩
 refine qa σ ρ H α M _ s h (OG.seq q fun x M1 v H1 α1 e1 h1 r1 q1=> ?_)
 refine ql σ ρ H1 α1 M1 _ (s.mono e1) h1 (OG.seq q1 fun l M2 l' H2 α2 e2 h2 r2 q2=> ?_)
 refine qh σ ρ H2 α2 M2 _ ((s.mono e1).mono e2) h2 (OG.seq q2 fun u M3 u' H3 α3 e3 h3 r3 q3=> ?_)
 cases r2
 cases r3
 cases Rep.mono e3 (Rep.mono e2 r1) with
 | @ref p n hp=>
  cases em:M3[n]? with
  |none=>simp only[em] at q3;exact q3.elim
  |some so=>
   cases so with
   |lst es=>
    simp only[em] at q3
    obtain ⟨xs,g1,g2⟩:=h3.at hp em
    exact .inl ⟨p,xs,rfl,SqL.of g1,fun a ha=>q3 _ _ (α3 ++ [a]) (Ext.new ha) (h3.new ha (g2.cut l u)) (.ref ⟨h3.last a,Kn.lst ZC⟩)⟩
 | @rol p xs ds hp rp=>
  have q4:OP X.K H3 α3 ξ Q (.ok (.ref M3.length) (M3 ++ [.lst (ZfJ ds l u)])):=q3
  exact .inl ⟨p,xs,rfl,hp.sq,fun a ha=>q4 _ _ (α3 ++ [a]) (Ext.new ha) (h3.new ha (rp.cut l u)) (.ref ⟨h3.last a,Kn.lst ZC⟩)⟩
 | @tup p xs ds hp rp=>
  by_cases c:HT.sIx ds.length 0 l=0/\HT.sIx ds.length ds.length u=ds.length
  ·simp only[if_pos c] at q3
   exact q3.elim
  ·simp only[if_neg c] at q3
   exact .inr ⟨p,xs,rfl,(SqT.of hp),by rw[rp.length];exact c,fun a ha=>q3 _ _ α3 (Ext.new0 ha) (h3.tup ha) (.tup ZC (Reps.mono (Ext.new0 ha) (rp.cut l u)))⟩
 |_=>exact q3.elim
noncomputable def iR2 (fs:Av):Ro->Sto->Out Src:=fun ρ M=>(fs ρ M).bind fun ds M1=>match ds with
 | [.int i,.int j]=>if -(2 ^ 62)<=i/\i < 2 ^ 62/\ -(2 ^ 62)<=j/\j < 2 ^ 62 then .ok (.pur (Zby i (j - i).toNat)) M1 else .bad
 |_=> .bad
end
noncomputable def eRv (f:Ev):Ev:=fun ρ M=>(f ρ M).bind fun x M1=>match x with
 | .tup xs=> .ok (.tup xs.reverse) M1
 | .ref n=>(match M1[n]? with | some (.lst xs)=> .ok (.ref M1.length) (M1 ++ [.lst xs.reverse]) | none=> .bad)
 | .rol xs=> .ok (.ref M1.length) (M1 ++ [.lst xs.reverse])
 |_=> .bad
end DL
end
section
namespace DL
open PySem PySem.Spec PyProof.Rows L2
noncomputable def Zgu (tg:Tg) (g:Sv) (src:Src):Nat->Nat->Ro->Sto->Fl
 |f,i,ρ,M=>match nxt src i M with
  |none=> .bad
  |some none=> .nx ρ M
  |some (some d)=>(match f with
   |0=> .bad
   |f + 1=>(match tg d ρ with
    |none=> .bad
    |some ρ1=>(match g ρ1 M with
     | .nx ρ2 M2=>Zgu tg g src f (i + 1) ρ2 M2
     | .cnt ρ2 M2=>Zgu tg g src f (i + 1) ρ2 M2
     | .brk ρ2 M2=> .nx ρ2 M2
     |o=>o)))
noncomputable def ZfK (tg:Tg) (fi:Ro->Sto->Out Src) (g:Sv):Sv:=fun ρ M=>ZaS (fi ρ M) fun src M1=>Zgu tg g src (cnt src M1) 0 ρ M1
section
variable {X:Cx} {ξ:XK} {tg iter a b:Expr} {gt:Tg} {fi:Ro->Sto->Out Src} {g:Sv} {body:List Stmt} {f fa fb:Ev} {fs:Av} {p pos:Pos}
theorem ZfL (hp:PassesOwn (model X.prog X.w) X.A X.env X.xe) (hi:DI X ξ tg iter fi) (hg:DG X tg gt) (hb:DSs X ξ body g) (hf: ∀ x,foldedSetIterable iter X.env x=pure x:=by intro _;rfl):DS X ξ (.For tg iter body [] pos) (ZfK gt fi g):=by
 obtain ⟨wi,pi,qi⟩:=hi
 obtain ⟨tt,pt,qt⟩:=hg
 obtain ⟨tb,pb,qb⟩:=hb
 refine ⟨_,ZhD hp pi pt pb hf,fun σ ρ H α M Dn s hh w=>qi σ ρ H α M _ s hh (FP.seq w fun src M1 J H1 α1 e1 h1 sc w1=> ?_)⟩
 generalize eo:Zgu gt g src (cnt src M1) 0 ρ M1=o at w1
 refine ⟨fun i m σ' H'=> ∃ ρ' α' M',Ext X.K H1 H' α1 α'/\SR X.K H' α' σ' ρ'/\HR X.K H' α' M'/\Zgu gt g src m i ρ' M'=o,⟨cnt src M1,ρ,α1,M1,Ext.refl,s.mono e1,h1,eo⟩,?_⟩
 rintro i m σ' H' ⟨ρ',α',M',ex,sr,hr,en⟩
 have s5:=sc i H' α' M' ex hr
 unfold Zgu at en
 cases en1:nxt src i M' with
 |none=>rw[en1] at en;cases en;exact w1.elim
 |some od=>
  rw[en1] at en s5
  cases od with
  |none=>cases en;exact .inl ⟨s5,w1 σ' H' α' ex hr sr⟩
  |some d=>
   obtain ⟨go,yl⟩:=s5
   cases m with
   |zero=>cases en;exact w1.elim
   |succ m=>
    simp only at en
    refine .inr ⟨go,fun σ2 H2=> ∃ ρ' α' M',Ext X.K H1 H2 α1 α'/\SR X.K H2 α' σ2 ρ'/\HR X.K H2 α' M'/\Zgu gt g src m (i + 1) ρ' M'=o,fun σ2 H2 z=>⟨m,Nat.lt_succ_self m,z⟩,fun x H2 y=> ?_⟩
    obtain ⟨ex7,hr7,rp7⟩:=yl x H2 y
    exact Zj4 (tg:=tg) w1 qt qb (ex.trans ex7) (sr.mono ex7) hr7 rp7 en (fun σ' H' z=>z)
end
theorem Zif {X:Cx} {pins:List (Addr × Obj)} {σ:L2.St} {H:Hp} {s:Shared} {h':Heap} {t':Nat} {ch:List Addr} (I:Inv X pins σ H s) (k: ∀ b o,b ∉ ch->s.heap.get? b=some o->h'.get? b=some o) (hf: ∀ b∈ch,ZdP X pins H b):Inv X pins σ H { s with heap:=h',toks:=t' }:=by
 have nit: ∀ b u,H b=some u->b ∉ ch:=fun b u e z=>by rw[(hf b z).1] at e;cases e
 have hL:X.env.locals ∉ ch:=fun z=>(hf _ z).2.1 rfl
 refine I.step (g':=s.gens) (d':=s.drawn) (ch:=ch) (fun b hb=> ?_) (fun b o _ _ hc e _=>k b o hc e) (fun b o _ _ hc e _=>⟨o.slots,k b o hc e⟩) (fun _ _ _ _ n=>n)
  (fun b o hc e=>⟨o,k b o hc e⟩) (fun _ _ e=>e) (fun _ _ _ e=>e) (fun b ps e=>⟨#[],by rw[e];simp⟩) (fun m hm=> ?_) (fun b u e=> ?_) I.bare
 ·obtain ⟨_,z1,_,z3,z4,z5⟩:=hf b hb
  exact ⟨z3,z1,z4,z5⟩
 ·obtain ⟨o,es,ep,ho,r⟩:=hm
  exact ⟨o,es,ep,k _ o hL ho,r⟩
 ·refine (I.hok b u e).stay (fun c v hc q=>k c v ?_ q) (fun _ q=>q) fun _ _ q=>q
  rcases hc with z | z
  ·rw[z];exact nit b u e
  ·exact nit c _ z
theorem ZkX {X:Cx} {pins:List (Addr × Obj)} {σ:L2.St} {H:Hp} {s:Shared} {h':Heap} {t':Nat} {ch:List Addr} {vs:List V} {us:List Value} (I:Inv X pins σ H s) (hf: ∀ b∈ch,ZdP X pins H b) (hlt: ∀ b∈ch,b < s.heap.objs.size) (rv:ZX vs us) (hz:vs.length<=sizeLine)
  (k: ∀ b o,b ∉ ch->s.heap.get? b=some o->h'.get? b=some o) (ht:h'.get? s.heap.objs.size=some { cls:= .type "tuple",data:= .seq us.toArray }):
  Inv X pins σ (upd H s.heap.objs.size (.tup vs)) { s with heap:=h',toks:=t' }/\H s.heap.objs.size=none/\ ∀ b∈ch,upd H s.heap.objs.size (.tup vs) b=none:=by
 have fr:H s.heap.objs.size=none:=I.hok.fresh (Nat.le_refl _)
 have hn: ∀ b∈ch,upd H s.heap.objs.size (.tup vs) b=none:=fun b hb=>by rw[ZP (Nat.ne_of_lt (hlt b hb))];exact (hf b hb).1
 have I1:Inv X pins σ (upd H s.heap.objs.size (.tup vs)) { s with heap:=s.heap.push { cls:= .type "tuple",data:= .seq us.toArray },toks:=t' }:=
  I.laid (t':=t') (o:= .tup vs) (fun _ _ q=>Heap.get?_push_of_some _ q) (Nat.le_refl _) ⟨hz,us,rv,_,Heap.get?_push_size _ rfl,rfl,_,rfl⟩
 refine ⟨Zif (s:={ s with heap:=s.heap.push { cls:= .type "tuple",data:= .seq us.toArray },toks:=t' }) (t':=t') (ch:=ch) I1 (fun b o hb e=> ?_) (fun b hb=>⟨hn b hb,(hf b hb).2⟩),fr,hn⟩
 by_cases c:b=s.heap.objs.size
 ·subst c
  have e':(s.heap.push { cls:= .type "tuple",data:= .seq us.toArray }).get? s.heap.objs.size=some o:=e
  rw[Heap.get?_push_size _ rfl] at e'
  cases e'
  exact ht
 ·refine k b o hb ?_
  have e':(s.heap.push { cls:= .type "tuple",data:= .seq us.toArray }).get? b=some o:=e
  have hl:b < s.heap.objs.size:=by
   have q:b < s.heap.objs.size + 1:=by
    have z:=Heap.lt_size e'
    rwa [Heap.size_push] at z
   exact Nat.lt_of_le_of_ne (Nat.le_of_lt_succ q) c
  have q:(s.heap.push { cls:= .type "tuple",data:= .seq us.toArray }).get? b=s.heap.get? b:=by
   unfold Heap.get? Heap.push
   simp only[Array.getElem?_push]
   rw[if_neg (Nat.ne_of_lt hl)]
  rwa [q] at e'
noncomputable def Ite (K:PySem.W.Frag) (a:Addr):It:=
 ⟨fun i H=> ∃ xs x,SqL K H a xs/\xs[i]?=some x,fun i H y H'=> ∃ p,H p=none/\y= .ref p/\ ∀ xs x,SqL K H a xs->xs[i]?=some x->H'=upd H p (.tup [.int i,x]),fun i H=> ∃ xs,SqL K H a xs/\xs.length<=i⟩
noncomputable def Itz (K:PySem.W.Frag) (a b:Addr):It:=
 ⟨fun i H=> ∃ xs ys x y,SqL K H a xs/\SqL K H b ys/\xs[i]?=some x/\ys[i]?=some y,fun i H v H'=> ∃ p,H p=none/\v= .ref p/\ ∀ xs ys x y,SqL K H a xs->SqL K H b ys->xs[i]?=some x->ys[i]?=some y->H'=upd H p (.tup [x,y]),
  fun i H=> ∃ xs ys,SqL K H a xs/\SqL K H b ys/\(xs.length<=i\/ys.length<=i)⟩
theorem Zig {P:Program} {w:World} {K:PySem.W.Frag} {B:Around} {elts:List Expr} {k0:Nat} {tp:Pos} (hB:B.handled=none) (a e it:Addr) (hne:e≠it):
  Turn P w K B (.Tuple elts k0 tp) (Ite K a) [e,it] e (fun i h=>(∃ old,IsEnum h e it (i:Int) old)/\h.IsListIter it a i) where
 mem:=by simp
 obj:=fun i h st b hb=>by
  obtain ⟨⟨old,h1⟩,o,e2,c2,d2⟩:=st
  rcases List.mem_cons.mp hb with z | z
  ·subst z;exact ⟨_,h1,fun v z=>by cases z⟩
  ·have z':b=it:=by simpa using z
   subst z'
   exact ⟨o,e2,fun v z=>by rw[d2] at z;cases z⟩
 keep:=fun i h h' st k=>⟨let ⟨old,z⟩:=st.1;⟨old,k e (by simp) _ z⟩,st.2.at fun o z=>k it (by simp) o z⟩
 item:=by
  intro X hP hw hK hA i pins s σ H E I hf st hg
  subst hP hw hK hA
  obtain ⟨⟨old,h1⟩,h2⟩:=st
  obtain ⟨xs,x,hq,hx⟩:=hg
  obtain ⟨its,rv,p,hz⟩:=I.list hq
  obtain ⟨u,hu,ru⟩:=rv.get hx
  have lt: ∀ b∈[e,it],b < s.heap.objs.size:=fun b hb=>by
   rcases List.mem_cons.mp hb with z | z
   ·subst z;exact Heap.lt_size h1
   ·have z':b=it:=by simpa using z
    subst z'
    obtain ⟨o,e2,_⟩:=h2
    exact Heap.lt_size e2
  refine wpAny_pyNext_enum_item h1 h2 p.isList (x:=u) (by simpa using hu) hne fun h' o1 o2 o3 o4 o5=>⟨_,rfl,?_⟩
  refine wpAny_letOwnedTupleGo_enum (s:={ s with heap:=h',toks:=s.toks + 1 }) o1 fun h'' q1 q2=> ?_
  have pe:s.heap.objs.size≠e:=Nat.ne_of_gt (lt e (by simp))
  have ie:it≠e:=Ne.symm hne
  obtain ⟨J1,J2,J3⟩:=ZkX (h':=h'') (t':=s.toks + 1) (ch:=[e,it]) (vs:=[.int i,x]) (us:=[.int i s.toks,u]) I hf lt (.cons ⟨_,rfl⟩ (.cons ru .nil)) (by show 2<=sizeLine;decide)
   (fun b o hb z=>by
    have n1:b≠e:=fun y=>hb (by simp[y])
    have n2:b≠it:=fun y=>hb (by simp[y])
    exact (q2.2 b n1).trans (o5 b o n1 n2 z)) ((q2.2 _ pe).trans o3)
  refine ⟨.ref s.heap.objs.size,_,J1,rfl,⟨_,J2,rfl,fun ys y hy hy2=> ?_⟩,⟨⟨u,by simpa using q1⟩,o2.at fun o z=>(q2.2 it ie).trans z⟩,J3⟩
  rw[I.list_inj hy hq,hx] at hy2
  cases hy2
  rfl
 done:=by
  intro X hP hw hK hA i pins s σ H E I hf st hg
  subst hP hw hK hA
  obtain ⟨⟨old,h1⟩,h2⟩:=st
  obtain ⟨xs,hq,hx⟩:=hg
  obtain ⟨its,rv,p,hz⟩:=I.list hq
  obtain ⟨f0,f1,f2,f3,f4,f5⟩:=hf it (by simp)
  refine wpAny_pyNext_enum_end hB h1 h2 p.isList (by simp only[List.getElem?_toArray];exact List.getElem?_eq_none (by rw[<- rv.length];exact hx)) fun h' ext=>⟨rfl,?_⟩
  exact I.turned (t':=s.toks) (it:=it) (fun b o hb z=>ext b o hb z) f0 f1 f3 f4 f5
 self:=fun A i s Q E st q=>by
  obtain ⟨⟨old,h1⟩,_⟩:=st
  have hT:s.TypeIs (.ref e) "enumerate":=⟨_,h1,rfl⟩
  refine wpAny_pyIter_slot hT F.slot_enumerate_iter (wpAny_call_entry F.slot_enumerate_iter hT F.entry_enumerate_iter ?_ (F.args_enumerate_iter_1 _))
  show wpAny _ _ (ret (.ref e)) _ _ s
  exact wpAny_pure ⟨_,rfl,"enumerate",_,hT,F.slot_enumerate_next.lookup,q⟩
theorem Zj9 {P:Program} {w:World} {K:PySem.W.Frag} {B:Around} {elts:List Expr} {k0:Nat} {tp:Pos} (hB:B.handled=none) {z TI TO i1 i2 a b:Addr} (D:ZipApart z TI TO i1 i2 a b):
  Turn P w K B (.Tuple elts k0 tp) (Itz K a b) [z,TI,TO,i1,i2] z (fun i h=>IsZip h z TI TO .none/\IsPair h TI (.ref i1) (.ref i2)/\(∃ x y,IsPair h TO x y)/\h.IsListIter i1 a i/\h.IsListIter i2 b i) where
 mem:=by simp
 obj:=fun i h st c hc=>by
  obtain ⟨h1,h2,⟨x,y,h3⟩,⟨o4,e4,c4,d4⟩,⟨o5,e5,c5,d5⟩⟩:=st
  simp only[List.mem_cons,List.not_mem_nil,or_false] at hc
  rcases hc with rfl | rfl | rfl | rfl | rfl
  ·exact ⟨_,h1,fun v q=>by cases q⟩
  ·exact ⟨_,h2,fun v q=>by cases q⟩
  ·exact ⟨_,h3,fun v q=>by cases q⟩
  ·exact ⟨o4,e4,fun v q=>by rw[d4] at q;cases q⟩
  ·exact ⟨o5,e5,fun v q=>by rw[d5] at q;cases q⟩
 keep:=fun i h h' st k=>by
  obtain ⟨h1,h2,⟨x,y,h3⟩,h4,h5⟩:=st
  exact ⟨k z (by simp) _ h1,k TI (by simp) _ h2,⟨x,y,k TO (by simp) _ h3⟩,h4.at fun o q=>k i1 (by simp) o q,h5.at fun o q=>k i2 (by simp) o q⟩
 item:=by
  intro X hP hw hK hA i pins s σ H E I hf st hg
  subst hP hw hK hA
  obtain ⟨h1,h2,⟨x0,y0,h3⟩,h4,h5⟩:=st
  obtain ⟨xs,ys,x,y,hq,hq2,hx,hy⟩:=hg
  obtain ⟨its,rv,p,hz⟩:=I.list hq
  obtain ⟨its2,rv2,p2,hz2⟩:=I.list hq2
  obtain ⟨u,hu,ru⟩:=rv.get hx
  obtain ⟨u2,hu2,ru2⟩:=rv2.get hy
  have lt: ∀ c∈[z,TI,TO,i1,i2],c < s.heap.objs.size:=fun c hc=>by
   simp only[List.mem_cons,List.not_mem_nil,or_false] at hc
   rcases hc with rfl | rfl | rfl | rfl | rfl
   ·exact Heap.lt_size h1
   ·exact Heap.lt_size h2
   ·exact Heap.lt_size h3
   ·obtain ⟨o,e2,_⟩:=h4;exact Heap.lt_size e2
   ·obtain ⟨o,e2,_⟩:=h5;exact Heap.lt_size e2
  refine wpAny_pyNext_zip_item D h1 h2 h3 h4 h5 p.isList p2.isList (x:=u) (y:=u2) (by simpa using hu) (by simpa using hu2) fun h' o1 o2 o3 o4 o5 o6 o7=>⟨_,rfl,?_⟩
  refine wpAny_letOwnedTupleGo_zip (s:={ s with heap:=h' }) o1 fun h'' q1 q2=> ?_
  have pe:s.heap.objs.size≠z:=Nat.ne_of_gt (lt z (by simp))
  obtain ⟨J1,J2,J3⟩:=ZkX (h':=h'') (t':=s.toks) (ch:=[z,TI,TO,i1,i2]) (vs:=[x,y]) (us:=[u,u2]) I hf lt (.cons ru (.cons ru2 .nil)) (by show 2<=sizeLine;decide)
   (fun c o hc q=>by
    simp only[List.mem_cons,List.not_mem_nil,or_false,not_or] at hc
    exact (q2.2 c hc.1).trans (o7 c o hc.1 hc.2.2.1 hc.2.2.2.1 hc.2.2.2.2 q)) ((q2.2 _ pe).trans o5)
  refine ⟨.ref s.heap.objs.size,_,J1,rfl,⟨_,J2,rfl,fun xs' ys' x' y' hx1 hy1 hx2 hy2=> ?_⟩,⟨q1,(q2.2 TI D.TIz).trans (o7 TI _ D.TIz D.TITO D.TIi1 D.TIi2 h2),⟨u,u2,(q2.2 TO D.TOz).trans o2⟩,o3.at fun o q=>(q2.2 i1 D.i1z).trans q,o4.at fun o q=>(q2.2 i2 D.i2z).trans q⟩,J3⟩
  rw[I.list_inj hx1 hq,hx] at hx2
  rw[I.list_inj hy1 hq2,hy] at hy2
  cases hx2
  cases hy2
  rfl
 done:=by
  intro X hP hw hK hA i pins s σ H E I hf st hg
  subst hP hw hK hA
  obtain ⟨h1,h2,⟨x0,y0,h3⟩,h4,h5⟩:=st
  obtain ⟨xs,ys,hq,hq2,hx⟩:=hg
  obtain ⟨its,rv,p,hz⟩:=I.list hq
  obtain ⟨its2,rv2,p2,hz2⟩:=I.list hq2
  have he:its.toArray[i]?=none\/its2.toArray[i]?=none:=by
   rcases hx with hx | hx
   ·exact .inl (by simp only[List.getElem?_toArray];exact List.getElem?_eq_none (by rw[<- rv.length];exact hx))
   ·exact .inr (by simp only[List.getElem?_toArray];exact List.getElem?_eq_none (by rw[<- rv2.length];exact hx))
  refine wpAny_pyNext_zip_end hB D h1 h2 h3 h4 h5 p.isList p2.isList he fun h' keep=>⟨rfl,?_⟩
  refine Zif (t':=s.toks) (ch:=[z,TI,TO,i1,i2]) I (fun c o hc q=> ?_) hf
  simp only[List.mem_cons,List.not_mem_nil,or_false,not_or] at hc
  exact keep c o hc.1 hc.2.2.1 hc.2.2.2.1 hc.2.2.2.2 q
 self:=fun A i s Q E st q=>wpAny_pyIter_zip st.1 q
theorem Zou {n a b:Nat} (h1:a < n) (h2:b < n):ZipApart (n + 4) (n + 2) (n + 3) n (n + 1) a b:=⟨Nat.ne_of_lt (by omega),Nat.ne_of_lt (by omega),Nat.ne_of_lt (by omega),Nat.ne_of_lt (by omega),Nat.ne_of_lt (by omega),Nat.ne_of_gt (by omega),Nat.ne_of_gt (by omega),Nat.ne_of_gt (by omega),Nat.ne_of_gt (by omega),Nat.ne_of_lt (by omega),Nat.ne_of_lt (by omega),Nat.ne_of_lt (by omega),Nat.ne_of_lt (by omega),Nat.ne_of_lt (by omega),Nat.ne_of_lt (by omega),Nat.ne_of_lt (by omega),Nat.ne_of_lt (by omega),Nat.ne_of_lt (by omega)⟩
theorem Zov:bootBuiltins "zip"=some (.type "zip"):=by decide +kernel
theorem ZeW:bootBuiltins "enumerate"=some (.type "enumerate"):=by decide +kernel
section
variable {X:Cx} {ξ:XK} {a b:Expr} {elts:List Expr} {k0:Nat} {tp:Pos} {fa:Ev} {fs:Av} {p pos:Pos} {ta:TA}
noncomputable def Zrp (K:PySem.W.Frag) (t:TA):TI:=fun σ H R=>t σ H fun vs H1=> ∃ l xs,vs=[.ref l]/\SqL K H1 l xs/\R (Ite K l) H1
noncomputable def ZuF (K:PySem.W.Frag) (t:TA):TI:=fun σ H R=>t σ H fun vs H1=> ∃ l l2 xs ys,vs=[.ref l,.ref l2]/\SqL K H1 l xs/\SqL K H1 l2 ys/\R (Itz K l l2) H1
theorem Zmf (hc:X.A.handled=none) (hg:Gl X "enumerate") (hm:X.mg "enumerate"=none) (ha:PA X [a] ta) (hs:starEach [a] X.env=(false,eval a X.env) :: starEach [] X.env:=by rfl) (hpl:(backTo pos (starEach [] X.env)).any (·.1)=false:=by rfl):
  PI X (.Tuple elts k0 tp) (.Call (.Name "enumerate" p) [a] [] pos) (Zrp X.K ta):=by
 intro pins s σ H R I h
 refine wpAny_Call_Name_kw (Zb5 I hg hm ZeW (PyProof.Rows.callWith_type1 (thn (ha pos pins s σ H _ I h) fun us s1 ⟨vs,H1,I1,r1,q1⟩=> ?_) hs hpl) (by decide) (by decide))
 obtain ⟨l,xs,rfl,hq,q⟩:=q1
 obtain ⟨u,rfl,ru⟩:=ZcV r1
 cases ru
 obtain ⟨its,rv,pl,hz⟩:=I1.list hq
 refine call_enumerate_list pl.isList fun h' e1 e2 e3 e4=> ?_
 have T:=Zig (P:=X.prog) (w:=X.w) (K:=X.K) (B:=X.A) (elts:=elts) (k0:=k0) (tp:=tp) hc l (s1.heap.objs.size + 1) s1.heap.objs.size (Nat.ne_of_gt (Nat.lt_succ_self _))
 have I2:Inv X pins σ H1 { s1 with heap:=h',toks:=s1.toks }:=I1.kept (t':=s1.toks) e4
 refine T.self X.A 0 { s1 with heap:=h' } _ _ ⟨⟨_,e1⟩,e2⟩ ⟨_,_,_,_,H1,rfl,I2,T,⟨⟨_,e1⟩,e2⟩,fun b hb=> ?_,q⟩
 have hb':s1.heap.objs.size<=b:=by
  simp only[List.mem_cons,List.not_mem_nil,or_false] at hb
  rcases hb with rfl | rfl<;>omega
 exact I1.fpOk hb' (I1.hok.fresh hb')
theorem Zow (hc:X.A.handled=none) (hg:Gl X "zip") (hm:X.mg "zip"=none) (ha:PA X [a,b] ta) (hs:starEach [a,b] X.env=(false,eval a X.env) :: starEach [b] X.env:=by rfl) (hpl:(backTo pos (starEach [b] X.env)).any (·.1)=false:=by rfl):
  PI X (.Tuple elts k0 tp) (.Call (.Name "zip" p) [a,b] [] pos) (ZuF X.K ta):=by
 intro pins s σ H R I h
 refine wpAny_Call_Name_kw (Zb5 I hg hm Zov (PyProof.Rows.callWith_type1 (thn (ha pos pins s σ H _ I h) fun us s1 ⟨vs,H1,I1,r1,q1⟩=> ?_) hs hpl) (by decide) (by decide))
 obtain ⟨l,l2,xs,ys,rfl,hq,hq2,q⟩:=q1
 obtain ⟨u,u2,rfl,ru,ru2⟩:=ZjH r1
 cases ru
 cases ru2
 obtain ⟨its,rv,pl,hz⟩:=I1.list hq
 obtain ⟨its2,rv2,pl2,hz2⟩:=I1.list hq2
 have lt1:l < s1.heap.objs.size:=by obtain ⟨_,e,_⟩:=pl.isList;exact Heap.lt_size e
 have lt2:l2 < s1.heap.objs.size:=by obtain ⟨_,e,_⟩:=pl2.isList;exact Heap.lt_size e
 refine call_zip_2 pl.isList pl2.isList fun h' e1 e2 e3 e4 e5 e6 e7=> ?_
 have D:=Zou lt1 lt2
 have T:=Zj9 (P:=X.prog) (w:=X.w) (K:=X.K) (B:=X.A) (elts:=elts) (k0:=k0) (tp:=tp) hc D
 have I2:Inv X pins σ H1 { s1 with heap:=h',toks:=s1.toks }:=I1.kept (t':=s1.toks) e7
 refine T.self X.A 0 { s1 with heap:=h' } _ _ ⟨e1,e2,⟨_,_,e3⟩,e4,e5⟩ ⟨_,_,_,_,H1,rfl,I2,T,⟨e1,e2,⟨_,_,e3⟩,e4,e5⟩,fun c hc=> ?_,q⟩
 have hb':s1.heap.objs.size<=c:=by
  simp only[List.mem_cons,List.not_mem_nil,or_false] at hc
  rcases hc with rfl | rfl | rfl | rfl | rfl<;>omega
 exact I1.fpOk hb' (I1.hok.fresh hb')
noncomputable def iEn (fs:Av):Ro->Sto->Out Src:=fun ρ M=>(fs ρ M).bind fun ds M1=>match ds with | [.ref n]=> .ok (.enu n) M1 | _=> .bad
noncomputable def iZp (fs:Av):Ro->Sto->Out Src:=fun ρ M=>(fs ρ M).bind fun ds M1=>match ds with | [.ref n,.ref m]=> .ok (.zip n m) M1 | _=> .bad
theorem ZfM (hc:X.A.handled=none) (hm:X.mg "enumerate"=none) (ha:DA X ξ [a] fs) (hg:Gl X "enumerate":=by rfl) (hs:starEach [a] X.env=(false,eval a X.env) :: starEach [] X.env:=by rfl) (hpl:(backTo pos (starEach [] X.env)).any (·.1)=false:=by rfl):
  DI X ξ (.Tuple elts k0 tp) (.Call (.Name "enumerate" p) [a] [] pos) (iEn fs):=by
 obtain ⟨ta,pa,qa⟩:=ha
 refine ⟨_,Zmf hc hg hm pa hs hpl,fun σ ρ H α M R s hh q=>qa σ ρ H α M _ s hh (OG.seq q fun ds M1 vs H1 α1 e1 h1 r1 w1=> ?_)⟩
 match r1 with
 | .nil=>exact w1.elim
 | .cons r (.cons _ _)=>cases r<;>exact w1.elim
 | .cons r .nil=>
  cases r with
  | @ref l n hp=>
   obtain ⟨xs0,g0⟩:=h1.some_at hp
   refine ⟨l,xs0,rfl,SqL.of g0,w1 _ H1 α1 Ext.refl h1 fun i H' α' M' ex hr=> ?_⟩
   cases em:M'[n]? with
   |none=>rw[show nxt (.enu n) i M'=none by simp only[nxt,em]];exact True.intro
   |some so=>
    cases so with
    |lst es=>
     obtain ⟨xs,g1,g2⟩:=hr.at (ex.get hp) em
     cases ei:es[i]? with
     |none=>rw[show nxt (.enu n) i M'=some none by simp only[nxt,em,ei]];exact ⟨xs,SqL.of g1,by rw[g2.length];exact List.getElem?_eq_none_iff.mp ei⟩
     |some d=>
      obtain ⟨v,k1,k2⟩:=g2.get ei
      rw[show nxt (.enu n) i M'=some (some (D.tup [D.int i,d])) by simp only[nxt,em,ei]]
      refine ⟨⟨xs,v,SqL.of g1,k1⟩,fun x H'' y=> ?_⟩
      obtain ⟨pp,y1,rfl,y3⟩:=y
      have y4:=y3 xs v (SqL.of g1) k1
      subst y4
      exact ⟨Ext.new0 y1,hr.tup y1,.tup ZC (.cons (.int i) (.cons (Rep.mono (Ext.new0 y1) k2) .nil))⟩
  |_=>exact w1.elim
theorem Zox (hc:X.A.handled=none) (hm:X.mg "zip"=none) (ha:DA X ξ [a,b] fs) (hg:Gl X "zip":=by rfl) (hs:starEach [a,b] X.env=(false,eval a X.env) :: starEach [b] X.env:=by rfl) (hpl:(backTo pos (starEach [b] X.env)).any (·.1)=false:=by rfl):
  DI X ξ (.Tuple elts k0 tp) (.Call (.Name "zip" p) [a,b] [] pos) (iZp fs):=by
 obtain ⟨ta,pa,qa⟩:=ha
 refine ⟨_,Zow hc hg hm pa hs hpl,fun σ ρ H α M R s hh q=>qa σ ρ H α M _ s hh (OG.seq q fun ds M1 vs H1 α1 e1 h1 r1 w1=> ?_)⟩
 split at w1
 ·rename_i n m
  cases r1 with
  |cons r t=>
   cases t with
   |cons r' t=>
    cases t
    cases r with
    |ref hp=>
    cases r' with
    |ref hp2=>
    rename_i l l2
    obtain ⟨xs0,g0⟩:=h1.some_at hp
    obtain ⟨ys0,g0'⟩:=h1.some_at hp2
    refine ⟨l,l2,xs0,ys0,rfl,SqL.of g0,SqL.of g0',w1 _ H1 α1 Ext.refl h1 fun i H' α' M' ex hr=> ?_⟩
    cases em:M'[n]? with
    |none=>rw[show nxt (.zip n m) i M'=none by simp only[nxt,em]];exact True.intro
    |some so=>
     cases em2:M'[m]? with
     |none=>cases so;rw[show nxt (.zip n m) i M'=none by simp only[nxt,em,em2]];exact True.intro
     |some so2=>
      cases so with
      |lst es=>
       cases so2 with
       |lst es2=>
        obtain ⟨xs,g1,g2⟩:=hr.at (ex.get hp) em
        obtain ⟨ys,g3,g4⟩:=hr.at (ex.get hp2) em2
        cases ei:es[i]? with
        |none=>rw[show nxt (.zip n m) i M'=some none by simp only[nxt,em,em2,ei]];exact ⟨xs,ys,SqL.of g1,SqL.of g3,.inl (by rw[g2.length];exact List.getElem?_eq_none_iff.mp ei)⟩
        |some d=>
         cases ej:es2[i]? with
         |none=>rw[show nxt (.zip n m) i M'=some none by simp only[nxt,em,em2,ei,ej]];exact ⟨xs,ys,SqL.of g1,SqL.of g3,.inr (by rw[g4.length];exact List.getElem?_eq_none_iff.mp ej)⟩
         |some d2=>
          obtain ⟨v,k1,k2⟩:=g2.get ei
          obtain ⟨v2,k3,k4⟩:=g4.get ej
          rw[show nxt (.zip n m) i M'=some (some (D.tup [d,d2])) by simp only[nxt,em,em2,ei,ej]]
          refine ⟨⟨xs,ys,v,v2,SqL.of g1,SqL.of g3,k1,k3⟩,fun x H'' y=> ?_⟩
          obtain ⟨pp,y1,rfl,y3⟩:=y
          have y4:=y3 xs ys v v2 (SqL.of g1) (SqL.of g3) k1 k3
          subst y4
          exact ⟨Ext.new0 y1,hr.tup y1,.tup ZC (.cons (Rep.mono (Ext.new0 y1) k2) (.cons (Rep.mono (Ext.new0 y1) k4) .nil))⟩
 ·exact w1.elim
end
end DL
end
section
namespace DL
open PySem PySem.Spec PyProof.Rows L2
open PySem.SeqAt (EqAt RcAt RcNeAt)
inductive Ks (X:Cx) (H:Hp) (α:List Addr):Kd->Kd->Prop where
 |non:Ks X H α .non .non
 |bl (b:Bool):Ks X H α (.bl b) (.bl b)
 |int (i:Int):Ks X H α (.int i) (.int i)
 |str (x:Str):Ks X H α (.str x) (.str x)
 |tup {vs:List V} {ds es:List D}:Reps X.K H α vs ds->Reps X.K H α vs es->Ks X H α (.tup ds) (.tup es)
 |lst {vs:List V} {ds es:List D}:Reps X.K H α vs ds->Reps X.K H α vs es->Ks X H α (.lst ds) (.lst es)
section
variable {X:Cx} {ξ:XK} {pins:List (Addr × Obj)} {σ:L2.St} {H:Hp} {s:Shared} {α:List Addr} {M:Sto}
theorem Zoy (h:HR X.K H α M) {v:V} {x:D} {k:Kd} (r:Rep X.K H α v x) (e:kd M x=some k):
  (match k with | .tup ds=> ∃ p vs,v= .ref p/\SqT X.K H p vs/\Reps X.K H α vs ds | .lst ds=> ∃ p vs,v= .ref p/\SqL X.K H p vs/\Reps X.K H α vs ds | .non=>v= .non | .bl b=>v= .bl b | .int i=>v= .int i | .str x=>v= .str x):=by
 cases r with
 |non=>cases e;rfl
 |bl b=>cases e;rfl
 |int i=>cases e;rfl
 |str x=>cases e;rfl
 |err _ _ _=>cases e
 |dk _=>cases e
 |dt _=>cases e
 | @tup p xs ds hp rp=>cases e;exact ⟨p,xs,rfl,(SqT.of hp),rp⟩
 | @con p xs ds hp rp=>cases e;exact ⟨p,xs,rfl,hp.sq,rp⟩
 | @rol p xs ds hp rp=>cases e;exact ⟨p,xs,rfl,hp.sq,rp⟩
 | @ref p n hp=>
  cases e1:M[n]? with
  |none=>simp only[kd,e1] at e;cases e
  |some o=>
   cases o with
   |lst ds=>
    simp only[kd,e1] at e
    cases e
    obtain ⟨xs,g1,r1⟩:=h.at hp e1
    exact ⟨p,xs,rfl,SqL.of g1,r1⟩
theorem Zih (I:Inv X pins σ H s) (h:HR X.K H α M) {v:V} {x y:D} {k l:Kd} (rx:Rep X.K H α v x) (ry:Rep X.K H α v y) (ex:kd M x=some k) (ey:kd M y=some l):Ks X H α k l:=by
 have a:=Zoy h rx ex
 have b:=Zoy h ry ey
 have nl: ∀ {p:Addr} {xs ys:List V},SqT X.K H p xs->SqL X.K H p ys->False:=fun {p xs ys} a c=>by
  obtain ⟨i1,_,⟨o1,g1,c1,_⟩,_⟩:=I.tuple a
  obtain ⟨i2,_,⟨o2,_,g2,c2,_⟩,_⟩:=I.list c
  rw[g1] at g2
  cases g2
  rw[c1] at c2
  exact absurd c2 (by decide)
 cases k with
 |non=>cases a;cases l<;>first | (cases b;done) | exact .non | (obtain ⟨_,_,q,_⟩:=b;cases q)
 |bl c=>cases a;cases l<;>first | (cases b;done) | (cases b;exact .bl c) | (obtain ⟨_,_,q,_⟩:=b;cases q)
 |int c=>cases a;cases l<;>first | (cases b;done) | (cases b;exact .int c) | (obtain ⟨_,_,q,_⟩:=b;cases q)
 |str c=>cases a;cases l<;>first | (cases b;done) | (cases b;exact .str c) | (obtain ⟨_,_,q,_⟩:=b;cases q)
 |tup ds=>
  obtain ⟨p,vs,rfl,q1,q2⟩:=a
  cases l with
  |tup es=>
   obtain ⟨p2,vs2,e2,q3,q4⟩:=b
   cases e2
   cases I.tuple_inj q1 q3
   exact .tup q2 q4
  |lst es=>
   obtain ⟨p2,vs2,e2,q3,q4⟩:=b
   cases e2
   exact (nl q1 q3).elim
  |_=>cases b
 |lst ds=>
  obtain ⟨p,vs,rfl,q1,q2⟩:=a
  cases l with
  |lst es=>
   obtain ⟨p2,vs2,e2,q3,q4⟩:=b
   cases e2
   cases I.list_inj q1 q3
   exact .lst q2 q4
  |tup es=>
   obtain ⟨p2,vs2,e2,q3,q4⟩:=b
   cases e2
   exact (nl q3 q1).elim
  |_=>cases b
theorem ZkY (I:Inv X pins σ H s) (h:HR X.K H α M): ∀ (n:Nat) {v w:V} {x x' y y':D} {b b':Bool},Rep X.K H α v x->Rep X.K H α v x'->Rep X.K H α w y->Rep X.K H α w y'->eqF n M x y=some b->eqF n M x' y'=some b'->b=b':=by
 intro n
 induction n with
 |zero=>intro v w x x' y y' b b' _ _ _ _ e;simp only[eqF] at e;cases e
 |succ n ih=>
  have lists: ∀ (vs ws:List V) (xs xs' ys ys':List D) (b b':Bool),Reps X.K H α vs xs->Reps X.K H α vs xs'->Reps X.K H α ws ys->Reps X.K H α ws ys'->eqL (eqF n M) xs ys=some b->eqL (eqF n M) xs' ys'=some b'->b=b':=by
   intro vs
   induction vs with
   |nil=>
    intro ws xs xs' ys ys' b b' r1 r2 r3 r4 e e'
    cases r1;cases r2
    cases r3 with
    |nil=>cases r4;simp only[eqL,Option.some.injEq] at e e';rw[<- e,<- e']
    |cons _ _=>cases r4;simp only[eqL,Option.some.injEq] at e e';rw[<- e,<- e']
   |cons v vs iv=>
    intro ws xs xs' ys ys' b b' r1 r2 r3 r4 e e'
    cases r1 with
    |cons p1 t1=>
     cases r2 with
     |cons p2 t2=>
      cases r3 with
      |nil=>cases r4;simp only[eqL,Option.some.injEq] at e e';rw[<- e,<- e']
      |cons p3 t3=>
       cases r4 with
       |cons p4 t4=>
        rename_i d1 ds1 d2 ds2 w d3 ws ds3 d4 ds4
        cases a1:eqF n M d1 d3 with
        |none=>simp only[eqL,a1] at e;cases e
        |some a=>
         cases a2:eqF n M d2 d4 with
         |none=>simp only[eqL,a2] at e';cases e'
         |some a'=>
          cases c1:eqL (eqF n M) ds1 ds3 with
          |none=>simp only[eqL,a1,c1] at e;cases e
          |some c=>
           cases c2:eqL (eqF n M) ds2 ds4 with
           |none=>simp only[eqL,a2,c2] at e';cases e'
           |some c'=>
            simp only[eqL,a1,c1,Option.some.injEq] at e
            simp only[eqL,a2,c2,Option.some.injEq] at e'
            rw[<- e,<- e',ih p1 p2 p3 p4 a1 a2,iv _ _ _ _ _ _ _ t1 t2 t3 t4 c1 c2]
  intro v w x x' y y' b b' rx rx' ry ry' e e'
  unfold eqF at e e'
  cases k1:kd M x with
  |none=>rw[k1] at e;cases e
  |some ka=>
   cases k2:kd M y with
   |none=>rw[k1,k2] at e;cases e
   |some kb=>
    cases k3:kd M x' with
    |none=>rw[k3] at e';cases e'
    |some ka'=>
     cases k4:kd M y' with
     |none=>rw[k3,k4] at e';cases e'
     |some kb'=>
      rw[k1,k2] at e
      rw[k3,k4] at e'
      have s1:=Zih I h rx rx' k1 k3
      have s2:=Zih I h ry ry' k2 k4
      cases s1 with
      |tup a1 a2=>
       cases s2 with
       |tup b1 b2=>simp only[eqK] at e e';exact lists _ _ _ _ _ _ _ _ a1 a2 b1 b2 e e'
       |_=>simp only[eqK,Option.some.injEq] at e e';rw[<- e,<- e']
      |lst a1 a2=>
       cases s2 with
       |lst b1 b2=>
        simp only[eqK] at e e'
        rw[<- a1.length,<- b1.length] at e
        rw[<- a2.length,<- b2.length] at e'
        split at e
        ·rename_i c
         rw[if_pos c] at e'
         exact lists _ _ _ _ _ _ _ _ a1 a2 b1 b2 e e'
        ·rename_i c
         rw[if_neg c] at e'
         cases e;cases e';rfl
       |_=>simp only[eqK,Option.some.injEq] at e e';rw[<- e,<- e']
      |_=>cases s2<;>(simp only[eqK,Option.some.injEq] at e e';rw[<- e,<- e'])
noncomputable def eqs (M:Sto) (d:D):List D->Option (List Bool)
 | []=>some []
 |x :: r=>match eqF 12 M x d with | some b=>(match eqs M d r with | some bs=>some (b :: bs) | none=>none) | none=>none
theorem Zii: ∀ {M:Sto} {d:D} {xs:List D} {bs:List Bool},eqs M d xs=some bs->bs.length=xs.length
 |_,_,[],_,e=>by cases e;rfl
 |M,d,x :: r,bs,e=>by
  cases e1:eqF 12 M x d with
  |none=>simp only[eqs,e1] at e;cases e
  |some b=>
   cases e2:eqs M d r with
   |none=>simp only[eqs,e1,e2] at e;cases e
   |some cs=>simp only[eqs,e1,e2,Option.some.injEq] at e;subst e;rw[List.length_cons,List.length_cons,Zii e2]
theorem Zij: ∀ {M:Sto} {d:D} {xs:List D} {bs:List Bool} {i:Nat} {x:D},eqs M d xs=some bs->xs[i]?=some x-> ∃ b,bs[i]?=some b/\eqF 12 M x d=some b
 |_,_,[],_,i,x,e,hx=>by simp at hx
 |M,d,y :: r,bs,i,x,e,hx=>by
  cases e1:eqF 12 M y d with
  |none=>simp only[eqs,e1] at e;cases e
  |some b=>
   cases e2:eqs M d r with
   |none=>simp only[eqs,e1,e2] at e;cases e
   |some cs=>
    simp only[eqs,e1,e2,Option.some.injEq] at e
    subst e
    cases i with
    |zero=>simp at hx;subst hx;exact ⟨b,rfl,e1⟩
    |succ i=>simp at hx;obtain ⟨b',q1,q2⟩:=Zij e2 hx;exact ⟨b',by simpa using q1,q2⟩
open Classical in
theorem Zmg {A:Around} (hu:A.units + 64 < cLine) (I:Inv X pins σ H s) (h:HR X.K H α M) {vs:List V} {ds:List D} {us:List Value} {v:V} {d:D} {u:Value} {bs:List Bool} (rv:ZX vs us) (rp:Reps X.K H α vs ds) (ru:ZV v u) (rd:Rep X.K H α v d) (e:eqs M d ds=some bs):
  ∃ f:Value->Bool,(∀ y,y∈us.toArray->EqAt A.in1 s y u (f y))/\us.map f=bs:=by
 have ll:us.length=ds.length:=by rw[<- rv.length,rp.length]
 have at_: ∀ (i:Nat) y,us[i]?=some y-> ∃ w x b,ZV w y/\Rep X.K H α w x/\bs[i]?=some b/\eqF 12 M x d=some b:=fun i y hy=>by
  have hi:i < ds.length:=by rw[<- ll];exact (List.getElem?_eq_some_iff.mp hy).1
  obtain ⟨w,a1,a2⟩:=rp.get (List.getElem?_eq_getElem hi)
  obtain ⟨y',a3,a4⟩:=rv.get a1
  rw[hy] at a3
  cases a3
  obtain ⟨b,a5,a6⟩:=Zij e (List.getElem?_eq_getElem hi)
  exact ⟨w,_,b,a4,a2,a5,a6⟩
 refine ⟨fun y=>decide (∃ w x,ZV w y/\Rep X.K H α w x/\eqF 12 M x d=some true),fun y hy=> ?_,?_⟩
 ·obtain ⟨i,hi,ey⟩:=List.getElem_of_mem (by simpa using hy)
  obtain ⟨w,x,b,q1,q2,q3,q4⟩:=at_ i y (by rw[List.getElem?_eq_getElem hi,ey])
  have hb:decide (∃ w x,ZV w y/\Rep X.K H α w x/\eqF 12 M x d=some true)=b:=by
   cases b with
   |true=>exact decide_eq_true ⟨w,x,q1,q2,q4⟩
   |false=>
    refine decide_eq_false fun ⟨w',x',z1,z2,z3⟩=> ?_
    cases ZV.inj z1 q1
    have:=ZkY I h 12 z2 q2 rd rd z3 q4
    cases this
  show EqAt A.in1 s y u (decide (∃ w x,ZV w y/\Rep X.K H α w x/\eqF 12 M x d=some true))
  rw[hb]
  exact (eq3 I h 12 x d w v y u b A.in1 (by rw[Around.in1_units];omega) q4 q2 rd q1 ru).1
 ·apply List.ext_getElem?
  intro i
  rw[List.getElem?_map]
  cases hy:us[i]? with
  |none=>
   have:bs[i]?=none:=List.getElem?_eq_none (by rw[Zii e,<- ll];exact List.getElem?_eq_none_iff.mp hy)
   rw[this]
   rfl
  |some y=>
   obtain ⟨w,x,b,q1,q2,q3,q4⟩:=at_ i y hy
   rw[q3]
   show some _=some b
   congr 1
   cases b with
   |true=>exact decide_eq_true ⟨w,x,q1,q2,q4⟩
   |false=>
    refine decide_eq_false fun ⟨w',x',z1,z2,z3⟩=> ?_
    cases ZV.inj z1 q1
    have:=ZkY I h 12 z2 q2 rd rd z3 q4
    cases this
end
section
variable {X:Cx} {ξ:XK}
noncomputable def inE (x y:D) (M:Sto):Option Bool:=match ZgX M y with | some ds=>(match eqs M x ds with | some bs=>some (bs.any id) | none=>none) | none=>none
noncomputable def Ztv:Bo:=fun x y M=>match inE x y M with | some b=> .ok (.bl b) M | none=> .bad
noncomputable def Zik:Bo:=fun x y M=>match inE x y M with | some b=> .ok (.bl (!b)) M | none=> .bad
noncomputable def Zoz (X:Cx):V->List V->Hp->VK->Prop:=fun v vs H Q=> ∃ α M d ds bs p xs u j,HR X.K H α M/\v= .ref p/\vs=[u]/\Rep X.K H α u d/\SqL X.K H p xs/\Reps X.K H α xs ds/\eqs M d ds=some bs/\bs.findIdx? id=some j/\Q (.int (j:Nat)) H
theorem ZoA (hu:X.A.units + 64 < cLine):MtR X "list.index" (Zoz X):=by
 intro pins s σ H x vs v us Q I rx rv hh
 obtain ⟨α,M,d,ds,bs,p,xs,u,j,h,e1,e2,rd,hq,rp,e,ej,q⟩:=hh
 subst e1 e2
 cases rx
 obtain ⟨uv,rfl,ru⟩:=ZcV rv
 obtain ⟨its,r,pl,hz⟩:=I.list hq
 obtain ⟨f,f1,f2⟩:=Zmg (A:=X.A) hu I h r rp ru rd e
 obtain ⟨⟨cls,dd,data,sl⟩,ho,hc,n,hd⟩:=pl.isList
 simp only at hc hd
 subst hc hd
 obtain ⟨jl,j1,j2⟩:=List.findIdx?_eq_some_iff_getElem.mp ej
 have lb:bs.length=its.length:=by rw[<- f2,List.length_map]
 have at_: ∀ (m:Nat) (hm:m < its.length),bs[m]?=some (f its[m]):=fun m hm=>by rw[<- f2,List.getElem?_map,List.getElem?_eq_getElem hm];rfl
 have hj:j < its.toArray.size:=by rw[List.size_toArray,<- lb];exact jl
 have hit:f its.toArray[j]=true:=by
  have:=at_ j (by rw[<- lb];exact jl)
  rw[List.getElem?_eq_getElem jl] at this
  have:=Option.some.inj this
  simp only[List.getElem_toArray]
  rw[<- this]
  exact j1
 have hno: ∀ m (hm:m < its.toArray.size),m < j->f its.toArray[m]=false:=fun m hm hmj=>by
  have hm':m < its.length:=by simpa using hm
  have:=at_ m hm'
  rw[List.getElem?_eq_getElem (by omega)] at this
  have:=Option.some.inj this
  simp only[List.getElem_toArray]
  rw[<- this]
  simpa using j2 m hmj
 have hs:(j:Int) < 2 ^ 63 - 1:=by
  have h1:j < its.length:=by rw[<- lb];exact jl
  have h2:its.length<=sizeLine:=by rw[<- r.length];exact hz
  have h3:sizeLine < 2 ^ 62:=by decide
  omega
 refine call_meets F.slot_list_index ⟨_,ho,rfl⟩ F.entry_list_index (F.args_list_index_2 _ _) (SeqAt.list_indexAt p its.toArray n dd sl uv f j hj hs hit hno) ⟨ho,f1,?_⟩
 exact ⟨.int (j:Nat),H,I.tok _,⟨_,rfl⟩,q⟩
noncomputable def mIdx:Me:=fun x ds M=>match x,ds with
 | .ref n,[d]=>(match M[n]? with | some (.lst xs)=>(match eqs M d xs with | some bs=>(match bs.findIdx? id with | some j=> .ok (.int (j:Nat)) M | none=> .bad) | none=> .bad) | none=> .bad)
 |_,_=> .bad
noncomputable def ZuG:Me:=fun x ds M=>match x,ds with
 | .ref n,[d]=>(match M[n]? with | some (.lst xs)=>(match eqs M d xs with | some bs=> .ok (.int (bs.countP id:Nat)) M | none=> .bad) | none=> .bad)
 |_,_=> .bad
theorem ZoB:MO X ξ (Zoz X) mIdx:=by
 intro H α M v vs x ds Q h rx rs q
 cases rx with
 | @ref p n hp=>
  match rs with
  | .nil=>exact q.elim
  | .cons _ (.cons _ _)=>exact q.elim
  | .cons (v:=u) (d:=d) ru .nil=>
   cases em:M[n]? with
   |none=>simp only[mIdx,em] at q;exact q.elim
   |some so=>
    cases so with
    |lst es=>
     cases e2:eqs M d es with
     |none=>simp only[mIdx,em,e2] at q;exact q.elim
     |some bs=>
      cases e3:bs.findIdx? id with
      |none=>simp only[mIdx,em,e2,e3] at q;exact q.elim
      |some j=>
       simp only[mIdx,em,e2,e3] at q
       obtain ⟨xs,g1,g2⟩:=h.at hp em
       exact ⟨α,M,d,es,bs,p,xs,u,j,h,rfl,rfl,ru,SqL.of g1,g2,e2,e3,q _ H α Ext.refl h (.int _)⟩
 |_=>cases rs<;>exact q.elim
noncomputable def ZbR:List D->Option (List Int)
 | []=>some []
 | .int b :: r=>match ZbR r with | some bs=>some (b :: bs) | none=>none
 |_ :: _=>none
theorem Zgv {K:PySem.W.Frag} {H:Hp} {α:List Addr}: ∀ {vs:List V} {ds:List D} {bs:List Int},Reps K H α vs ds->ZbR ds=some bs->vs=bs.map V.int
 |_,_,_,.nil,e=>by cases e;rfl
 |_,_,bs,.cons (d:=d) (ds:=ds) r t,e=>by
  cases r with
  |int b=>
   cases e1:ZbR ds with
   |none=>simp only[ZbR,e1] at e;cases e
   |some cs=>
    simp only[ZbR,e1,Option.some.injEq] at e
    subst e
    rw[Zgv t e1]
    rfl
  |_=>cases e
noncomputable def Zka (X:Cx) (g:List Int->Option V):List V->Hp->VK->Prop:=fun vs H Q=> ∃ (p:Addr) (ns:List Int) (v:V),vs=[.ref p]/\SqL X.K H p (ns.map V.int)/\g ns=some v/\Q v H
theorem Zee: ∀ {ns:List Int} {us:List Value} {i:Nat} {u:Value},ZX (ns.map V.int) us->us[i]?=some u-> ∃ t,u= .int (ns.getD i 0) t
 | [],us,i,u,h,e=>by cases h;simp at e
 |b :: r,us,i,u,h,e=>by
  cases h with
  |cons h1 h2=>
   cases i with
   |zero=>simp at e;subst e;exact h1
   |succ i=>simp at e;obtain ⟨t,g⟩:=Zee h2 e;exact ⟨t,by simpa using g⟩
theorem Zil (hc:X.calm=true) {pins:List (Addr × Obj)} {σ:L2.St} {H:Hp} {s:Shared} {p:Addr} {ns:List Int} (I:Inv X pins σ H s) (hl:SqL X.K H p (ns.map V.int)) {Q:Value->Shared->Prop} {E:Value->Shared->Prop}
  (q: ∀ (its:List Value) (it:Addr),ZX (ns.map V.int) its->its.length=ns.length->it=s.heap.objs.size->Walks X.prog X.w X.A.in1 it [it,p] [it] its.toArray.size (fun i v=>its.toArray[i]?=some v) (fun i h=>h.IsListIter it p i/\h.IsList p its.toArray)->
   (∀ b∈[it,p],b < (s.heap.push { cls:= .type "list_iterator",data:= .fields #[.ref p,.int 0 0] }).objs.size)->((s.heap.push { cls:= .type "list_iterator",data:= .fields #[.ref p,.int 0 0] }).IsListIter it p 0/\(s.heap.push { cls:= .type "list_iterator",data:= .fields #[.ref p,.int 0 0] }).IsList p its.toArray)->
   (∀ h' tk,(∀ b o,b ∉ [it]->(s.heap.push { cls:= .type "list_iterator",data:= .fields #[.ref p,.int 0 0] }).get? b=some o->h'.get? b=some o)->Inv X pins σ H { s with heap:=h',toks:=tk })->Q (.ref it) { s with heap:=s.heap.push { cls:= .type "list_iterator",data:= .fields #[.ref p,.int 0 0] } }):
  wpAny (model X.prog X.w) X.A.in1 (pyIter (.ref p)) Q E s:=by
 obtain ⟨its,hv,hp,hz⟩:=I.list hl
 have hlt:p < s.heap.objs.size:=by obtain ⟨_,e,_⟩:=hp.isList;exact Heap.lt_size e
 refine wpAny_pyIter_list hp.isList ?_
 refine q its s.heap.objs.size hv (by rw[<- hv.length,List.length_map]) rfl (Walks.list (A:=X.A.in1) (I.ok.hd hc) _ p (Nat.ne_of_lt hlt) its.toArray) (fun b hb=> ?_) ⟨⟨_,Heap.get?_push_size _ rfl,rfl,rfl⟩,hp.isList.push _⟩ fun h' tk hk=> ?_
 ·rw[Heap.size_push]
  simp only[List.mem_cons,List.not_mem_nil,or_false] at hb
  rcases hb with rfl | rfl
  ·exact Nat.lt_succ_self _
  ·exact Nat.lt_succ_of_lt hlt
 ·exact I.kept fun b o e=>hk b o (fun hm=>by rw[List.mem_singleton.mp hm] at e;exact Nat.lt_irrefl _ (Heap.lt_size e)) (Heap.get?_push_of_some _ e)
theorem Zkb {ns:List Int} (h:0 < ns.length):ns.max?=some (ns.getD (argBest (fun i j=>decide (ns.getD i 0 > ns.getD j 0)) (ns.length - 1)) 0):=by
 obtain ⟨h1,h2⟩:=argBest_gt (fun i=>ns.getD i 0) (ns.length - 1)
 refine List.max?_eq_some_iff.mpr ⟨?_,fun b hb=> ?_⟩
 ·have hl:argBest (fun i j=>decide (ns.getD i 0 > ns.getD j 0)) (ns.length - 1) < ns.length:=by omega
  rw[List.getD_eq_getElem?_getD,List.getElem?_eq_getElem hl]
  exact List.getElem_mem hl
 ·obtain ⟨j,hj,rfl⟩:=List.getElem_of_mem hb
  have:=h2 j (by omega)
  rwa [show ns.getD j 0=ns[j] by rw[List.getD_eq_getElem?_getD,List.getElem?_eq_getElem hj];rfl] at this
noncomputable def ZqT (ns:List Int):Option V:=ns.max?.map V.int
theorem Zim (hc:X.calm=true):Zco X (.builtin "max") (Zka X ZqT):=by
 intro pins s σ H vs us Q I rs hh
 obtain ⟨p,ns,v,e,hl,hg,q⟩:=hh
 subst e
 obtain ⟨u,rfl,ru⟩:=ZcV rs
 cases ru
 have hn:0 < ns.length:=by cases ns with | nil=>cases hg | cons _ _=>simp
 unfold ZqT at hg
 rw[Zkb hn] at hg
 cases hg
 refine call_max_walk (Zil hc I hl fun its it hv hlen ei W hfp st back=> ?_)
 refine ⟨it,_,_,_,_,_,_,rfl,W,st,hfp,by rw[List.size_toArray,hlen];exact hn,CmpOf.ints_gt (fun i=>ns.getD i 0) (fun i v hP=>Zee hv (by simpa using hP)),fun v h' tk hP hk=>⟨_,H,back h' tk hk,?_,q⟩⟩
 rw[List.size_toArray,hlen] at hP
 exact Zee hv (by simpa using hP)
noncomputable def ZgZ (g:List Int->Option Int):List D->Sto->Out D:=fun ds M=>match ds with
 | [x]=>(match ZgX M x with | some xs=>(match x with | .con _=> .bad | .tup _=> .bad | _=>(match ZbR xs with | some ns=>(match g ns with | some i=> .ok (.int i) M | none=> .bad) | none=> .bad)) | none=> .bad)
 |_=> .bad
theorem Zmh {g:List Int->Option Int} {gV:List Int->Option V} (hg: ∀ ns i,g ns=some i->gV ns=some (.int i)):CO X ξ (Zka X gV) (ZgZ g):=by
 intro H α M vs ds Q h rs q
 unfold ZgZ at q
 match rs with
 | .nil=>exact q.elim
 | .cons _ (.cons _ _)=>exact q.elim
 | .cons (d:=x) r .nil=>
  have fin: ∀ (p:Addr) (xs:List V) (ys:List D),SqL X.K H p xs->Reps X.K H α xs ys->OP X.K H α ξ Q (match ZbR ys with | some ns=>(match g ns with | some i=> .ok (.int i) M | none=> .bad) | none=> .bad)->Zka X gV [.ref p] H Q:=fun p xs ys k1 k2 q=>by
   cases e1:ZbR ys with
   |none=>rw[e1] at q;exact q.elim
   |some ns=>
    cases e2:g ns with
    |none=>simp only[e1,e2] at q;exact q.elim
    |some i=>
     simp only[e1,e2] at q
     have:=Zgv k2 e1
     subst this
     exact ⟨p,ns,.int i,rfl,k1,hg _ _ e2,q _ H α Ext.refl h (.int i)⟩
  cases r with
  | @rol p xs ds hp rp=>exact fin p xs ds hp.sq rp q
  | @ref p n hp=>
   cases em:M[n]? with
   |none=>simp only[ZgX,em] at q;exact q.elim
   |some so=>
    cases so with
    |lst es=>
     simp only[ZgX,em] at q
     obtain ⟨xs,g1,g2⟩:=h.at hp em
     exact fin p xs es (SqL.of g1) g2 q
  |tup _ _=>exact q.elim
  |con _ _=>exact q.elim
  |_=>exact q.elim
theorem Zmi:CO X ξ (Zka X ZqT) (ZgZ List.max?):=Zmh fun ns i e=>by unfold ZqT;rw[e];rfl
end
end DL
end
section
namespace DL
open PySem PySem.Spec PyProof.Rows L2
noncomputable def kK:D->Option Key
 | .int i=>some (.inl i)
 | .str x=>some (.inr x)
 |_=>none
noncomputable def kKs:List D->Option (List Key)
 | []=>some []
 |d :: r=>match kK d,kKs r with | some k,some ks=>some (k :: ks) | _,_=>none
noncomputable def kT:D->Option (List Key)
 | .tup ds=>kKs ds
 |_=>none
theorem ZoC {d:D} {k:Key} (h:kK d=some k):d=ZlV k:=by
 cases d<;>first | (cases h;rfl) | cases h
theorem Zin (k:Key):kK (ZlV k)=some k:=by cases k<;>rfl
theorem Zio: ∀ {ds:List D} {ks:List Key},kKs ds=some ks->ds=ks.map ZlV
 | [],ks,h=>by cases h;rfl
 |d :: r,ks,h=>by
  unfold kKs at h
  split at h
  ·rename_i k ks' e1 e2
   cases h
   rw[List.map_cons,<- ZoC e1,<- Zio e2]
  ·cases h
theorem Zgw: ∀ (ks:List Key),kKs (ks.map ZlV)=some ks
 | []=>rfl
 |k :: ks=>by rw[List.map_cons,kKs,Zin,Zgw ks]
theorem ZoD {d:D} {ks:List Key} (h:kT d=some ks):d=ZhY ks:=by
 cases d with
 |tup ds=>rw[ZhY,<- Zio h]
 |_=>cases h
theorem Zgx (ks:List Key):kT (ZhY ks)=some ks:=Zgw ks
section
variable {κ:Type} [DecidableEq κ]
noncomputable def ZcQ (dec:D->Option κ) (k:κ):List D->Option D
 | []=>none
 | .tup [a,v] :: r=>if dec a=some k then some v else ZcQ dec k r
 |_ :: r=>ZcQ dec k r
noncomputable def ZkZ (dec:D->Option κ) (k:κ) (v:D) (ds:List D):List D:=ds.map fun e=>match e with | .tup [a,w]=>if dec a=some k then .tup [a,v] else e | e=>e
noncomputable def Zjx (dec:D->Option κ) (k:κ) (kd v:D) (ds:List D):List D:=if (ZcQ dec k ds).isSome then ZkZ dec k v ds else ds ++ [.tup [kd,v]]
variable {K:PySem.W.Frag} {H H':Hp} {α α':List Addr} {key:κ->D} {dec:D->Option κ}
theorem Zip:ZbT K H α key [] []:=⟨[],rfl,.nil⟩
theorem Zcf (hd: ∀ k,dec (key k)=some k): ∀ {kvs:List (κ × V)} {es:List D} (k:κ),Reps K H α (kvs.map (·.2)) es->
  match ZcQ dec k (List.zipWith (fun kv e=>D.tup [key kv.1,e]) kvs es) with | none=>ZeC kvs k=none | some d=> ∃ v,ZeC kvs k=some v/\Rep K H α v d
 | [],es,k,h=>by cases h;rfl
 | (k',v) :: kvs,_,k,.cons r t=>by
  simp only[List.zipWith_cons_cons,ZcQ,hd,Option.some.injEq]
  by_cases c:k'=k
  ·rw[if_pos c]
   exact ⟨v,ZcL (p:=(k',v)) c,r⟩
  ·rw[if_neg c]
   have:=Zcf hd k t
   have e:ZeC ((k',v) :: kvs) k=ZeC kvs k:=ZcM (p:=(k',v)) c
   rw[e]
   exact this
theorem ZeX (hd: ∀ k,dec (key k)=some k) {w:V} {d:D} (rw':Rep K H α w d): ∀ {kvs:List (κ × V)} {es:List D} (k:κ),Reps K H α (kvs.map (·.2)) es->
  ∃ es',ZkZ dec k d (List.zipWith (fun kv e=>D.tup [key kv.1,e]) kvs es)=List.zipWith (fun kv e=>D.tup [key kv.1,e]) (kvs.map fun kv=>if kv.1=k then (kv.1,w) else kv) es'/\Reps K H α ((kvs.map fun kv=>if kv.1=k then (kv.1,w) else kv).map (·.2)) es'
 | [],es,k,h=>by cases h;exact ⟨[],rfl,.nil⟩
 | (k',v) :: kvs,_,k,.cons (d:=dv) (ds:=es) r t=>by
  obtain ⟨es',h1,h2⟩:=ZeX hd rw' k t
  unfold ZkZ at h1
  by_cases c:k'=k
  ·refine ⟨d :: es',?_,?_⟩
   ·simp only[ZkZ,List.zipWith_cons_cons,List.map_cons,hd,Option.some.injEq,if_pos c,h1]
   ·simp only[List.map_cons,if_pos c]
    exact .cons rw' h2
  ·refine ⟨dv :: es',?_,?_⟩
   ·simp only[ZkZ,List.zipWith_cons_cons,List.map_cons,hd,Option.some.injEq,if_neg c,h1]
   ·simp only[List.map_cons,if_neg c]
    exact .cons r h2
theorem Zgy {α' β γ:Type} {f:α'->β->γ} {x:α'} {y:β}: ∀ {xs:List α'} {ys:List β},xs.length=ys.length->List.zipWith f (xs ++ [x]) (ys ++ [y])=List.zipWith f xs ys ++ [f x y]
 | [],[],_=>rfl
 |a :: xs,b :: ys,h=>by simp[Zgy (xs:=xs) (ys:=ys) (by simpa using h)]
theorem Ziq (hd: ∀ k,dec (key k)=some k) {kvs:List (κ × V)} {ds:List D} {w:V} {d:D} (k:κ) (h:ZbT K H α key kvs ds) (r:Rep K H α w d):ZbT K H α key (ZhR kvs k w) (Zjx dec k (key k) d ds):=by
 obtain ⟨es,rfl,hr⟩:=h
 have pv:=Zcf hd k hr
 have an:=Zd4 k kvs
 unfold ZhR Zjx
 cases e:ZcQ dec k (List.zipWith (fun kv e=>D.tup [key kv.1,e]) kvs es) with
 |none=>
  rw[e] at pv
  rw[if_neg (by rw[an,pv];simp),if_neg (by simp)]
  refine ⟨es ++ [d],?_,?_⟩
  ·rw[Zgy (by rw[<- hr.length,List.length_map])]
  ·rw[List.map_append]
   exact hr.append (.cons r .nil)
 |some x=>
  rw[e] at pv
  obtain ⟨v,hv,_⟩:=pv
  rw[if_pos (by rw[an,hv];rfl),if_pos (show (some x).isSome=true from rfl)]
  exact ZeX hd r k hr
theorem Zir {kvs:List (κ × V)} {ds:List D} (h:ZbT K H α key kvs ds):kvs.length=ds.length:=by
 obtain ⟨es,rfl,hr⟩:=h
 have:=hr.length
 rw[List.length_map] at this
 simp[this]
theorem Zg0 {kvs:List (κ × V)} {ds:List D} (h:ZbT K H α key kvs ds) (e:Ext K H H' α α'):ZbT K H' α' key kvs ds:=by
 obtain ⟨es,h1,h2⟩:=h
 exact ⟨es,h1,Reps.mono e h2⟩
end
noncomputable def Zrq (K:PySem.W.Frag) (H:Hp) (α:List Addr) (o:Option D) (ov:Option V):Prop:=match o with | none=>ov=none | some d=> ∃ u,ov=some u/\Rep K H α u d
theorem ZuH {a b:Nat} (h:a + 64 < b):a + 1 < b:=by omega
noncomputable def Zg1 (M:Sto) (x k:D):Option (Option D):=match x with
 | .dk n=>(match kK k,M[n]? with | some kk,some (.lst ds)=>some (ZcQ kK kk ds) | _,_=>none)
 | .dt n=>(match kT k,M[n]? with | some kk,some (.lst ds)=>some (ZcQ kT kk ds) | _,_=>none)
 |_=>none
section
variable {X:Cx} {ξ:XK} {H:Hp} {α:List Addr} {M:Sto}
theorem Zis {v:V} {d:D} {k:Key} (r:Rep X.K H α v d) (e:kK d=some k):v=kV k:=by
 cases r with
 |int i=>cases e;rfl
 |str x=>cases e;rfl
 |_=>cases e
theorem Zef: ∀ {vs:List V} {ds:List D} {ks:List Key},Reps X.K H α vs ds->kKs ds=some ks->vs=ks.map kV
 |_,_,ks,.nil,e=>by cases e;rfl
 |_,_,ks,.cons (d:=d) (ds:=ds) r t,e=>by
  unfold kKs at e
  split at e
  ·rename_i k ks' e1 e2
   cases e
   rw[List.map_cons,Zis r e1,Zef t e2]
  ·cases e
theorem Zmj (h:HR X.K H α M) {v w:V} {x k:D} {o:Option D} (r:Rep X.K H α v x) (rk:Rep X.K H α w k) (e:Zg1 M x k=some o):
  ∃ a ov,v= .ref a/\ZjO H a w ov/\IsD H a/\Zrq X.K H α o ov:=by
 cases r with
 | @dk p n hp=>
  simp only[Zg1] at e
  split at e
  ·rename_i kk ds e1 e2
   cases e
   obtain ⟨kvs,g1,es,rfl,g2⟩:=h.atK hp e2
   have pv:=Zcf Zin kk g2
   refine ⟨p,ZeC kvs kk,rfl,by rw[Zis rk e1];exact ZjO.k g1,.inl ⟨kvs,.inl g1⟩,?_⟩
   unfold Zrq
   exact pv
  ·cases e
 | @dt p n hp=>
  simp only[Zg1] at e
  split at e
  ·rename_i kk ds e1 e2
   cases e
   obtain ⟨kvs,g1,es,rfl,g2⟩:=h.atT hp e2
   have pv:=Zcf Zgx kk g2
   cases rk with
   | @tup b xs ds' hb rb=>
    refine ⟨p,ZeC kvs kk,rfl,ZjO.t g1 (by rw[hb,Zef rb e1]),.inr ⟨kvs,.inl g1⟩,?_⟩
    unfold Zrq
    exact pv
   |_=>cases e1
  ·cases e
 |_=>cases e
end
section
variable {X:Cx} {ξ:XK} {o i e:Expr} {fo fi f:Ev} {pos pos':Pos}
noncomputable def Ztw (neg:Bool):R2:=fun v w H Q=> ∃ a o,w= .ref a/\ZjO H a v o/\Q (.bl (neg ^^ o.isSome)) H
noncomputable def Znu (neg:Bool):Bo:=fun k x M=>match Zg1 M x k with | some o=> .ok (.bl (neg ^^ o.isSome)) M | none=> .bad
theorem ZoE (hu:X.A.units + 64 < cLine):OpR X (compareOp .In) (Ztw false):=by
 intro pins s σ H x y v u Q I rx ry ⟨a,ov,e1,g,q⟩
 subst e1
 cases (show u=Value.ref a from ry)
 exact ZuA (ZuH hu) I g rx fun s' I'=>⟨.bl ov.isSome,H,I',rfl,by simpa using q⟩
theorem ZoF {neg:Bool}:BO X ξ (Ztw neg) (Znu neg):=by
 intro H α M v w x y Q h r1 r2 q
 unfold Znu at q
 cases eg:Zg1 M y x with
 |none=>rw[eg] at q;exact q.elim
 |some oo=>
  rw[eg] at q
  obtain ⟨a,ov,g1,g2,_,g4⟩:=Zmj h r2 r1 eg
  have es:ov.isSome=oo.isSome:=by
   cases oo with
   |none=>rw[show ov=none from g4];rfl
   |some d=>obtain ⟨u,rfl,_⟩:=g4;rfl
  exact ⟨a,ov,g1,g2,by rw[es];exact q _ H α Ext.refl h (.bl _)⟩
noncomputable def ZoG (M:Sto) (x k d:D):Option Sto:=match x with
 | .dk n=>(match kK k,M[n]? with | some kk,some (.lst ds)=>if ds.length < 10000000 then some (M.set n (.lst (Zjx kK kk k d ds))) else none | _,_=>none)
 | .dt n=>(match kT k,M[n]? with | some kk,some (.lst ds)=>if ds.length < 10000000 then some (M.set n (.lst (Zjx kT kk k d ds))) else none | _,_=>none)
 |_=>none
end
end DL
end
section
namespace DL
open PySem PySem.Spec PyProof.Rows L2
noncomputable def Itv (K:PySem.W.Frag) (a:Addr) (l:Nat):It:=
 ⟨fun i H=>i < l/\ ∃ xs x,SqL K H a xs/\xs[l - 1 - i]?=some x,fun i H x H'=>H'=H/\ ∀ xs,SqL K H a xs->xs[l - 1 - i]?=some x,fun i _=>i=l⟩
theorem Zkc {P:Program} {w:World} {K:PySem.W.Frag} {B:Around} {tg:Expr} (hB:B.handled=none) (a it:Addr) (l:Nat):Turn P w K B tg (Itv K a l) [it] it (fun i h=>h.IsRevIter it a ((l:Int) - 1 - i)) where
 mem:=by simp
 obj:=fun i h st b hb=>by
  have e:b=it:=by simpa using hb
  subst e
  obtain ⟨o,e,c,d⟩:=st
  exact ⟨o,e,fun v z=>by rw[d] at z;cases z⟩
 keep:=fun i h h' st k=>st.at fun o e=>k it (by simp) o e
 item:=by
  intro X hP hw hK hA i pins s σ H E I hf st hg
  subst hP hw hK hA
  obtain ⟨hi,xs,x,hq,hx⟩:=hg
  obtain ⟨its,rv,p,hz⟩:=I.list hq
  obtain ⟨u,hu,ru⟩:=rv.get hx
  obtain ⟨f0,f1,f2,f3,f4,f5⟩:=hf it (by simp)
  have en:((l:Int) - 1 - i)=((l - 1 - i:Nat):Int):=by omega
  rw[en] at st
  refine wpAny_pyNext_rev_item st p.isList (x:=u) (by simpa using hu) fun h' st' sb=> ?_
  have I1:Inv X pins σ H { s with heap:=h' }:=I.turned (t':=s.toks) (fun b o hb e=>(sb.2 b hb).trans e) f0 f1 f3 f4 f5
  have st2:h'.IsRevIter it a ((l:Int) - 1 - ((i + 1:Nat):Int)):=by
   have e2:((l:Int) - 1 - ((i + 1:Nat):Int))=((l - 1 - i:Nat):Int) - 1:=by omega
   rw[e2]
   exact st'
  obtain ⟨o,e,c,d⟩:=id st'
  exact ⟨u,rfl,ZjE (s:={ s with heap:=h' }) e c d (by decide) ⟨x,H,I1,ru,⟨rfl,fun ys hy=>by rw[I.list_inj hy hq];exact hx⟩,st2,fun b hb=>(hf b hb).1⟩⟩
 done:=by
  intro X hP hw hK hA i pins s σ H E I hf st hg
  subst hP hw hK hA
  obtain ⟨f0,f1,f2,f3,f4,f5⟩:=hf it (by simp)
  have hg':i=l:=hg
  have en:((l:Int) - 1 - i)= -1:=by omega
  rw[en] at st
  refine wpAny_pyNext_rev_end hB st fun h' ext=>⟨rfl,?_⟩
  exact I.turned (t':=s.toks) (it:=it) (fun b o hb z=>ext b o hb z) f0 f1 f3 f4 f5
 self:=fun A i s Q E st q=>wpAny_pyIter_revIter st q
theorem Zdi:bootBuiltins "reversed"=some (.type "reversed"):=by decide +kernel
section
variable {X:Cx} {ξ:XK} {tg a:Expr} {fs:Av} {p pos:Pos} {ta:TA}
noncomputable def ZuI (K:PySem.W.Frag) (t:TA):TI:=fun σ H R=>t σ H fun vs H1=> ∃ l xs,vs=[.ref l]/\SqL K H1 l xs/\R (Itv K l xs.length) H1
theorem ZoH (hc:X.A.handled=none) (hg:Gl X "reversed") (hm:X.mg "reversed"=none) (ha:PA X [a] ta) (hs:starEach [a] X.env=(false,eval a X.env) :: starEach [] X.env:=by rfl) (hpl:(backTo pos (starEach [] X.env)).any (·.1)=false:=by rfl):
  PI X tg (.Call (.Name "reversed" p) [a] [] pos) (ZuI X.K ta):=by
 intro pins s σ H R I h
 refine wpAny_Call_Name_kw (Zb5 I hg hm Zdi (PyProof.Rows.callWith_type1 (thn (ha pos pins s σ H _ I h) fun us s1 ⟨vs,H1,I1,r1,q1⟩=> ?_) hs hpl) (by decide) (by decide))
 obtain ⟨l,xs,rfl,hq,q⟩:=q1
 obtain ⟨u,rfl,ru⟩:=ZcV r1
 cases ru
 obtain ⟨its,rv,pl,hz⟩:=I1.list hq
 refine call_reversed_list pl.isList ?_
 have T:=Zkc (P:=X.prog) (w:=X.w) (K:=X.K) (B:=X.A) (tg:=tg) hc l s1.heap.objs.size xs.length
 have I2:Inv X pins σ H1 { s1 with heap:=s1.heap.push (revObj l ((its.toArray.size:Int) - 1)),toks:=s1.toks }:=I1.kept (t':=s1.toks) fun b o e=>Heap.get?_push_of_some _ e
 have st:(s1.heap.push (revObj l ((its.toArray.size:Int) - 1))).IsRevIter s1.heap.objs.size l ((xs.length:Int) - 1 - ((0:Nat):Int)):=by
  refine ⟨_,Heap.get?_push_size _ rfl,rfl,?_⟩
  have e:((its.toArray.size:Int) - 1)=(xs.length:Int) - 1 - ((0:Nat):Int):=by rw[List.size_toArray,<- rv.length];simp
  rw[e]
  rfl
 refine T.self X.A 0 { s1 with heap:=s1.heap.push (revObj l ((its.toArray.size:Int) - 1)) } _ _ st ⟨_,_,_,_,H1,rfl,I2,T,st,fun b hb=> ?_,q⟩
 have hb':s1.heap.objs.size<=b:=by
  have:b=s1.heap.objs.size:=by simpa using hb
  rw[this]
  exact Nat.le_refl _
 exact I1.fpOk hb' (I1.hok.fresh hb')
noncomputable def iRv (fs:Av):Ro->Sto->Out Src:=fun ρ M=>(fs ρ M).bind fun ds M1=>match ds with | [.ref n]=>(match M1[n]? with | some (.lst xs)=> .ok (.rev n xs.length) M1 | none=> .bad) | _=> .bad
theorem ZoI (hc:X.A.handled=none) (hm:X.mg "reversed"=none) (ha:DA X ξ [a] fs) (hg:Gl X "reversed":=by rfl) (hs:starEach [a] X.env=(false,eval a X.env) :: starEach [] X.env:=by rfl) (hpl:(backTo pos (starEach [] X.env)).any (·.1)=false:=by rfl):
  DI X ξ tg (.Call (.Name "reversed" p) [a] [] pos) (iRv fs):=by
 obtain ⟨ta,pa,qa⟩:=ha
 refine ⟨_,ZoH hc hg hm pa hs hpl,fun σ ρ H α M R s hh q=>qa σ ρ H α M _ s hh (OG.seq q fun ds M1 vs H1 α1 e1 h1 r1 w1=> ?_)⟩
 match r1 with
 | .nil=>exact w1.elim
 | .cons r (.cons _ _)=>cases r<;>exact w1.elim
 | .cons r .nil=>
  cases r with
  | @ref l n hp=>
   cases em0:M1[n]? with
   |none=>simp only[em0] at w1;exact w1.elim
   |some so0=>
    cases so0 with
    |lst es0=>
     simp only[em0] at w1
     obtain ⟨xs0,g0,g0'⟩:=h1.at hp em0
     refine ⟨l,xs0,rfl,SqL.of g0,?_⟩
     rw[g0'.length]
     refine w1 _ H1 α1 Ext.refl h1 fun i H' α' M' ex hr=> ?_
     cases em:M'[n]? with
     |none=>rw[show nxt (.rev n es0.length) i M'=none by simp only[nxt,em]];exact True.intro
     |some so=>
      cases so with
      |lst es=>
       obtain ⟨xs,g1,g2⟩:=hr.at (ex.get hp) em
       by_cases hi:i < es0.length
       ·cases ei:es[es0.length - 1 - i]? with
        |none=>rw[show nxt (.rev n es0.length) i M'=none by simp only[nxt,em,if_pos hi,ei]];exact True.intro
        |some d=>
         rw[show nxt (.rev n es0.length) i M'=some (some d) by simp only[nxt,em,if_pos hi,ei]]
         obtain ⟨v,k1,k2⟩:=g2.get ei
         refine ⟨⟨hi,xs,v,SqL.of g1,k1⟩,fun x H'' y=> ?_⟩
         obtain ⟨ey,y⟩:=y
         subst ey
         have z:=y xs (SqL.of g1)
         rw[k1] at z
         cases z
         exact ⟨Ext.refl,hr,k2⟩
       ·by_cases he:i=es0.length
        ·rw[show nxt (.rev n es0.length) i M'=some none by simp only[nxt,em,if_neg hi,if_pos he]]
         exact he
        ·rw[show nxt (.rev n es0.length) i M'=none by simp only[nxt,em,if_neg hi,if_neg he]]
         exact True.intro
  |_=>exact w1.elim
end
end DL
end
section
namespace DL
open PySem PySem.Spec PyProof.Rows L2
section
variable {X:Cx} {ξ:XK} {e e1 e2:Expr} {es:List Expr} {f:Ev} {pos:Pos}
noncomputable def eFm (f:Ev):Ev:=fun ρ M=>(f ρ M).bind fun x M1=>match x with
 | .int i=>if i.natAbs.log2 < 1900 then .ok (.str (Str.ofString (toString i))) M1 else .bad
 | .str y=>if y.length<=100000 then .ok (.str y) M1 else .bad
 |_=> .bad
theorem Zrr (ha:DE X ξ e f):DE X ξ (.FormattedValue e (-1) none pos) (eFm f):=by
 obtain ⟨ta,pa,qa⟩:=ha
 refine ⟨fun σ H Q=>ta σ H fun x H1=>(∃ i,x= .int i/\i.natAbs.log2 < 1900/\Q (.str (Str.ofString (toString i))) H1)\/ ∃ y,x= .str y/\y.length<=100000/\Q (.str y) H1,fun pins s σ H Q I h=> ?_,fun σ ρ H α M Q s h q=> ?_⟩
 ·refine wpAny_FormattedValue_plain (wpAny_mono (pa pins s σ H _ I h) (fun v s1 ⟨x,H1,I1,r1,q1⟩=> ?_) fun _ _ z=>z)
  rcases q1 with ⟨i,rfl,hi,q⟩ | ⟨y,rfl,hy,q⟩
  ·obtain ⟨t,rfl⟩:=r1
   exact wpAny_formatField_int (by omega) ⟨.str (Str.ofString (toString i)),H1,I1.tok _,⟨_,rfl⟩,q⟩
  ·obtain ⟨t,rfl⟩:=r1
   exact wpAny_formatField_str ⟨.str y,H1,I1,⟨_,rfl⟩,q⟩ ⟨.str y,H1,I1.tok _,⟨_,rfl⟩,q⟩ (Nat.le_trans hy (by rw[sizeLine_eq];decide))
 ·refine qa σ ρ H α M _ s h (OG.seq q fun x M1 v H1 α1 e1 h1 r1 q1=> ?_)
  cases r1 with
  |int i=>
   by_cases hi:i.natAbs.log2 < 1900
   ·simp only[hi,if_true] at q1
    exact .inl ⟨i,rfl,hi,q1 _ H1 α1 Ext.refl h1 (.str _)⟩
   ·simp only[hi,if_false] at q1
    exact q1.elim
  |str y=>
   by_cases hi:y.length<=100000
   ·simp only[hi,if_true] at q1
    exact .inr ⟨y,rfl,hi,q1 _ H1 α1 Ext.refl h1 (.str _)⟩
   ·simp only[hi,if_false] at q1
    exact q1.elim
  |_=>exact q1.elim
noncomputable abbrev Jv:=Str->Ro->Sto->Out Str
noncomputable def PJ (X:Cx) (es:List Expr) (t:L2.St->Hp->Str->(Str->Hp->Prop)->Prop):Prop:=
 ∀ (pins:List (Addr × Obj)) (s:Shared) (σ:L2.St) (H:Hp) (acc:Str) (Q:Str->Hp->Prop),Inv X pins σ H s->t σ H acc Q->Joins (model X.prog X.w) X.A X.xe (evalEach es X.env) acc (fun out s1=>out.length<=100000/\ ∃ H',Inv X pins σ H' s1/\Q out H') s
noncomputable def DJ (X:Cx) (ξ:XK) (es:List Expr) (g:Jv):Prop:= ∃ t,PJ X es t/\ ∀ σ ρ H α M acc (Q:Str->Hp->Prop),SR X.K H α σ ρ->HR X.K H α M->OG X.K (fun _ _ v d=>v=d) H α ξ Q (g acc ρ M)->t σ H acc Q
noncomputable def jNil:Jv:=fun acc _ M=>if acc.length<=100000 then .ok acc M else .bad
noncomputable def ZfN (f:Ev) (g:Jv):Jv:=fun acc ρ M=>(f ρ M).bind fun x M1=>match x with
 | .str y=>if (acc ++ y).length<=100000 then g (acc ++ y) ρ M1 else .bad
 |_=> .bad
noncomputable def eFs (g:Jv):Ev:=fun ρ M=>(g Str.empty ρ M).bind fun x M1=> .ok (.str x) M1
theorem ZoJ:DJ X ξ [] jNil:=by
 refine ⟨fun σ H acc Q=>acc.length<=100000/\Q acc H,fun pins s σ H acc Q I h=>⟨h.1,H,I,h.2⟩,fun σ ρ H α M acc Q s h q=> ?_⟩
 unfold jNil at q
 by_cases hl:acc.length<=100000
 ·rw[if_pos hl] at q
  exact ⟨hl,q acc H α Ext.refl h rfl⟩
 ·rw[if_neg hl] at q
  exact q.elim
theorem ZfO {g:Jv} (ha:DE X ξ e f) (hr:DJ X ξ es g):DJ X ξ (e :: es) (ZfN f g):=by
 obtain ⟨ta,pa,qa⟩:=ha
 obtain ⟨tr,pr',qr⟩:=hr
 refine ⟨fun σ H acc Q=>ta σ H fun x H1=> ∃ y,x= .str y/\(acc ++ y).length<=100000/\tr σ H1 (acc ++ y) Q,fun pins s σ H acc Q I h=> ?_,fun σ ρ H α M acc Q s h q=> ?_⟩
 ·show wpAny _ _ (eval e X.env) _ _ s
  refine wpAny_mono (pa pins s σ H _ I h) (fun v s1 ⟨x,H1,I1,r1,q1⟩=> ?_) fun _ _ z=>z
  obtain ⟨y,rfl,hy,q⟩:=q1
  obtain ⟨t,rfl⟩:=r1
  exact ⟨y,t,rfl,Nat.le_trans hy (by rw[sizeLine_eq];decide),pr' pins s1 σ H1 (acc ++ y) Q I1 q⟩
 ·refine qa σ ρ H α M _ s h (OG.seq q fun x M1 v H1 α1 e1 h1 r1 q1=> ?_)
  cases r1 with
  |str y=>
   by_cases hi:(acc ++ y).length<=100000
   ·simp only[hi,if_true] at q1
    exact ⟨y,rfl,hi,qr σ ρ H1 α1 M1 (acc ++ y) Q (s.mono e1) h1 q1⟩
   ·simp only[hi,if_false] at q1
    exact q1.elim
  |_=>exact q1.elim
theorem Zrs {g:Jv} (h:DJ X ξ (e1 :: e2 :: es) g):DE X ξ (.JoinedStr (e1 :: e2 :: es) pos) (eFs g):=by
 obtain ⟨t,pj,qj⟩:=h
 refine ⟨fun σ H Q=>t σ H Str.empty fun x H1=>Q (.str x) H1,fun pins s σ H Q I h=> ?_,fun σ ρ H α M Q s h q=> ?_⟩
 ·refine wpAny_JoinedStr ?_
  have:=pj pins s σ H Str.empty _ I h
  have mono: ∀ (ms:List (Sem Value)) (acc:Str) (P R:Str->Shared->Prop) (s:Shared),(∀ o s,P o s->R o s)->Joins (model X.prog X.w) X.A X.xe ms acc P s->Joins (model X.prog X.w) X.A X.xe ms acc R s:=by
   intro ms
   induction ms with
   |nil=>intro acc P R s hp hj;exact hp _ _ hj
   |cons m r ih=>
    intro acc P R s hp hj
    exact wpAny_mono hj (fun v s1 ⟨y,t,e,l,k⟩=>⟨y,t,e,l,ih _ P R s1 hp k⟩) fun _ _ z=>z
  refine mono _ _ _ _ s (fun o s1 ⟨hl,H',I',q⟩=> ?_) this
  exact ⟨Nat.le_trans hl (by rw[sizeLine_eq];decide),.str o,H',I'.tok _,⟨_,rfl⟩,q⟩
 ·refine qj σ ρ H α M Str.empty _ s h (OG.seq q fun x M1 v H1 α1 e1 h1 r1 q1=> ?_)
  cases r1
  exact q1 _ H1 α1 Ext.refl h1 (.str x)
end
end DL
end
section
namespace DL
open PySem PySem.Spec PyProof.Rows L2
theorem Zg2 {β γ:Type} {o:Out β} {f:β->Sto->Out γ} {g:γ->Sto->Fl}:ZaS (o.bind f) g=ZaS o fun x M=>ZaS (f x M) g:=by cases o<;>rfl
section
variable {X:Cx} {ξ:XK} {tg iter elt:Expr} {ifs:List Expr} {scope:Scope} {cl:List (Str × Addr)} {N:List Str} {k:Nat} {fr:List Nat} {fi:Ro->Sto->Out Src} {gt:Tg} {c:Tv} {f:Ev} {pos:Pos}
theorem Zeg (iv:Nat) {x:Str} {pos' spos:Pos} (hN:X.N.Nodup) (B:Blk X scope cl N k fr) (hi:DI X ξ tg iter fi) (hg: ∀ C fp s H,DG (blk X scope cl N C fp s H) tg gt) (ht: ∀ C fp s H,DC (blk X scope cl N C fp s H) ifs c) (he: ∀ C fp s H,DE (blk X scope cl N C fp s H) E0 elt f)
  (hiv:X.N[iv]?=some x:=by rfl) (hxl:Loc X.env.scope x:=by first | exact Or.inl rfl | exact Or.inr rfl) (hsw:swapsWith (.ListComp elt [⟨tg,iter,ifs,0⟩] scope pos) (some (.Name x pos')) spos.line X.env=pure true:=by rfl) (hf:X.fn x=true\/X.env.scope.names.lookup x=some .local:=by first | exact .inl rfl | exact .inr rfl | assumption)
  (hs: ∀ x,foldedSetIterable iter X.env x=pure x:=by intro _;rfl):DS X ξ (.Assign [.Name x pos'] (.ListComp elt [⟨tg,iter,ifs,0⟩] scope pos) spos) (ZQ (gNm iv) (Zbx fi k fr gt c f)):=by
 obtain ⟨wi,pi,qi⟩:=hi
 refine ⟨fun Dn σ H=> ∃ ρ α M,SR X.K H α σ ρ/\HR X.K H α M/\FP X.K H α ξ Dn (ZQ (gNm iv) (Zbx fi k fr gt c f) ρ M),?_,fun σ ρ H α M Dn s h q=>⟨ρ,α,M,s,h,q⟩⟩
 rintro pins s σ H Dn I ⟨ρ,α,M,sr,hr,op⟩
 rw[exec_Assign_Name_used _ _ _ _ hsw]
 refine wpAny_bind (wpAny_standAt (wpAny_bind ?_))
 show wpAny _ X.A (do let _ <- comprehension (.ListComp elt [⟨tg,iter,ifs,0⟩] scope pos) scope X.env _ (newList []) false (eval iter X.env) (some (assign (.Name x pos') X.env))) _ _ s
 have op:FP X.K H α ξ Dn (ZaS (fi ρ M) fun src M1=>ZaS (match ZdH src gt c f M1.length (cnt src M1) 0 (roB k fr ρ) (M1 ++ [.lst []]) with | .ok _ M2'=> .ok (.ref M1.length) M2' | _=> .bad) fun d M1=>Fl.nx (ρ.set iv (some d)) M1):=by
  have e:ZQ (gNm iv) (Zbx fi k fr gt c f) ρ M=(ZaS (fi ρ M) fun src M1=>ZaS (match ZdH src gt c f M1.length (cnt src M1) 0 (roB k fr ρ) (M1 ++ [.lst []]) with | .ok _ M2'=> .ok (.ref M1.length) M2' | _=> .bad) fun d M1=>Fl.nx (ρ.set iv (some d)) M1):=by
   unfold ZQ Zbx
   rw[Zg2]
   rfl
  rw[<- e]
  exact op
 refine wpAny_bind (wpAny_mono (wpAny_comprehension_free (Q:=fun _ s'=>SP X pins Dn .next s') (use:=some (assign (.Name x pos') X.env)) rfl hs B.clos B.kind B.names ?_) (fun _ s' hq=>wpAny_pure (wpAny_pure hq)) fun _ _ e=>e)
 refine thn (pi pins s σ H (fun J H2=> ∃ α2 M2 src,Ext X.K H H2 α α2/\HR X.K H2 α2 M2/\Zl5 X.K H2 α2 J src/\FP X.K H2 α2 ξ Dn (ZaS (match ZdH src gt c f M2.length (cnt src M2) 0 (roB k fr ρ) (M2 ++ [.lst []]) with | .ok _ M2'=> .ok (.ref M2.length) M2' | _=> .bad) fun d M1=>Fl.nx (ρ.set iv (some d)) M1)) I
  (qi σ ρ H α M _ sr hr (FP.seq op fun src M1 J H1 α1 e1 h1 r1 q1=>⟨α1,M1,src,e1,h1,r1,q1⟩))) fun v s1 w1=>thn w1 fun itv s2 w2=> ?_
 obtain ⟨it,fp,tn,J,H2,rfl,I2,T,st2,f2,α2,M2,src,e2,h2,sc,op2⟩:=w2
 have srI:=sr.mono e2
 refine wpAny_newObj_type ?_
 have I3:Inv X pins σ (upd H2 s2.heap.objs.size (.lst [])) { s2 with heap:=s2.heap.push { cls:= .type "list",data:= .seq ([]:List Value).toArray } }:=I2.lnew (its:=[]) (t':=s2.toks) .nil (Nat.zero_le _)
 have fD:H2 s2.heap.objs.size=none:=I2.fresh
 generalize hD:s2.heap.objs.size=D at I3 fD
 generalize hs3:({ s2 with heap:=s2.heap.push { cls:= .type "list",data:= .seq ([]:List Value).toArray } }:Shared)=s3 at I3
 generalize hH3:upd H2 D (.lst [])=H3 at I3
 have h3:HR X.K H3 (α2 ++ [D]) (M2 ++ [.lst []]):=by rw[<- hH3];exact h2.new fD .nil
 have e3:Ext X.K H2 H3 α2 (α2 ++ [D]):=by rw[<- hH3];exact Ext.new fD
 have aD:RefK H3 (α2 ++ [D]) 0 M2.length D:=⟨h2.last D,by first | exact Kn.lst ZC | (rw[<- hH3];exact Kn.lst ZC)⟩
 have lt2: ∀ b∈fp,b < s2.heap.objs.size:=fun b hb=>let ⟨o,e,_⟩:=T.obj _ _ st2 b hb;Heap.lt_size e
 have keep3: ∀ b o,s2.heap.get? b=some o->s3.heap.get? b=some o:=fun b o e=>by rw[<- hs3];exact Heap.get?_push_of_some _ e
 have f3: ∀ b∈fp,ZdP X pins H3 b:=fun b hb=>⟨by rw[<- hH3,ZP (by rw[<- hD];exact Nat.ne_of_lt (lt2 b hb))];exact (f2 b hb).1,(f2 b hb).2⟩
 have lt3: ∀ b∈fp,b < s3.heap.objs.size:=fun b hb=>let ⟨o,e,_⟩:=T.obj _ _ st2 b hb;Heap.lt_size (keep3 b o e)
 have st3:tn 0 s3.heap:=T.keep _ _ _ st2 fun b _ o e=>keep3 b o e
 refine wpAny_newFunctionEnv B.cell (by intro y hy;simp at hy) (fun h₁ hns₁ hsb₁=> ?_) B.kind
 have keep4: ∀ b o,s3.heap.get? b=some o->h₁.get? b=some o:=fun b o e=>hsb₁.extBut b o (Nat.ne_of_lt (Heap.lt_size e)) (Heap.get?_push_of_some _ e)
 have I4:=ZfH (tk:=s3.toks + ([]:List (Str × Value)).length) B I3 f3 lt3 hns₁ keep4
 have st4:tn 0 h₁:=T.keep _ _ _ st3 fun b _ o e=>keep4 b o e
 have fp5: ∀ {H':Hp},(∀ b∈fp,H' b=none)-> ∀ b∈fp,ZdP (blk X scope cl N s3.heap.objs.size fp s3 H3) [] H' b:=fun hn b hb=>⟨hn b hb,Nat.ne_of_lt (lt3 b hb),(Zgs B I3 f3 lt3).exfs b hb,.inl hb,fun x c h=>(f3 b hb).2.2.2.2.1 x c (B.sub x c h),fun p hp=>(by simp[blk] at hp)⟩
 cases er:ZdH src gt c f M2.length (cnt src M2) 0 (roB k fr ρ) (M2 ++ [.lst []]) with
 |exc x M9=>rw[er] at op2;exact op2.elim
 |bad=>rw[er] at op2;exact op2.elim
 |ok u9 M9=>
  rw[er] at op2
  have loop:codeAny (model X.prog X.w) X.A (.compLoop (.ListComp elt [⟨tg,iter,ifs,0⟩] scope pos) 0 (.ref it) (.ref D) (compEnvC scope cl s3.heap.objs.size X.env)) (compPost (model X.prog X.w) X.A X.xe (some (assign (.Name x pos') X.env)) (fun _ s'=>SP X pins Dn .next s') (.ref D) s3.heap.objs.size) { s3 with heap:=h₁,toks:=s3.toks + ([]:List (Str × Value)).length }:=by
   refine Zgt (Y:=blk X scope cl N s3.heap.objs.size fp s3 H3) T (fun _ _ z=>z) fp5 (hg _ fp s3 H3) (ht _ fp s3 H3) (he _ fp s3 H3) (fun i H' α' M' ex hr=>sc i H' α' M' (e3.trans ex) hr) aD I4 st4 (fun b hb=>(f3 b hb).1) ((srI.blk).mono e3) h3 er ?_
   intro σ5 H5 α5 s6 I6 ex5 hr5
   obtain ⟨I7,tu⟩:=Zeb B I3 f3 I6
   obtain ⟨m6,hm6,_⟩:=id I6.loc
   refine wpAny_assign_Name (ZeD (v:= .ref D) I7 hN hiv hxl rfl (fun s8 I8 ⟨a,sb8,ha⟩=> ?_) hf)
   have nca:s3.heap.objs.size≠a:=by
    rcases ha with e | e
    ·rw[e];exact Nat.ne_of_gt I3.lt
    ·intro z
     obtain ⟨v,o,e',_⟩:=I3.cell x a e
     exact absurd (Heap.lt_size e') (by rw[<- z];exact Nat.lt_irrefl _)
   exact ⟨m6,hm6.sameBut sb8 nca,fun h' sb=>⟨_,H5,tu _ s8 h' I8 (fun b o hb e=>(sb.2 b hb).trans e),op2 _ H5 α5 (e3.trans ex5) hr5 ((srI.mono (e3.trans ex5)).set iv (.ref (ex5.get aD)))⟩⟩
  exact codeAny_compStart_list loop (T.self X.A 0 _ _ _ st4 loop)
end
end DL
end
section
namespace DL
open PySem PySem.Spec PyProof.Rows L2
noncomputable def ZuJ:Bo:=fun x y M=>match x,y with
 | .ref n,.int k=>match M[n]? with
  |some (.lst xs)=>if (-9223372036854775808<=k/\k < 9223372036854775808)/\xs.length * k.toNat<=100000 then .ok (.ref M.length) (M ++ [.lst (List.replicate k.toNat xs).flatten]) else .bad
  |none=> .bad
 |_,_=> .bad
section
variable {X:Cx} {ξ:XK} {a b:Expr} {fa fb:Ev} {pos:Pos}
end
end DL
end
namespace DL
open PySem PySem.Spec L2
open PySem.W
theorem Zg3:typeLookup (.type "list_reverseiterator") "__len__"=pure none:=by rw[typeLookup_type,builtinLookup_eq_fast];kernel_rfl
theorem Zkd:typeLookup (.type "list_reverseiterator") "__length_hint__"=pure (some (.builtin "list_reverseiterator.__length_hint__")):=by rw[typeLookup_type,builtinLookup_eq_fast];kernel_rfl
theorem Zmk:isSubtype (.type "list_reverseiterator") (.type "list_reverseiterator")=pure true:=by rw[isSubtype_type];kernel_rfl
theorem Zit:splitId "list_reverseiterator.__length_hint__"=some ("list_reverseiterator","__length_hint__"):=by decide +kernel
section
variable {prog:Program} {w:World} {A:Around} {E:Value->Shared->Prop} {s:Shared}
theorem Zke {I:Addr} {Q:Bool->Shared->Prop} (hT:s.TypeIs (.ref I) "list_reverseiterator") (h:Q false s):wpAny (model prog w) A (Builtin.List.listLengthHint (.ref I)) Q E s:=by
 unfold Builtin.List.listLengthHint
 refine wpAny_bind (wpAny_specialOf hT Zg3 ?_)
 show wpAny _ A (specialOf (Value.ref I) (Str.ofString "__length_hint__") >>= _) _ _ _
 refine wpAny_bind (wpAny_specialOf hT Zkd ?_)
 simp only[Zit]
 refine wpAny_bind (wpAny_isInstance hT Zmk ?_)
 exact wpAny_pure h
end
section
variable {prog:Program} {w:World} {A:Around} {s:Shared} {R:Result->Shared->Prop}
variable {I:Addr} {fp wr:List Addr} {G:Array GenState->Array GenState->Prop} {n:Nat} {P:Nat->Value->Prop} {St:Nat->Shared->Prop}
theorem Zg4 (W:WalksS prog w A.in1 I fp wr G n P St) (hT: ∀ i s,St i s->s.TypeIs (.ref I) "list_reverseiterator") (S:Addr) (res:Value) (c₀:Nat) (hst:St 0 s) (hSf:S ∉ fp) (hI:I∈fp)
  (hS:s.heap.get? S=some { cls:= .type "list",data:= .seq #[] c₀ })
  (hR: ∀ s' acc' c',Moved (S :: wr) G s s'->s'.heap.get? S=some { cls:= .type "list",dict:=none,data:= .seq acc' c',slots:= #[] }->ItemsOf P acc' n->R (.ok (.ret res)) s') (hn:n<=sizeLine):
  wpAny (model prog w) A.in1 (Builtin.List.listExtendWith (.ref S) (.ref I) res)
   (fun fin s'=>match fin with | .done f=>R (.ok f) s' | .again c'=>c'.quiet=true/\codeAny (model prog w) A c' R s') (fun e s'=>R (.error e) s') s:=by
 have hSI:S≠I:=fun e=>hSf (e ▸ hI)
 unfold Builtin.List.listExtendWith
 refine wpAny_bind (wpAny_typeOf (hT 0 _ hst) ?_)
 have h1:Builtin.List.listSameRef (.ref S) (.ref I)=false:=by simp[Builtin.List.listSameRef,hSI]
 have h2:(Value.type "list_reverseiterator" == Value.type "list")=false:=by decide
 have h3:(Value.type "list_reverseiterator" == Value.type "tuple")=false:=by decide
 simp only[h1,h2,h3,Bool.or_false,Bool.false_eq_true,if_false]
 refine wpAny_bind (W.self 0 _ _ _ hst ?_)
 refine wpAny_bind (wpAny_holding ?_)
 refine Zke (hT 0 _ hst) ?_
 refine wpAny_pure ⟨plainId_quiet F.plain_extend_loop _,codeAny_extend_loopS W hn _ hSf _ n 0 _ _ _ rfl (Nat.zero_le _) hst hS (ItemsOf.nil P) fun s' acc' c' hm hS' hacc=> ?_⟩
 exact hR s' acc' c' hm hS' hacc
theorem Zeh (W:WalksS prog w A.in1 I fp wr G n P St) (hT: ∀ i s,St i s->s.TypeIs (.ref I) "list_reverseiterator") (S:Addr) (hst:St 0 s) (hSf:S ∉ fp) (hI:I∈fp)
  (hS:s.heap.get? S=some { cls:= .type "list",data:= .seq #[] })
  (hR: ∀ s' acc' c',Moved (S :: wr) G s s'->s'.heap.get? S=some { cls:= .type "list",dict:=none,data:= .seq acc' c',slots:= #[] }->ItemsOf P acc' n->R (.ok (.ret .none)) s') (hn:n<=sizeLine):
  wpAny (model prog w) A.in1 (Builtin.«list.__init__» ⟨[.ref S,.ref I],[]⟩)
   (fun fin s'=>match fin with | .done f=>R (.ok f) s' | .again c'=>c'.quiet=true/\codeAny (model prog w) A c' R s') (fun e s'=>R (.error e) s') s:=by
 show wpAny _ A.in1 (do let old <- Builtin.List.listItems (.ref S);Builtin.List.listUpdate (.ref S) (fun _=> #[]);letGo old.toList.reverse;Builtin.List.listExtendWith (.ref S) (.ref I) .none) _ _ s
 refine wpAny_bind ?_
 unfold Builtin.List.listItems
 refine wpAny_bind (wpAny_seqItems hS rfl (wpAny_pure ?_))
 show wpAny _ A.in1 (updateSeq S (fun _=> #[]) >>= fun _=>letGo (#[]:Array Value).toList.reverse >>= fun _=>Builtin.List.listExtendWith (.ref S) (.ref I) .none) _ _ s
 refine wpAny_bind (wpAny_updateSeq hS rfl ?_)
 have hS₂:=Heap.get?_update_self (Obj.mapSeq (fun _=>(#[]:Array Value))) hS rfl
 have oth: ∀ b o,b≠S->s.heap.get? b=some o->(s.heap.update S (Obj.mapSeq (fun _=>(#[]:Array Value)))).get? b=some o:=
  fun b o hb e=>(Heap.get?_update_other _ _ (Ne.symm hb)).trans e
 refine wpAny_bind (wpAny_letGo ?_)
 refine Zg4 W hT S .none _ (W.frame 0 s _ s.toks hst (Nat.le_refl _) fun b hb o e=>oth b o (fun h=>hSf (h ▸ hb)) e) hSf hI hS₂ (fun s' acc' c' hm hS' hacc=> ?_) hn
 exact hR s' acc' c' (Moved.trans W.gtrans ((Moved.refl W.grefl).then_heap (Nat.le_refl _) fun b o hb e=>oth b o (fun h=>hb (h ▸ List.mem_cons_self)) e) hm) hS' hacc
end
section
variable {prog:Program} {w:World} {A:Around} {E:Value->Shared->Prop} {s:Shared}
variable {I:Addr} {fp wr:List Addr} {G:Array GenState->Array GenState->Prop} {n:Nat} {P:Nat->Value->Prop} {St:Nat->Shared->Prop}
theorem Zei {Q:Value->Shared->Prop} (W:WalksS prog w A.in1.in1 I fp wr G n P St) (hT: ∀ i s,St i s->s.TypeIs (.ref I) "list_reverseiterator") (hst:St 0 s) (hfp: ∀ b∈fp,b < s.heap.objs.size) (hI:I∈fp)
  (hQ: ∀ s' acc' c',Moved (s.heap.objs.size :: wr) G { s with heap:=s.heap.push { cls:= .type "list",data:= .seq #[] } } s'->
   s'.heap.get? s.heap.objs.size=some { cls:= .type "list",dict:=none,data:= .seq acc' c',slots:= #[] }->ItemsOf P acc' n->Q (.ref s.heap.objs.size) s') (hn:n<=sizeLine):
  wpAny (model prog w) A (call (.type "list") [.ref I]) Q E s:=by
 have hSf:s.heap.objs.size ∉ fp:=fun hm=>Nat.lt_irrefl _ (hfp _ hm)
 refine callType_codes (Q₁:=fun obj s₁=>obj= .ref s.heap.objs.size/\s₁={ s with heap:=s.heap.push { cls:= .type "list",data:= .seq #[] } }) F.called_list (F.typeCall_list_1 _) F.entry_list_init
  (code_list_new _ ⟨rfl,rfl⟩) fun obj s₁ h₁=> ?_
 obtain ⟨rfl,rfl⟩:=h₁
 have hS:(s.heap.push { cls:= .type "list",data:= .seq #[] }).get? s.heap.objs.size=some { cls:= .type "list",data:= .seq #[] }:=Heap.get?_push_size _ rfl
 refine ⟨⟨_,hS,rfl⟩,F.args_list_init_2 _ _,Zeh W hT _ (W.frame 0 s _ s.toks hst (Nat.le_refl _) fun b _ o e=>Heap.get?_push_of_some _ e) hSf hI hS (fun s' acc' c' hm hS' hacc=> ?_) hn⟩
 exact ⟨rfl,hQ s' acc' c' hm hS' hacc⟩
end
section
variable {X:Cx} {ξ:XK} {a:Expr} {fs:Av} {p1 p2 p3 pos:Pos} {ta:TA}
noncomputable def tLR (K:PySem.W.Frag) (t:TA):TE:=fun σ H Q=>t σ H fun vs H1=> ∃ l xs,vs=[.ref l]/\SqL K H1 l xs/\ ∀ p,H1 p=none->Q (.ref p) (upd H1 p (.lst xs.reverse))
theorem Ziu {its:List Value} {acc:Array Value} (h:ItemsOf (fun i v=>its.toArray[its.toArray.size - 1 - i]?=some v) acc its.toArray.size):acc=its.reverse.toArray:=by
 obtain ⟨hz,hv⟩:=h
 apply Array.ext'
 apply List.ext_getElem?
 intro i
 rw[List.toList_toArray]
 by_cases hi:i < acc.size
 ·have e:acc.toList[i]?=some acc[i]:=by rw[Array.getElem?_toList];exact Array.getElem?_eq_getElem hi
  have:=hv i _ (Array.getElem?_eq_getElem hi)
  rw[e,<- this,List.getElem?_toArray,List.size_toArray,List.getElem?_reverse (by rw[hz,List.size_toArray] at hi;exact hi)]
 ·rw[List.getElem?_eq_none (by rw[Array.length_toList];omega),List.getElem?_eq_none (by rw[hz,List.size_toArray] at hi;rw[List.length_reverse];omega)]
theorem Zrt (hc:X.A.handled=none) (hgl:Gl X "list") (hml:X.mg "list"=none) (hg:Gl X "reversed") (hm:X.mg "reversed"=none) (ha:PA X [a] ta) (hs:starEach [a] X.env=(false,eval a X.env) :: starEach [] X.env:=by rfl) (hpl:(backTo p3 (starEach [] X.env)).any (·.1)=false:=by rfl) (hs1:starEach [.Call (.Name "reversed" p2) [a] [] p3] X.env=(false,eval (.Call (.Name "reversed" p2) [a] [] p3) X.env) :: starEach [] X.env:=by rfl) (hpl1:(backTo pos (starEach [] X.env)).any (·.1)=false:=by rfl):
  PE X (.Call (.Name "list" p1) [.Call (.Name "reversed" p2) [a] [] p3] [] pos) (tLR X.K ta):=by
 intro pins s σ H Q I h
 refine wpAny_Call_Name_kw (Zb5 I hgl hml Zda (PyProof.Rows.callWith_type1 ?_ hs1 hpl1) (by decide) (by decide))
 rw[hs1]
 show wpAny _ _ (spliced ((false,eval (.Call (.Name "reversed" p2) [a] [] p3) X.env) :: backTo pos (starEach [] X.env))) _ _ s
 refine Calls.spliced_cons ?_
 refine wpAny_Call_Name_kw (Zb5 I hg hm Zdi (PyProof.Rows.callWith_type1 (thn (ha p3 pins s σ H _ I h) fun us s1 ⟨vs,H1,I1,r1,q1⟩=> ?_) hs hpl) (by decide) (by decide))
 obtain ⟨l,xs,rfl,hq,q⟩:=q1
 obtain ⟨u,rfl,ru⟩:=ZcV r1
 cases ru
 obtain ⟨its,rv,pl,hz⟩:=I1.list hq
 have hll:l < s1.heap.objs.size:=by
  obtain ⟨o,ho,_⟩:=pl.isList
  exact Heap.lt_size ho
 refine call_reversed_list pl.isList (Calls.spliced_nil ?_)
 have W:=(PySem.Walks.listRev (prog:=X.prog) (w:=X.w) (A:=X.A.in1.in1) hc s1.heap.objs.size l (Nat.ne_of_lt hll) its.toArray).toS
 have hsz:its.toArray.size<=sizeLine:=by rw[List.size_toArray,<- rv.length];exact hz
 refine Zei W (fun i s x=>x.2.1.typeIs) ⟨Nat.zero_le _,⟨_,Heap.get?_push_size _ rfl,rfl,?_⟩,?_⟩ ?_ (by simp) (fun s' acc c hmv hS hit=> ?_) hsz
 ·show Data.fields #[.ref l,rawInt ((its.toArray.size:Int) - 1)]=_
  rw[show (its.toArray.size:Int) - 1 - ((0:Nat):Int)=(its.toArray.size:Int) - 1 by omega]
 ·exact pl.isList.at fun o e=>Heap.get?_push_of_some _ e
 ·intro b hb
  have:b=s1.heap.objs.size\/b=l:=by simpa using hb
  have hz2:(s1.heap.push (revObj l ((its.toArray.size:Int) - 1))).objs.size=s1.heap.objs.size + 1:=by simp[Heap.push]
  show b < (s1.heap.push (revObj l ((its.toArray.size:Int) - 1))).objs.size
  rw[hz2]
  rcases this with rfl | rfl
  ·exact Nat.lt_succ_self _
  ·exact Nat.lt_succ_of_lt hll
 ·have ea:=Ziu hit
  subst ea
  have hz2:(s1.heap.push (revObj l ((its.toArray.size:Int) - 1))).objs.size=s1.heap.objs.size + 1:=by simp[Heap.push]
  have K: ∀ b u,s1.heap.get? b=some u->s'.heap.get? b=some u:=by
   intro b u hb
   have hlt:=Heap.lt_size hb
   refine hmv.heap b u ?_ (Heap.get?_push_of_some _ (Heap.get?_push_of_some _ hb))
   intro hmem
   have:b=s1.heap.objs.size + 1\/b=s1.heap.objs.size:=by
    simp only[List.mem_cons,List.not_mem_nil,or_false] at hmem
    rcases hmem with e | e
    ·exact .inl (e.trans hz2)
    ·exact .inr e
   rcases this with e | e
   ·exact absurd (e ▸ hlt) (Nat.not_lt.mpr (Nat.le_succ _))
   ·exact absurd (e ▸ hlt) (Nat.lt_irrefl _)
  have es:s'={ s1 with heap:=s'.heap,toks:=s'.toks }:=by
   obtain ⟨h1,g1,d1,t1,o1⟩:=s1
   obtain ⟨h2,g2,d2,t2,o2⟩:=s'
   have e1:g2=g1:=hmv.gens
   have e2:d2=d1:=hmv.drawn
   have e3:o2=o1:=hmv.os
   subst e1 e2 e3
   rfl
  have hS':s'.heap.get? (s1.heap.objs.size + 1)=some { cls:= .type "list",dict:=none,data:= .seq its.reverse.toArray c,slots:= #[] }:=by
   rw[<- hz2];exact hS
  show EP X pins σ Q (.ref (s1.heap.push (revObj l ((its.toArray.size:Int) - 1))).objs.size) s'
  rw[hz2,es]
  refine ⟨.ref _,_,I1.laid (t':=s'.toks) (o:= .lst xs.reverse) K (Nat.le_succ _) ?_,rfl,q _ (I1.hok.fresh (Nat.le_succ _))⟩
  exact ⟨by rw[List.length_reverse];exact hz,its.reverse,c,rv.reverse,hS'⟩
noncomputable def bLR:List D->Sto->Out D:=fun ds M1=>match ds with
 | [.ref n]=>(match M1[n]? with | some (.lst xs)=> .ok (.ref M1.length) (M1 ++ [.lst xs.reverse]) | none=> .bad)
 | [.rol xs]=> .ok (.ref M1.length) (M1 ++ [.lst xs.reverse])
 |_=> .bad
theorem Zru (hc:X.A.handled=none) (hml:X.mg "list"=none) (hm:X.mg "reversed"=none) (ha:DA X ξ [a] fs) (hgl:Gl X "list":=by rfl) (hg:Gl X "reversed":=by rfl) (hs:starEach [a] X.env=(false,eval a X.env) :: starEach [] X.env:=by rfl) (hpl:(backTo p3 (starEach [] X.env)).any (·.1)=false:=by rfl) (hs1:starEach [.Call (.Name "reversed" p2) [a] [] p3] X.env=(false,eval (.Call (.Name "reversed" p2) [a] [] p3) X.env) :: starEach [] X.env:=by rfl) (hpl1:(backTo pos (starEach [] X.env)).any (·.1)=false:=by rfl):
  DE X ξ (.Call (.Name "list" p1) [.Call (.Name "reversed" p2) [a] [] p3] [] pos) (Zl bLR fs):=by
 obtain ⟨ta,pa,qa⟩:=ha
 refine ⟨_,Zrt hc hgl hml hg hm pa hs hpl hs1 hpl1,fun σ ρ H α M Q s hh w=>qa σ ρ H α M _ s hh (OG.seq w fun ds M1 vs H1 α1 e1 h1 r1 w1=> ?_)⟩
 match r1 with
 | .nil=>exact w1.elim
 | .cons r (.cons _ _)=>cases r<;>exact w1.elim
 | .cons r .nil=>
  cases r with
  | @rol a xs ds hp rp=>
   have w2:OP X.K H1 α1 ξ Q (.ok (.ref M1.length) (M1 ++ [.lst ds.reverse])):=w1
   exact ⟨a,xs,rfl,hp.sq,fun l hl=>w2 _ _ (α1 ++ [l]) (Ext.new hl) (h1.new hl rp.rev) (.ref ⟨h1.last l,Kn.lst ZC⟩)⟩
  | @ref a n hp=>
   cases em:M1[n]? with
   |none=>simp only[bLR,em] at w1;exact w1.elim
   |some so=>
    cases so with
    |lst es=>
     simp only[bLR,em] at w1
     obtain ⟨xs,g1,g2⟩:=h1.at hp em
     exact ⟨a,xs,rfl,SqL.of g1,fun l hl=>w1 _ _ (α1 ++ [l]) (Ext.new hl) (h1.new hl g2.rev) (.ref ⟨h1.last l,Kn.lst ZC⟩)⟩
  |_=>exact w1.elim
end
end DL
section
namespace DL3
open PySem PySem.Spec PyProof.Rows L2 DL
open Sem (wp)
section
variable {prog:Program} {w:World} {A:Around} {E:Value->Shared->Prop} {s:Shared}
end
section
variable {prog:Program} {w:World} {A:Around} {E:Value->Shared->Prop} {s:Shared}
end
section
variable {X:Cx} {ξ:XK} {y1 y2 y3:Expr} {elts:List Expr} {k0:Nat} {tp:Pos} {fs:Av} {p pos:Pos} {ta:TA}
end
end DL3
end
section
namespace DL4
open PySem PySem.Spec PyProof.Rows L2 DL
open Sem (wp)
section
variable {prog:Program} {w:World} {A:Around} {E:Value->Shared->Prop} {s:Shared}
end
section
variable {prog:Program} {w:World} {A:Around} {E:Value->Shared->Prop} {s:Shared}
end
section
variable {X:Cx} {ξ:XK} {y1 y2 y3 y4:Expr} {elts:List Expr} {k0:Nat} {tp:Pos} {fs:Av} {p pos:Pos} {ta:TA}
end
end DL4
end
section
namespace PySem.SeqAt
open AutoSeq1 (wpAny_loadPart')
open MeetsSeq MeetsSeq2 MeetsSeq3 SeqRoads2
noncomputable def Zrv (A:Around) (s:Shared) (y x:Value) (b:Bool):Prop:=
 ∀ (prog:Program) (w:World) (E:Value->Shared->Prop) (Q:Value->Shared->Prop),Q (.bool b) s->wpAny (model prog w) A (richCompare .Lt y x) Q E s
noncomputable def lxI (e f:Nat->Bool) (m n:Nat):Nat->Nat->Bool
 |0,_=>decide (m < n)
 |k + 1,i=>if e i=true then lxI e f m n k (i + 1) else f i
theorem Ziv (l b:Addr) (items items2:Array Value) (n n2:Nat) (dd dd2:Option Addr) (sl sl2:Array (Option Value)) (e f:Nat->Bool) (k:Nat):
  ∀ i:Nat,min items.size items2.size - i=k->Meets (Builtin.«list.__eq__.loop» ⟨[.ref l,.ref b,rawInt i,rawInt 0],[]⟩)
   (fun A R s=>s.heap.get? l=some { cls:= .type "list",dict:=dd,data:= .seq items n,slots:=sl }/\s.heap.get? b=some { cls:= .type "list",dict:=dd2,data:= .seq items2 n2,slots:=sl2 }/\
    (∀ j (h1:j < items.size) (h2:j < items2.size),EqAt A.in1 s items[j] items2[j] (e j))/\(∀ j (h1:j < items.size) (h2:j < items2.size),e j=false->Zrv A.in1 s items[j] items2[j] (f j))/\
    R (.ok (.ret (.bool (lxI e f items.size items2.size k i)))) s):=by
 induction k with
 |zero=>
  intro i hk prog w A R s h
  obtain ⟨hp,g,d,tk,os⟩:=s;obtain ⟨hl,hb,he,hf,h⟩:=h
  wp_walk using wpAny_loadPart' hl,wpAny_loadPart' hb
  have hor:items[((i:Nat):Int).toNat]?=none\/items2[((i:Nat):Int).toNat]?=none:=by
   rcases Nat.lt_or_ge i items.size with c | c
   ·exact .inr (by simp;omega)
   ·exact .inl (by simp;omega)
  rcases hor with hi1 | hi2
  ·rw[hi1]
   wp_walk using wpAny_loadPart' hl,wpAny_loadPart' hb
   exact h
  ·rw[hi2]
   cases hi1:items[((i:Nat):Int).toNat]? with
   |none=>
    wp_walk using wpAny_loadPart' hl,wpAny_loadPart' hb
    exact h
   |some x=>
    wp_walk using wpAny_loadPart' hl,wpAny_loadPart' hb
    exact h
 |succ k ih=>
  intro i hk prog w A R s h
  obtain ⟨hp,g,d,tk,os⟩:=s;obtain ⟨hl,hb,he,hf,h⟩:=h
  wp_walk using wpAny_loadPart' hl,wpAny_loadPart' hb
  have hlt:i < items.size:=by omega
  have hlt2:i < items2.size:=by omega
  have hi1:items[((i:Nat):Int).toNat]?=some items[i]:=by simp[hlt]
  have hi2:items2[((i:Nat):Int).toNat]?=some items2[i]:=by simp[hlt2]
  have hc:((i:Int) + 1)=((i + 1:Nat):Int):=by push_cast;rfl
  rw[lxI] at h
  rw[hi1,hi2]
  refine wpAny_bind (he i hlt hlt2 prog w _ _ ?_)
  cases hb':e i with
  |true=>
   rw[if_pos hb'] at h
   wp_walk
   rw[hc]
   exact ⟨plainId_quiet plain_eq_loop _,codeAny_builtin entry_eq_loop (by
    rw[Around.under_plainId plain_eq_loop _]
    exact ih (i + 1) (by omega) prog w A R _ ⟨hl,hb,he,hf,h⟩)⟩
  |false=>
   rw[if_neg (by rw[hb'];decide)] at h
   wp_walk using wpAny_loadPart' hl,wpAny_loadPart' hb
   rw[hi1,hi2]
   refine wpAny_bind (hf i hlt hlt2 hb' prog w _ _ ?_)
   wp_walk
   exact h
theorem Ziw (l b:Addr) (items items2:Array Value) (n n2:Nat) (dd dd2:Option Addr) (sl sl2:Array (Option Value)) (e f:Nat->Bool):
  Meets (Builtin.«list.__lt__» ⟨[.ref l,.ref b],[]⟩)
   (fun A R s=>s.heap.get? l=some { cls:= .type "list",dict:=dd,data:= .seq items n,slots:=sl }/\s.heap.get? b=some { cls:= .type "list",dict:=dd2,data:= .seq items2 n2,slots:=sl2 }/\
    (∀ j (h1:j < items.size) (h2:j < items2.size),EqAt A.in1 s items[j] items2[j] (e j))/\(∀ j (h1:j < items.size) (h2:j < items2.size),e j=false->Zrv A.in1 s items[j] items2[j] (f j))/\
    R (.ok (.ret (.bool (lxI e f items.size items2.size (min items.size items2.size) 0)))) s):=by
 intro prog w A R s h
 obtain ⟨hp,g,d,tk,os⟩:=s;obtain ⟨hl,hb,he,hf,h⟩:=h
 have f3:=AutoSeq1.sub_list_list
 wp_walk using wpAny_loadPart' hl,wpAny_loadPart' hb
 exact ⟨plainId_quiet plain_eq_loop _,codeAny_builtin entry_eq_loop (by
  rw[Around.under_plainId plain_eq_loop _]
  exact Ziv l b items items2 n n2 dd dd2 sl sl2 e f _ 0 rfl prog w A R _ ⟨hl,hb,he,hf,h⟩)⟩
end PySem.SeqAt
namespace DL
open PySem PySem.Spec PyProof.Rows L2
open PySem.SeqAt
noncomputable def ZaJ:List D->Option (List Int)
 | []=>some []
 | .int i :: r=>match ZaJ r with | some is=>some (i :: is) | none=>none
 |_ :: _=>none
noncomputable def ltE:D->D->Option Bool
 | .int a,.int b=>some (decide (a < b))
 | .tup xs,.tup ys=>(match ZaJ xs,ZaJ ys with | some a,some b=>some (HT.Zaa a b) | _,_=>none)
 |_,_=>none
noncomputable def ltL:List D->List D->Option Bool
 | [],[]=>some false
 | [],_ :: _=>some true
 |_ :: _,[]=>some false
 |x :: xs,y :: ys=>match ltE x y with
  |none=>none
  |some b=>if eqX x y=true then ltL xs ys else some b
where eqX:D->D->Bool
 | .int a,.int b=>a == b
 | .tup xs,.tup ys=>ZaJ xs == ZaJ ys
 |_,_=>false
theorem ZeY {M:Sto} {n:Nat}: ∀ {xs ys:List D} {a b:List Int},ZaJ xs=some a->ZaJ ys=some b->eqL (eqF (n + 1) M) xs ys=some (a == b)
 | [],[],a,b,h1,h2=>by cases h1;cases h2;rfl
 | [],y :: ys,a,b,h1,h2=>by
  cases h1
  cases y with
  |int i=>
   unfold ZaJ at h2
   split at h2
   ·cases h2;rfl
   ·cases h2
  |_=>cases h2
 |x :: xs,[],a,b,h1,h2=>by
  cases h2
  cases x with
  |int i=>
   unfold ZaJ at h1
   split at h1
   ·cases h1;rfl
   ·cases h1
  |_=>cases h1
 |x :: xs,y :: ys,a,b,h1,h2=>by
  cases x with
  |int i=>
   cases y with
   |int j=>
    unfold ZaJ at h1 h2
    split at h1
    ·rename_i is e1
     split at h2
     ·rename_i js e2
      cases h1
      cases h2
      rw[eqL,ZeY e1 e2]
      show some ((i == j) && (is == js))=_
      rfl
     ·cases h2
    ·cases h1
   |_=>cases h2
  |_=>cases h1
theorem ZoK {M:Sto} {n:Nat} {x y:D} {b:Bool} (h:ltE x y=some b):eqF (n + 2) M x y=some (ltL.eqX x y):=by
 cases x with
 |int i=>
  cases y with
  |int j=>rfl
  |_=>cases h
 |tup xs=>
  cases y with
  |tup ys=>
   cases e1:ZaJ xs with
   |none=>simp only[ltE,e1] at h;cases h
   |some a=>
    cases e2:ZaJ ys with
    |none=>simp only[ltE,e1,e2] at h;cases h
    |some c=>
     show eqL (eqF (n + 1) M) xs ys=_
     rw[ZeY e1 e2]
     simp only[ltL.eqX,e1,e2]
     rfl
  |_=>cases h
 |_=>cases h
theorem Zcg {K:PySem.W.Frag} {H:Hp} {α:List Addr}: ∀ {vs:List V} {ds:List D} {a:List Int},Reps K H α vs ds->ZaJ ds=some a->vs=a.map V.int
 |_,_,a,.nil,e=>by cases e;rfl
 |_,_,a,.cons (d:=d) (ds:=ds) r t,e=>by
  cases r with
  |int i=>
   unfold ZaJ at e
   split at e
   ·rename_i is e1
    cases e
    rw[Zcg t e1]
    rfl
   ·cases e
  |_=>cases e
section
variable {X:Cx} {pins:List (Addr × Obj)} {σ:L2.St} {H:Hp} {s:Shared} {α:List Addr} {M:Sto}
theorem Zrw (I:Inv X pins σ H s) {A:Around} (hu:A.units < cLine) {x y:D} {v w:V} {u z:Value} {b:Bool} (h:ltE x y=some b) (r1:Rep X.K H α v x) (r2:Rep X.K H α w y) (ru:ZV v u) (rz:ZV w z):Zrv A s u z b:=by
 intro prog w' E Q q
 cases r1 with
 |int i=>
  cases r2 with
  |int j=>
   cases h
   obtain ⟨t,rfl⟩:=ru
   obtain ⟨t',rfl⟩:=rz
   exact lt_int q
  |_=>cases h
 | @tup p xs ds hp rp=>
  cases r2 with
  | @tup p2 xs2 ds2 hp2 rp2=>
   cases e1:ZaJ ds with
   |none=>simp only[ltE,e1] at h;cases h
   |some a=>
    cases e2:ZaJ ds2 with
    |none=>simp only[ltE,e1,e2] at h;cases h
    |some c=>
     simp only[ltE,e1,e2,Option.some.injEq] at h
     subst h
     cases ru
     cases rz
     have h1:=Zcg rp e1
     have h2:=Zcg rp2 e2
     subst h1 h2
     obtain ⟨its,q1,p1,_⟩:=I.tuple (SqT.of hp)
     obtain ⟨its2,q2,p2',_⟩:=I.tuple (SqT.of hp2)
     exact HT.ZgR p1 p2' (Zcq q1) (Zcq q2) hu q
  |_=>cases h
 |_=>cases h
theorem Zk0: ∀ {xs ys:List D} {b:Bool},ltL xs ys=some b-> ∀ (e f:Nat->Bool) (i m n:Nat),(∀ j x y,xs[j]?=some x->ys[j]?=some y->(ltE x y).isSome=true->e (i + j)=ltL.eqX x y/\(ltL.eqX x y=false->ltE x y=some (f (i + j))))->m=i + xs.length->n=i + ys.length->lxI e f m n (min xs.length ys.length) i=b
 | [],[],b,h,e,f,i,m,n,hh,hm,hn=>by cases h;simp[lxI,hm,hn]
 | [],y :: ys,b,h,e,f,i,m,n,hh,hm,hn=>by cases h;simp[lxI,hm,hn]
 |x :: xs,[],b,h,e,f,i,m,n,hh,hm,hn=>by cases h;simp[lxI,hm,hn]
 |x :: xs,y :: ys,b,h,e,f,i,m,n,hh,hm,hn=>by
  rw[ltL] at h
  cases el:ltE x y with
  |none=>rw[el] at h;cases h
  |some c=>
   rw[el] at h
   simp only at h
   obtain ⟨h1,h2⟩:=hh 0 x y rfl rfl (by rw[el];rfl)
   rw[Nat.add_zero] at h1 h2
   rw[List.length_cons,List.length_cons,Nat.succ_min_succ,lxI,h1]
   by_cases q:ltL.eqX x y=true
   ·rw[if_pos q] at h ⊢
    exact Zk0 h e f (i + 1) m n (fun j a b' ha hb hs=>by
     have:=hh (j + 1) a b' (by simpa using ha) (by simpa using hb) hs
     rw[show i + (j + 1)=i + 1 + j by omega] at this
     exact this) (by rw[hm,List.length_cons];omega) (by rw[hn,List.length_cons];omega)
   ·rw[if_neg q] at h ⊢
    cases h
    have:=h2 (by simpa using q)
    rw[el] at this
    exact (Option.some.inj this).symm
noncomputable def ZcC:List D->List D->Bool
 |x :: xs,y :: ys=>(ltE x y).isSome && ZcC xs ys
 |_,_=>true
theorem Zdj: ∀ {xs ys:List D},ZcC xs ys=true-> ∀ (j:Nat) x y,xs[j]?=some x->ys[j]?=some y->(ltE x y).isSome=true
 | [],_,_,j,x,y,hx,_=>by simp at hx
 |_ :: _,[],_,j,x,y,_,hy=>by simp at hy
 |x0 :: xs,y0 :: ys,h,j,x,y,hx,hy=>by
  rw[ZcC,Bool.and_eq_true] at h
  cases j with
  |zero=>simp at hx hy;subst hx hy;exact h.1
  |succ j=>exact Zdj h.2 j x y (by simpa using hx) (by simpa using hy)
noncomputable def Ztx (X:Cx):R2:=fun v w H Q=> ∃ α M p q xs ys ds es b,HR X.K H α M/\v= .ref p/\w= .ref q/\H p=some (.lst xs)/\H q=some (.lst ys)/\Reps X.K H α xs ds/\Reps X.K H α ys es/\ZcC ds es=true/\ltL ds es=some b/\Q (.bl b) H
theorem Zej: ∀ {xs:List V} {us:List Value} {j:Nat} {u:Value},ZX xs us->us[j]?=some u-> ∃ x,xs[j]?=some x/\ZV x u
 | [],us,j,u,h,e=>by cases h;simp at e
 |x :: xs,us,j,u,h,e=>by
  cases h with
  |cons h1 h2=>
   cases j with
   |zero=>simp at e;subst e;exact ⟨x,rfl,h1⟩
   |succ j=>simp at e;obtain ⟨y,g1,g2⟩:=Zej h2 e;exact ⟨y,by simpa using g1,g2⟩
theorem Zdk {K:PySem.W.Frag}: ∀ {xs:List V} {ds:List D} {j:Nat} {x:V},Reps K H α xs ds->xs[j]?=some x-> ∃ d,ds[j]?=some d/\Rep K H α x d
 |_,_,j,x,.nil,e=>by simp at e
 |_,_,0,x,.cons r _,e=>by simp at e;subst e;exact ⟨_,rfl,r⟩
 |_,_,j + 1,x,.cons _ t,e=>by
  obtain ⟨d,g1,g2⟩:=Zdk (j:=j) t (by simpa using e)
  exact ⟨d,by simpa using g1,g2⟩
theorem ZoL (hu:X.A.units + 64 < cLine):OpR X (compareOp .Lt) (Ztx X):=by
 intro pins s σ H x y v u Q I rx ry hh
 obtain ⟨α,M,p,q,xs,ys,ds,es,b,hr,e1,e2,hp,hq,r1,r2,hc,hl,k⟩:=hh
 subst e1 e2
 cases (show v=Value.ref p from rx)
 cases (show u=Value.ref q from ry)
 obtain ⟨its,v1,p1,_⟩:=I.list (SqL.of hp)
 obtain ⟨its2,v2,p2,_⟩:=I.list (SqL.of hq)
 obtain ⟨⟨cls,dd,data,sl⟩,ho,hcl,n,hd⟩:=id p1.isList
 obtain ⟨⟨cls2,dd2,data2,sl2⟩,ho2,hcl2,n2,hd2⟩:=id p2.isList
 simp only at hcl hd hcl2 hd2
 subst hcl hd hcl2 hd2
 let e:Nat->Bool:=fun j=>match ds[j]?,es[j]? with | some a,some c=>ltL.eqX a c | _,_=>false
 let f:Nat->Bool:=fun j=>match ds[j]?,es[j]? with | some a,some c=>(ltE a c).getD false | _,_=>false
 have both: ∀ j (h1:j < its.toArray.size) (h2:j < its2.toArray.size),∃ a c vx vy,ds[j]?=some a/\es[j]?=some c/\Rep X.K H α vx a/\Rep X.K H α vy c/\ZV vx its.toArray[j]/\ZV vy its2.toArray[j]:=by
  intro j h1 h2
  obtain ⟨vx,g1,g2⟩:=Zej (j:=j) (u:=its.toArray[j]) v1 (by simp at h1;simp[h1])
  obtain ⟨vy,g3,g4⟩:=Zej (j:=j) (u:=its2.toArray[j]) v2 (by simp at h2;simp[h2])
  obtain ⟨a,g5,g6⟩:=Zdk r1 g1
  obtain ⟨c,g7,g8⟩:=Zdk r2 g3
  exact ⟨a,c,vx,vy,g5,g7,g6,g8,g2,g4⟩
 have lx:lxI e f its.toArray.size its2.toArray.size (min its.toArray.size its2.toArray.size) 0=b:=by
  have l1:its.toArray.size=ds.length:=by rw[List.size_toArray,<- v1.length,r1.length]
  have l2:its2.toArray.size=es.length:=by rw[List.size_toArray,<- v2.length,r2.length]
  rw[l1,l2]
  refine Zk0 hl e f 0 _ _ (fun j a c ha hb hs=> ?_) (by omega) (by omega)
  rw[Nat.zero_add]
  refine ⟨by show (match ds[j]?,es[j]? with | some a,some c=>ltL.eqX a c | _,_=>false)=_;rw[ha,hb],fun _=> ?_⟩
  show _=some (match ds[j]?,es[j]? with | some a,some c=>(ltE a c).getD false | _,_=>false)
  obtain ⟨b',hb'⟩:=Option.isSome_iff_exists.mp hs
  simp[ha,hb,hb']
 refine richCompare_meets_room (op:= .Lt) ⟨_,ho,rfl⟩ ⟨_,ho2,rfl⟩ F.slot_list_lt F.entry_list_lt (F.args_list_lt_2 _ _) (Ziw p q its.toArray its2.toArray n n2 dd dd2 sl sl2 e f)
  ⟨ho,ho2,fun j h1 h2=> ?_,fun j h1 h2 ej=> ?_,?_⟩ (by omega)
 ·obtain ⟨a,c,vx,vy,g1,g2,g3,g4,g5,g6⟩:=both j h1 h2
  have hs:=Zdj hc j a c g1 g2
  obtain ⟨b',hb'⟩:=Option.isSome_iff_exists.mp hs
  have ee:e j=ltL.eqX a c:=by show (match ds[j]?,es[j]? with | some a,some c=>ltL.eqX a c | _,_=>false)=_;rw[g1,g2]
  rw[ee]
  exact (eq3 I hr 12 a c vx vy _ _ _ _ (by rw[Around.in1_units];omega) (ZoK (n:=10) hb') g3 g4 g5 g6).1
 ·obtain ⟨a,c,vx,vy,g1,g2,g3,g4,g5,g6⟩:=both j h1 h2
  have hs:=Zdj hc j a c g1 g2
  obtain ⟨b',hb'⟩:=Option.isSome_iff_exists.mp hs
  have ff:f j=b':=by show (match ds[j]?,es[j]? with | some a,some c=>(ltE a c).getD false | _,_=>false)=_;rw[g1,g2];simp only;rw[hb'];rfl
  rw[ff]
  exact Zrw I (by rw[Around.in1_units];omega) hb' g3 g4 g5 g6
 ·rw[lx]
  show Value.bool b≠Value.notImplemented/\EP X pins σ Q (.bool b) s
  exact ⟨(fun z=>nomatch z),(⟨V.bl b,H,I,rfl,k⟩:EP X pins σ Q (.bool b) s)⟩
noncomputable def dLtL:Bo:=fun x y M=>match x,y with
 | .ref n,.ref m=>(match M[n]?,M[m]? with | some (.lst ds),some (.lst es)=>if ZcC ds es=true then (match ltL ds es with | some b=> .ok (.bl b) M | none=> .bad) else .bad | _,_=> .bad)
 |_,_=> .bad
theorem Zix {x y:D} {M:Sto} (h:dLtL x y M≠ .bad): ∃ n m,x= .ref n/\y= .ref m:=by
 unfold dLtL at h
 split at h
 ·rename_i n m;exact ⟨n,m,rfl,rfl⟩
 ·exact absurd rfl h
theorem ZoM {ξ:XK}:BO X ξ (Ztx X) dLtL:=by
 intro H α M v w x y Q h r1 r2 q
 obtain ⟨n,m,rfl,rfl⟩:=Zix (x:=x) (y:=y) (M:=M) fun z=>by rw[z] at q;exact q.elim
 cases r1 with
 | @ref p n hp=>
  cases r2 with
  | @ref p2 m hp2=>
   simp only[dLtL] at q
   cases e1:M[n]? with
   |none=>simp only[e1] at q;exact q.elim
   |some so=>
    cases e2:M[m]? with
    |none=>cases so;simp only[e1,e2] at q;exact q.elim
    |some so2=>
     cases so with
     |lst ds=>
      cases so2 with
      |lst es=>
       simp only[e1,e2] at q
       by_cases hc:ZcC ds es=true
       ·rw[if_pos hc] at q
        cases hl:ltL ds es with
        |none=>simp only[hl] at q;exact q.elim
        |some b=>
         simp only[hl] at q
         obtain ⟨xs,g1,g2⟩:=h.at hp e1
         obtain ⟨ys,g3,g4⟩:=h.at hp2 e2
         exact ⟨α,M,p,p2,xs,ys,ds,es,b,h,rfl,rfl,g1,g3,g2,g4,hc,hl,q _ H α Ext.refl h (.bl b)⟩
       ·rw[if_neg hc] at q
        exact q.elim
end
end DL
end
section
namespace PySem
open Sem (wp)
section
variable {prog:Program} {w:World} {A:Around} {R:Result->Shared->Prop} {I:Addr} {fp wr:List Addr} {P:Nat->Value->Prop} {St:Nat->Heap->Prop}
end
section
variable {prog:Program} {w:World} {A:Around} {E:Value->Shared->Prop} {s:Shared}
end
end PySem
namespace DL
open PySem PySem.Spec PyProof.Rows L2
open PySem.SeqAt
section
variable {X:Cx} {pins:List (Addr × Obj)} {σ:L2.St} {H:Hp} {s:Shared} {α:List Addr} {M:Sto}
end
end DL
end
section
namespace HT
open PySem PyProof.Rows
section
open PySem.SeqAt
open PySem.AutoSeq1 (wpAny_loadPart')
open PySem.MeetsSeq PySem.MeetsSeq2 PySem.MeetsSeq3
end
section
variable {prog:Program} {w:World} {A:Around} {E:Value->Shared->Prop} {s:Shared}
end
end HT
namespace DL
open PySem PySem.Spec PyProof.Rows L2
section
variable {X:Cx} {ξ:XK}
end
end DL
end
section
namespace DL
open PySem PySem.Spec PyProof.Rows L2
theorem Zrx (its:List Value):slicePick its.toArray none (some 0) (some (-1))=(its.drop 1).reverse.toArray:=by
 cases its with
 |nil=>rfl
 |cons x r=>
  have h:=Zj6 r.toArray
  have e:slicePick (x :: r).toArray none (some 0) (some (-1))=((List.range r.toArray.size).filterMap fun (m:Nat)=>r.toArray[((r.toArray.size:Int) - 1 + (m:Int) * (-1)).toNat]?).toArray:=by
   unfold slicePick sliceBounds sliceRange
   simp only[Option.getD_some]
   congr 1
   rw[List.filterMap_map]
   simp only[List.size_toArray,List.length_cons]
   simp only[gt_iff_lt,show ¬ ((0:Int) < -1) by decide,if_false,Int.lt_irrefl]
   generalize hn:(if max (-1:Int) (min 0 (((r.length + 1:Nat):Int) - 1)) < ((r.length + 1:Nat):Int) - 1 then _ else (0:Int)).toNat=cnt
   have c:cnt=r.length:=by
    rw[<- hn]
    have m0:max (-1:Int) (min 0 (((r.length + 1:Nat):Int) - 1))=0:=by omega
    rw[m0]
    split
    ·simp
     try omega
    ·simp
     omega
   rw[c]
   refine Zec fun m hm=> ?_
   have hm':=List.mem_range.mp hm
   simp only[Function.comp]
   rw[show (((r.length + 1:Nat):Int) - 1 + -1 * (m:Int)).toNat=((r.length:Int) - 1 + (m:Int) * (-1)).toNat + 1 by omega]
   simp
  rw[e,h]
  rfl
noncomputable def eR0 (f:Ev):Ev:=fun ρ M=>(f ρ M).bind fun x M1=>match x with
 | .ref n=>(match M1[n]? with | some (.lst xs)=> .ok (.ref M1.length) (M1 ++ [.lst (xs.drop 1).reverse]) | none=> .bad)
 |_=> .bad
noncomputable def tR0 (K:PySem.W.Frag) (te:TE):TE:=fun σ H Q=>te σ H fun x H1=> ∃ a xs,x= .ref a/\SqL K H1 a xs/\ ∀ p,H1 p=none->Q (.ref p) (upd H1 p (.lst (xs.drop 1).reverse))
theorem Zry {X:Cx} {e:Expr} {p2 p3 p4 p5 pos:Pos} {j j0:Nat} {te:TE} (he:PE X e te):PE X (.Subscript e (.Slice none (some (.Constant (.int 0) j0 p5)) (some (.UnaryOp .USub (.Constant (.int 1) j p3) p4)) p2) pos) (tR0 X.K te):=by
 intro pins s σ H Q I h
 refine Subscript_ (thn (he pins s σ H _ I h) fun v s1 ⟨x,H1,I1,r1,q1⟩=> ?_)
 refine wpAny_Slice ?_
 rw[evalPart_none]
 refine wpAny_pure ?_
 rw[evalPart_some]
 refine thn (Zhz pins s1 σ H1 (fun v H'=>v= .int 0/\H'=H1) I1 ⟨rfl,rfl⟩) fun u0 s1' ⟨y0,H1',I1',r2',ey0,eH0⟩=> ?_
 subst ey0 eH0
 obtain ⟨t0,rfl⟩:=r2'
 rw[evalPart_some]
 refine thn (ZnR ZkK Zhz pins s1' σ H1' (fun v H'=>v= .int (-1)/\H'=H1') I1' ⟨1,rfl,rfl,rfl⟩) fun u s2 ⟨y,H2,I2,r2,ey,eH⟩=> ?_
 subst ey eH
 obtain ⟨t,rfl⟩:=r2
 have I4:Inv X pins σ H2 { s2 with heap:=s2.heap.push { cls:= .type "slice",data:= .fields #[.none,.int 0 t0,.int (-1) t] } }:=I2.kept (t':=s2.toks) fun b ob q=>Heap.get?_push_of_some _ q
 show wpAny (model X.prog X.w) X.A (subscriptTail e (.Slice none (some (.Constant (.int 0) j0 p5)) (some (.UnaryOp .USub (.Constant (.int 1) j p3) p4)) p2) v (.ref s2.heap.objs.size)) (EP X pins σ Q) X.xe { s2 with heap:=s2.heap.push { cls:= .type "slice",data:= .fields #[.none,.int 0 t0,.int (-1) t] } }
 obtain ⟨a,xs,rfl,hq,q⟩:=q1
 cases r1
 obtain ⟨its,rv,ht,hz⟩:=I4.list hq
 have hsz:its.toArray.size<=sizeLine:=by rw[List.size_toArray,<- rv.length];exact hz
 refine tail_any (ops:=[.ref a,.ref s2.heap.objs.size]) ht.isList.typeIs slot_list_getitem.lookup (wpAny_getItem_list_slice ht.isList (Heap.IsSliceOf.new ..) .none (.int 0 t0) (.int (-1) t) (by decide) ?_ hsz) (by with_unfolding_all rfl)
 rw[Zrx]
 refine ⟨.ref _,_,I4.laid (t':=s2.toks) (o:= .lst (xs.drop 1).reverse) (fun _ _ q=>Heap.get?_push_of_some _ q) (Nat.le_refl _) ?_,rfl,q _ (I4.hok.fresh (Nat.le_refl _))⟩
 exact ⟨by rw[List.length_reverse,List.length_drop];omega,(its.drop 1).reverse,0,(rv.drop 1).reverse,Heap.get?_push_size _ rfl⟩
theorem Ziy {K:PySem.W.Frag} {H:Hp} {α:List Addr}: ∀ {vs:List V} {ds:List D},Reps K H α vs ds->Reps K H α (vs.drop 1) (ds.drop 1)
 |_,_,.nil=> .nil
 |_,_,.cons _ t=>t
theorem Zrz {X:Cx} {ξ:XK} {e:Expr} {f:Ev} {p2 p3 p4 p5 pos:Pos} {j j0:Nat} (he:DE X ξ e f):DE X ξ (.Subscript e (.Slice none (some (.Constant (.int 0) j0 p5)) (some (.UnaryOp .USub (.Constant (.int 1) j p3) p4)) p2) pos) (eR0 f):=by
 obtain ⟨t,p,q⟩:=he
 refine ⟨_,Zry p,fun σ ρ H α M Q s h w=>q σ ρ H α M _ s h (OG.seq w fun x M1 v H1 α1 e1 h1 r1 w1=> ?_)⟩
 cases r1 with
 | @ref a n hp=>
  cases em:M1[n]? with
  |none=>simp only[em] at w1;exact w1.elim
  |some so=>
   cases so with
   |lst es=>
    simp only[em] at w1
    obtain ⟨xs,g1,g2⟩:=h1.at hp em
    exact ⟨a,xs,rfl,SqL.of g1,fun l hl=>w1 _ _ (α1 ++ [l]) (Ext.new hl) (h1.new hl (Ziy g2).rev) (.ref ⟨h1.last l,Kn.lst ZC⟩)⟩
 |_=>exact w1.elim
end DL
end
section
namespace DL
open PySem PySem.Spec PyProof.Rows L2
section
variable {X:Cx} {pins:List (Addr × Obj)} {σ:L2.St} {H:Hp} {s:Shared} {a b:Addr} {v:V} {r:Value} {A:Around} {E:Value->Shared->Prop}
theorem ZoN {kvs:List (List Key × V)} {k:List Key} {Q:Unit->Shared->Prop} (hu:A.units < cLine) (I:Inv X pins σ H s) (e:H a=some (.dT kvs)) (eb:H b=some (.tup (k.map kV))) (l:kvs.length < sizeLine) (rv:ZV v r) (h: ∀ s',Inv X pins σ (upd H a (.dT (ZhR kvs k v))) s'->Q () s'):
  wpAny (model X.prog X.w) A (dictSet a (.ref b) r) Q E s:=by
 obtain ⟨z,hd,xs,rel,dd⟩:=L2.ZjN I.hok e
 have hz:xs.length<=sizeLine:=by rw[<- Paired.length rel];exact z
 have hl:(ZhR kvs k v).length<=sizeLine:=by have:=ZfB kvs k v;omega
 refine wpAny_dictSet_heap (hsz:=hz) (knd:=tupleKind (ZaE X.prog X.w)) hu (ZhS I.hok eb) dd fun h' dd' hs=>h _ ?_
 obtain ⟨q,es,ep,hq,h2,h3,h4,_,h5⟩:=dd'
 refine ZlU I (by rw[e];exact True.intro) hs ⟨q,hq⟩ ⟨hl,hd,_,(rel.put k eb rv).keeps fun c ys ec=> ?_,q,es,ep,hq,h2,h3,h4,h5⟩
 rw[ZP (ZqZ ec e (fun z=>nomatch z))]
 exact ec
end
noncomputable def ZbS (src:Src) (tg:Tg) (c:Tv) (fk fv:Ev) (n:Nat):Nat->Nat->Ro->Sto->Out Unit
 |fuel,i,ρ,M=>match nxt src i M with
  |none=> .bad
  |some none=> .ok () M
  |some (some d)=>(match fuel with
   |0=> .bad
   |fuel + 1=>(match tg d ρ with
    |none=> .bad
    |some ρ1=>(match c ρ1 M with
     | .ok true M1=>(match fk ρ1 M1 with
      | .ok x M2=>(match fv ρ1 M2 with
       | .ok y M3=>(match ZoG M3 (.dt n) x y with
        |some M4=>ZbS src tg c fk fv n fuel (i + 1) ρ1 M4
        |none=> .bad)
       |_=> .bad)
      |_=> .bad)
     | .ok false M1=>ZbS src tg c fk fv n fuel (i + 1) ρ1 M1
     |_=> .bad)))
noncomputable def ZeZ (fi:Ro->Sto->Out Src) (k:Nat) (fr:List Nat) (tg:Tg) (c:Tv) (fk fv:Ev):Ev:=fun ρ M=>(fi ρ M).bind fun src M1=>match ZbS src tg c fk fv M1.length (cnt src M1) 0 (roB k fr ρ) (M1 ++ [.lst []]) with
 | .ok _ M2=> .ok (.dt M1.length) M2
 |_=> .bad
theorem Zek {prog:Program} {w:World} {A:Around} {R:Result->Shared->Prop} {s:Shared} {kx vx target iter:Expr} {ifs:List Expr} {scope:Scope} {pos:Pos} {it:Value} {D:Addr} {env:Env} (I:Nat->Shared->Prop)
  (turn: ∀ n s,I n s->wpAny (model prog w) A (pyNext it) (fun r s₁=>match r with
   |none=>R (.ok .next) s₁
   |some v=>wpAny (model prog w) A (letOwnedTupleGo target it v) (fun _ s₁=>wpAny (model prog w) A (assign target env v) (fun _ s₂=>
     wpAny (model prog w) A (forIn ifs true fun c r=>if r=true then do let ok <- isTrue c env (eval c env);pure (ForInStep.yield ok) else pure (ForInStep.yield r)) (fun ok s₃=>
      if ok=true then wpAny (model prog w) A (eval kx env) (fun kv s₄=>wpAny (model prog w) A (eval vx env) (fun vv s₅=>
       wpAny (model prog w) A (dictSet D kv vv) (fun _ s₆=> ∃ m,m < n/\I m s₆) (fun _ _=>False) s₅) (fun _ _=>False) s₄) (fun _ _=>False) s₃
      else ∃ m,m < n/\I m s₃) (fun _ _=>False) s₂) (fun _ _=>False) s₁) (fun _ _=>False) s₁) (fun _ _=>False) s)
  (n:Nat) (h:I n s):
  codeAny (model prog w) A (.compLoop (.DictComp kx vx [⟨target,iter,ifs,0⟩] scope pos) 0 it (.ref D) env) R s:=by
 refine codeAny_loop rfl I (fun n s hI=> ?_) n h
 show wpAny _ A ((compTurn (.DictComp kx vx [⟨target,iter,ifs,0⟩] scope pos) 0 it (.ref D) env).onRaise (fun x=>do noteFrame x env;theTreesLotGoes x)) _ _ s
 refine wpAny_noted ?_
 rw[compTurn_dict]
 refine wpAny_bind (wpAny_standAt (wpAny_bind (wpAny_mono (turn n s hI) (fun r s₁ h₁=> ?_) fun _ _ h'=>h'.elim)))
 cases r with
 |none=>exact wpAny_pure h₁
 |some v=>
  refine wpAny_bind (wpAny_mono h₁ (fun _ s₁ h₁=> ?_) fun _ _ h'=>h'.elim)
  refine wpAny_bind (wpAny_mono h₁ (fun _ s₂ h₂=>wpAny_bind (wpAny_mono h₂ (fun ok s₃ h₃=> ?_) fun _ _ h'=>h'.elim)) fun _ _ h'=>h'.elim)
  cases ok with
  |false=>exact wpAny_pure ⟨rfl,h₃⟩
  |true=>
   refine wpAny_bind (wpAny_bind (wpAny_mono h₃ (fun kv s₄ h₄=> ?_) fun _ _ h'=>h'.elim))
   refine wpAny_bind (wpAny_holding (wpAny_mono h₄ (fun vv s₅ h₅=> ?_) fun _ _ h'=>h'.elim))
   refine wpAny_bind (wpAny_standAt ?_)
   refine wpAny_holding (wpAny_mono h₅ (fun _ s₆ h₆=> ?_) fun _ _ h'=>h'.elim)
   exact wpAny_pure ⟨rfl,h₆⟩
section
variable {X:Cx} {ξ:XK} {tg iter kx vx:Expr} {ifs:List Expr} {scope:Scope} {cl:List (Str × Addr)} {N:List Str} {k:Nat} {fr:List Nat} {fi:Ro->Sto->Out Src} {gt:Tg} {c:Tv} {fk fv:Ev} {pos:Pos}
theorem Ziz {Y:Cx} {fp α3:List Addr} {it D:Addr} {tn:Nat->Heap->Prop} {J:It} {tg iter kx vx:Expr} {ifs:List Expr} {scope:Scope} {pos:Pos} {gt:Tg} {c:Tv} {fk fv:Ev} {src:Src} {H3:Hp} {σ0:L2.St} {ρ0:Ro} {M3 M9:Sto} {u9:Unit} {n0 fuel:Nat} {s4:Shared} {R:Result->Shared->Prop}
  (hu:Y.A.units + 64 < cLine) (T:Turn Y.prog Y.w Y.K Y.A tg J fp it tn) (hxe: ∀ x y,Y.xe x y->False) (fp5: ∀ {H':Hp},(∀ b∈fp,H' b=none)-> ∀ b∈fp,ZdP Y [] H' b) (hg:DG Y tg gt) (tst:DC Y ifs c) (hk:DE Y E0 kx fk) (hv:DE Y E0 vx fv)
  (sc:Zl5 Y.K H3 α3 J src) (aD:RefK H3 α3 2 n0 D) (I4:Inv Y [] σ0 H3 s4) (st4:tn 0 s4.heap) (fr4: ∀ b∈fp,H3 b=none) (sr:SR Y.K H3 α3 σ0 ρ0) (h3:HR Y.K H3 α3 M3) (er:ZbS src gt c fk fv n0 fuel 0 ρ0 M3= .ok u9 M9)
  (post: ∀ σ5 H5 α5 s6,Inv Y [] σ5 H5 s6->Ext Y.K H3 H5 α3 α5->HR Y.K H5 α5 M9->R (.ok .next) s6):
  codeAny (model Y.prog Y.w) Y.A (.compLoop (.DictComp kx vx [⟨tg,iter,ifs,0⟩] scope pos) 0 (.ref it) (.ref D) Y.env) R s4:=by
 obtain ⟨tt,pt,qt⟩:=hg
 obtain ⟨tk,pk,qk⟩:=hk
 obtain ⟨tv,pv,qv⟩:=hv
 refine Zek (CmI Y fp tn H3 α3 fun n i ρ' M'=>ZbS src gt c fk fv n0 n i ρ' M'= .ok u9 M9) ?_ fuel ⟨0,σ0,ρ0,H3,α3,M3,I4,st4,fr4,sr,h3,Ext.refl,er⟩
 rintro n s5 ⟨i,σ5,ρ5,H5,α5,M5,I5,st5,fr5,sr5,hr5,ex5,en⟩
 have src5:=sc i H5 α5 M5 ex5 hr5
 rw[ZbS] at en
 cases ex:nxt src i M5 with
 |none=>rw[ex] at en;cases en
 |some od=>
  rw[ex] at src5 en
  cases od with
  |none=>
   cases en
   have fin:=T.done Y rfl rfl rfl rfl i [] s5 σ5 H5 (fun _ _=>False) I5 (fp5 fr5) st5 src5
   refine thn fin fun r s6 w6=> ?_
   obtain ⟨hr6,I6⟩:=w6
   subst hr6
   exact post σ5 H5 α5 s6 I6 ex5 hr5
  |some d=>
   obtain ⟨go,yl⟩:=src5
   cases n with
   |zero=>cases en
   |succ n=>
    simp only at en
    have itm:=T.item Y rfl rfl rfl rfl i [] s5 σ5 H5 (fun _ _=>False) I5 (fp5 fr5) st5 go
    refine thn itm fun r s6 ⟨u,hr6,w6⟩=> ?_
    subst hr6
    refine thn w6 fun _ s7 ⟨x,H7,I7,r7,y7,st7,fr7⟩=> ?_
    obtain ⟨ex7,hr7,rp7⟩:=yl x H7 y7
    have sr5:=sr5.mono ex7
    have hr5:=hr7
    have ex5:=ex5.trans ex7
    have I7':=I7.pinned (fp5 fr7) (T.obj _ _ st7)
    cases eg:gt d ρ5 with
    |none=>rw[eg] at en;cases en
    |some ρ6=>
     rw[eg] at en
     simp only at en
     have asg:=pt _ s7 σ5 H7 x u _ I7' r7 (qt x d σ5 ρ5 H7 α5 ρ6 (fun σ' H'=>H'=H7/\SR Y.K H7 α5 σ' ρ6) (sr5) (rp7) eg fun σ' s'=>⟨rfl,s'⟩)
     refine wpAny_mono asg (fun _ s8 ⟨σ8,H8,I8,z8,sr8⟩=> ?_) (fun x y z=>hxe x y z)
     subst z8
     have again: ∀ {σ9:L2.St} {H9:Hp} {s9:Shared},Inv Y ([] ++ Zb6 fp s7.heap) σ9 H9 s9->Inv Y [] σ9 H9 s9/\tn (i + 1) s9.heap/\ ∀ b∈fp,H9 b=none:=fun {σ9 H9 s9} I9=>by
      refine ⟨I9.unpinned,T.keep _ _ _ st7 fun b hb o e=>(I9.pin (b,o) (List.mem_append_right _ (List.mem_append_right _ (ZaM hb e)))).1,fun b hb=> ?_⟩
      obtain ⟨o,e,_⟩:=T.obj _ _ st7 b hb
      exact (I9.pin (b,o) (List.mem_append_right _ (List.mem_append_right _ (ZaM hb e)))).2.1
     have after: ∀ (kk:Bool) (M8:Sto) (H9:Hp) (α9:List Addr) (s9:Shared),Inv Y ([] ++ Zb6 fp s7.heap) σ8 H9 s9->Ext Y.K H8 H9 α5 α9->HR Y.K H9 α9 M8->c ρ6 M5= .ok kk M8->
       (if kk=true then wpAny (model Y.prog Y.w) Y.A (eval kx Y.env) (fun kv s₄=>wpAny (model Y.prog Y.w) Y.A (eval vx Y.env) (fun vv s₅=>wpAny (model Y.prog Y.w) Y.A (dictSet D kv vv) (fun _ s₆=> ∃ m,m < n + 1/\CmI Y fp tn H3 α3 (fun n i ρ' M'=>ZbS src gt c fk fv n0 n i ρ' M'= .ok u9 M9) m s₆) (fun _ _=>False) s₅) (fun _ _=>False) s₄) (fun _ _=>False) s9
        else ∃ m,m < n + 1/\CmI Y fp tn H3 α3 (fun n i ρ' M'=>ZbS src gt c fk fv n0 n i ρ' M'= .ok u9 M9) m s9):=by
      intro kk M8 H9 α9 s9 I9 ex9 hr9 ec
      rw[ec] at en
      cases kk with
      |false=>
       obtain ⟨a1,a2,a3⟩:=again I9
       exact ZkP ⟨n,Nat.lt_succ_self n,i + 1,σ8,ρ6,H9,α9,M8,a1,a2,a3,sr8.mono ex9,hr9,ex5.trans ex9,en⟩
      |true=>
       simp only at en
       refine ZkQ ?_
       cases ef:fk ρ6 M8 with
       |exc x9 M10=>rw[ef] at en;cases en
       |bad=>rw[ef] at en;cases en
       |ok y M10=>
        rw[ef] at en
        simp only at en
        have ev:=pk _ s9 σ8 H9 (fun v H'=> ∃ α',Ext Y.K H9 H' α9 α'/\HR Y.K H' α' M10/\Rep Y.K H' α' v y) I9 (qk σ8 ρ6 H9 α9 M8 _ (sr8.mono ex9) (hr9) (by
         rw[ef]
         exact fun v H' α' e h r=>⟨α',e,h,r⟩))
        refine wpAny_mono ev (fun yv s10 ⟨v,H10,I10,r10,α10,ex10,hr10,rp10⟩=> ?_) (fun x y z=>hxe x y z)
        cases eg2:fv ρ6 M10 with
        |exc x9 M11=>rw[eg2] at en;cases en
        |bad=>rw[eg2] at en;cases en
        |ok y2 M11=>
         rw[eg2] at en
         simp only at en
         have ev2:=pv _ s10 σ8 H10 (fun v H'=> ∃ α',Ext Y.K H10 H' α10 α'/\HR Y.K H' α' M11/\Rep Y.K H' α' v y2) I10 (qv σ8 ρ6 H10 α10 M10 _ ((sr8.mono ex9).mono ex10) (hr10) (by
          rw[eg2]
          exact fun v H' α' e h r=>⟨α',e,h,r⟩))
         refine wpAny_mono ev2 (fun yv2 s11 ⟨v2,H11,I11,r11,α11,ex11,hr11,rp11⟩=> ?_) (fun x y z=>hxe x y z)
         have aD11:=ex11.get (ex10.get (ex9.get (ex5.get aD)))
         have rk:=Rep.mono ex11 rp10
         simp only[ZoG] at en
         cases e5:kT y with
         |none=>simp only[e5] at en;cases en
         |some kk=>
          cases em:M11[n0]? with
          |none=>simp only[e5,em] at en;cases en
          |some so=>
           cases so with
           |lst ds=>
            simp only[e5,em] at en
            by_cases cz:ds.length < 10000000
            ·simp only[if_pos cz] at en
             obtain ⟨kvs,g1,g2⟩:=hr11.atT aD11 em
             have kn:Kn (upd H11 D (.dT (ZhR kvs kk v2))) D=some 2:=by unfold Kn;rw[ZC]
             have exw:Ext Y.K H11 (upd H11 D (.dT (ZhR kvs kk v2))) α11 α11:=Ext.wrK aD11.kn kn
             have eg3:=Ziq Zgx kk g2 rp11
             rw[<- ZoD e5] at eg3
             cases rk with
             | @tup tb txs tds thb trb=>
              cases r10
              have hkey:H11 tb=some (.tup (kk.map kV)):=by rw[thb,Zef (X:=Y) trb e5]
              have st:=ZoN (A:=Y.A) (E:=fun _ _=>False) (by omega) I11 g1 hkey (by rw[Zir g2];exact Nat.lt_of_lt_of_le cz (by decide)) r11 (Q:=fun _ s'=>Inv Y ([] ++ Zb6 fp s7.heap) σ8 (upd H11 D (.dT (ZhR kvs kk v2))) s') fun s' I'=>I'
              refine wpAny_mono st (fun _ s12 I12=> ?_) (fun _ _ z=>z)
              obtain ⟨a1,a2,a3⟩:=again I12
              exact ⟨n,Nat.lt_succ_self n,i + 1,σ8,ρ6,_,α11,_,a1,a2,a3,(((sr8.mono ex9).mono ex10).mono ex11).mono exw,hr11.wrO aD11.at' exw (.inr (.inr ⟨_,ZC,Zg0 eg3 exw⟩)),(((ex5.trans ex9).trans ex10).trans ex11).trans exw,en⟩
             |_=>cases e5
            ·simp only[if_neg cz] at en
             cases en
     rcases tst with ⟨rfl,ec⟩ | ⟨e,rfl,tt',ptt,qtt⟩
     ·refine wpAny_tests_nil ?_
      exact after true M5 H8 α5 s8 I8 Ext.refl hr5 (by rw[ec])
     ·refine wpAny_tests_one ?_
      cases ec:c ρ6 M5 with
      |exc x9 M10=>rw[ec] at en;cases en
      |bad=>rw[ec] at en;cases en
      |ok kk M8=>
       have tv':=ptt _ s8 σ8 H8 (fun b H'=>b=kk/\ ∃ α',Ext Y.K H8 H' α5 α'/\HR Y.K H' α' M8) I8 (qtt σ8 ρ6 H8 α5 M5 _ (sr8) (hr5) (by
        rw[ec]
        exact fun v H' α' e h r=>⟨r,α',e,h⟩))
       refine wpAny_mono tv' (fun b s9 ⟨H9,I9,zb,α9,ex9,hr9⟩=> ?_) (fun x y z=>hxe x y z)
       subst zb
       exact after b M8 H9 α9 s9 I9 ex9 hr9 ec
theorem Zkf (hu:X.A.units + 64 < cLine) (B:Blk X scope cl N k fr) (hi:DI X ξ tg iter fi) (hg: ∀ C fp s H,DG (blk X scope cl N C fp s H) tg gt) (ht: ∀ C fp s H,DC (blk X scope cl N C fp s H) ifs c) (hk: ∀ C fp s H,DE (blk X scope cl N C fp s H) E0 kx fk) (hv: ∀ C fp s H,DE (blk X scope cl N C fp s H) E0 vx fv)
  (hs: ∀ x,foldedSetIterable iter X.env x=pure x:=by intro _;rfl):DE X ξ (.DictComp kx vx [⟨tg,iter,ifs,0⟩] scope pos) (ZeZ fi k fr gt c fk fv):=by
 obtain ⟨wi,pi,qi⟩:=hi
 refine ⟨fun σ H Q=> ∃ ρ α M,SR X.K H α σ ρ/\HR X.K H α M/\OP X.K H α ξ Q (ZeZ fi k fr gt c fk fv ρ M),?_,fun σ ρ H α M Q s h q=>⟨ρ,α,M,s,h,q⟩⟩
 rintro pins s σ H Q I ⟨ρ,α,M,sr,hr,op⟩
 rw[arm_eval_DictComp]
 refine wpAny_comprehension_free (use:=none) rfl hs B.clos B.kind B.names ?_
 refine thn (pi pins s σ H (fun J H2=> ∃ α2 M2 src,Ext X.K H H2 α α2/\HR X.K H2 α2 M2/\Zl5 X.K H2 α2 J src/\OP X.K H2 α2 ξ Q (match ZbS src gt c fk fv M2.length (cnt src M2) 0 (roB k fr ρ) (M2 ++ [.lst []]) with | .ok _ M2'=> .ok (.dt M2.length) M2' | _=> .bad)) I
  (qi σ ρ H α M _ sr hr (OG.seq op fun src M1 J H1 α1 e1 h1 r1 q1=>⟨α1,M1,src,e1,h1,r1,q1⟩))) fun v s1 w1=>thn w1 fun itv s2 w2=> ?_
 obtain ⟨it,fp,tn,J,H2,rfl,I2,T,st2,f2,α2,M2,src,e2,h2,sc,op2⟩:=w2
 have srI:=sr.mono e2
 refine wpAny_newObj_type ?_
 have I3:Inv X pins σ (upd H2 s2.heap.objs.size (.dT [])) { s2 with heap:=s2.heap.push { cls:= .type "dict",dict:=none,data:= .dict #[] } }:=I2.laid (a:=s2.heap.objs.size) (o:= .dT []) (t':=s2.toks) (fun _ _ q=>Heap.get?_push_of_some _ q) (Nat.le_refl _) (ZjP s2.heap I2.big)
 have fD:H2 s2.heap.objs.size=none:=I2.fresh
 generalize hD:s2.heap.objs.size=D at I3 fD
 generalize hs3:({ s2 with heap:=s2.heap.push { cls:= .type "dict",dict:=none,data:= .dict #[] } }:Shared)=s3 at I3
 generalize hH3:upd H2 D (.dT [])=H3 at I3
 have h3:HR X.K H3 (α2 ++ [D]) (M2 ++ [.lst []]):=by rw[<- hH3];exact h2.newO fD (.inr (.inr ⟨[],ZC,Zip⟩))
 have e3:Ext X.K H2 H3 α2 (α2 ++ [D]):=by rw[<- hH3];exact Ext.new fD
 have aD:RefK H3 (α2 ++ [D]) 2 M2.length D:=⟨h2.last D,by rw[<- hH3];unfold Kn;rw[ZC]⟩
 have lt2: ∀ b∈fp,b < s2.heap.objs.size:=fun b hb=>let ⟨o,e,_⟩:=T.obj _ _ st2 b hb;Heap.lt_size e
 have keep3: ∀ b o,s2.heap.get? b=some o->s3.heap.get? b=some o:=fun b o e=>by rw[<- hs3];exact Heap.get?_push_of_some _ e
 have f3: ∀ b∈fp,ZdP X pins H3 b:=fun b hb=>⟨by rw[<- hH3,ZP (by rw[<- hD];exact Nat.ne_of_lt (lt2 b hb))];exact (f2 b hb).1,(f2 b hb).2⟩
 have lt3: ∀ b∈fp,b < s3.heap.objs.size:=fun b hb=>let ⟨o,e,_⟩:=T.obj _ _ st2 b hb;Heap.lt_size (keep3 b o e)
 have st3:tn 0 s3.heap:=T.keep _ _ _ st2 fun b _ o e=>keep3 b o e
 refine wpAny_newFunctionEnv B.cell (by intro y hy;simp at hy) (fun h₁ hns₁ hsb₁=> ?_) B.kind
 have keep4: ∀ b o,s3.heap.get? b=some o->h₁.get? b=some o:=fun b o e=>hsb₁.extBut b o (Nat.ne_of_lt (Heap.lt_size e)) (Heap.get?_push_of_some _ e)
 have I4:=ZfH (tk:=s3.toks + ([]:List (Str × Value)).length) B I3 f3 lt3 hns₁ keep4
 have st4:tn 0 h₁:=T.keep _ _ _ st3 fun b _ o e=>keep4 b o e
 have fp5: ∀ {H':Hp},(∀ b∈fp,H' b=none)-> ∀ b∈fp,ZdP (blk X scope cl N s3.heap.objs.size fp s3 H3) [] H' b:=fun hn b hb=>⟨hn b hb,Nat.ne_of_lt (lt3 b hb),(Zgs B I3 f3 lt3).exfs b hb,.inl hb,fun x c h=>(f3 b hb).2.2.2.2.1 x c (B.sub x c h),fun p hp=>(by simp[blk] at hp)⟩
 cases er:ZbS src gt c fk fv M2.length (cnt src M2) 0 (roB k fr ρ) (M2 ++ [.lst []]) with
 |exc x M9=>rw[er] at op2;exact op2.elim
 |bad=>rw[er] at op2;exact op2.elim
 |ok u9 M9=>
  rw[er] at op2
  have loop:codeAny (model X.prog X.w) X.A (.compLoop (.DictComp kx vx [⟨tg,iter,ifs,0⟩] scope pos) 0 (.ref it) (.ref D) (compEnvC scope cl s3.heap.objs.size X.env)) (compPost (model X.prog X.w) X.A X.xe none (EP X pins σ Q) (.ref D) s3.heap.objs.size) { s3 with heap:=h₁,toks:=s3.toks + ([]:List (Str × Value)).length }:=by
   refine Ziz (Y:=blk X scope cl N s3.heap.objs.size fp s3 H3) hu T (fun _ _ z=>z) fp5 (hg _ fp s3 H3) (ht _ fp s3 H3) (hk _ fp s3 H3) (hv _ fp s3 H3) (fun i H' α' M' ex hr=>sc i H' α' M' (e3.trans ex) hr) aD I4 st4 (fun b hb=>(f3 b hb).1) ((srI.blk).mono e3) h3 er ?_
   intro σ5 H5 α5 s6 I6 ex5 hr5
   obtain ⟨I7,I8⟩:=Zeb B I3 f3 I6
   obtain ⟨m6,hm6,_⟩:=id I6.loc
   exact ⟨m6,hm6,fun h' sb=>⟨.ref D,H5,I8 σ s6 h' I7 (fun b o hb e=>(sb.2 b hb).trans e),rfl,op2 _ H5 α5 (e3.trans ex5) hr5 (.dt (ex5.get aD))⟩⟩
  exact codeAny_compStart_dict loop (T.self X.A 0 _ _ _ st4 loop)
end
end DL
end
namespace DL
open PySem PySem.Spec L2
section
variable {X:Cx} {ξ:XK} {a b c:Expr} {fa fb fc:Ev} {pos:Pos}
end
end DL
section
namespace DL
open PySem PySem.Spec PyProof.Rows L2 PySem.W
section
variable {K:PySem.W.Frag} {H:Hp} {α:List Addr}
end
section
variable {X:Cx} {ξ:XK} {pos:Pos}
variable {o e:Expr} {fo fa:Ev} {apos cpos:Pos}
end
end DL
end
section
namespace PySem.SeqAt
open MeetsSeq MeetsSeq2 MeetsSeq3 SeqRoads2
end PySem.SeqAt
namespace DL
open PySem PySem.Spec PyProof.Rows L2 PySem.W
section
variable {X:Cx} {ξ:XK} {o e:Expr} {fo fa:Ev} {apos cpos:Pos}
end
end DL
end
section
namespace ST
open PySem PyProof.Rows
noncomputable abbrev lt (a b:List Int):Bool:=HT.Zaa a b
noncomputable def le (a b:List Int):Prop:=lt b a=false
theorem ZiA: ∀ a:List Int,lt a a=false
 | []=>rfl
 |x :: r=>by
  show HT.Zaa (x :: r) (x :: r)=false
  rw[HT.Z5,if_pos rfl]
  exact ZiA r
theorem Zml: ∀ {a b c:List Int},lt a b=true->lt b c=true->lt a c=true
 | [],[],_,h,_=>by cases h
 | [],_ :: _,[],_,h=>by cases h
 | [],_ :: _,_ :: _,_,_=>rfl
 |_ :: _,[],_,h,_=>by cases h
 |_ :: _,_ :: _,[],_,h=>by cases h
 |x :: a,y :: b,z :: c,h,g=>by
  show HT.Zaa (x :: a) (z :: c)=true
  have h:HT.Zaa (x :: a) (y :: b)=true:=h
  have g:HT.Zaa (y :: b) (z :: c)=true:=g
  rw[HT.Z5] at h g ⊢
  by_cases e1:x=y
  ·subst e1
   rw[if_pos rfl] at h
   by_cases e2:x=z
   ·rw[if_pos e2] at g ⊢;exact Zml h g
   ·rw[if_neg e2] at g ⊢;exact g
  ·rw[if_neg e1] at h
   have h:=of_decide_eq_true h
   by_cases e2:y=z
   ·subst e2;rw[if_neg e1];exact decide_eq_true h
   ·rw[if_neg e2] at g
    have g:=of_decide_eq_true g
    rw[if_neg (by omega)]
    exact decide_eq_true (by omega)
theorem Ze0: ∀ {a b:List Int},lt a b=false->lt b a=false->a=b
 | [],[],_,_=>rfl
 | [],_ :: _,h,_=>by cases h
 |_ :: _,[],_,h=>by cases h
 |x :: a,y :: b,h,g=>by
  have h:HT.Zaa (x :: a) (y :: b)=false:=h
  have g:HT.Zaa (y :: b) (x :: a)=false:=g
  rw[HT.Z5] at h g
  by_cases e:x=y
  ·subst e
   rw[if_pos rfl] at h g
   rw[Ze0 h g]
  ·rw[if_neg e] at h
   rw[if_neg (Ne.symm e)] at g
   have:=of_decide_eq_false h
   have:=of_decide_eq_false g
   omega
theorem Zel (a:List Int):le a a:=ZiA a
theorem ZiB {a b:List Int} (h:lt a b=true):le a b:=by
 unfold le
 cases e:lt b a with
 |false=>rfl
 |true=>have:=Zml h e;rw[ZiA] at this;cases this
theorem Zg5 {a b c:List Int} (h:le a b) (g:le b c):le a c:=by
 unfold le at *
 cases e:lt c a with
 |false=>rfl
 |true=>
  cases e2:lt b a with
  |true=>rw[e2] at h;cases h
  |false=>
   cases e3:lt a b with
   |true=>rw[Zml e e3] at g;cases g
   |false=>
    have:=Ze0 e3 e2
    subst this
    rw[e] at g;cases g
theorem ZfP {a b c:List Int} (h:lt a b=true) (g:le b c):lt a c=true:=by
 cases e:lt a c with
 |true=>rfl
 |false=>have:=Zg5 g e;unfold le at this;rw[h] at this;cases this
variable (kf:Keyed->List Int)
noncomputable def ky (xs:Array Keyed) (i:Nat):List Int:=match xs[i]? with | some p=>kf p | none=>[]
noncomputable def Up (xs:Array Keyed) (n:Nat):Prop:= ∀ i j,i<=j->j < n->le (ky kf xs i) (ky kf xs j)
noncomputable def Dn (xs:Array Keyed) (n:Nat):Prop:= ∀ i j,i<=j->j < n->le (ky kf xs j) (ky kf xs i)
variable {kf}
theorem ZiC {xs ys:Array Keyed} {i j:Nat} (h:xs[i]?=ys[j]?):ky kf xs i=ky kf ys j:=by unfold ky;rw[h]
theorem ZiD {xs:Array Keyed} {i j:Nat} (hj:j<=xs.size) (k:Nat):ky kf (mirror xs i j ((j - i) / 2)) k=if i<=k/\k < j then ky kf xs (i + j - 1 - k) else ky kf xs k:=by
 have g:=getElem?_mirror_all (i:=i) hj k
 split
 ·rename_i c;rw[if_pos c] at g;exact ZiC g
 ·rename_i c;rw[if_neg c] at g;exact ZiC g
theorem Zas {xs:Array Keyed} {i j:Nat} (hj:j<=xs.size) (hs: ∀ k,i<=k->k < j->ky kf xs k=ky kf xs (j - 1)) (k:Nat):ky kf (mirror xs i j ((j - i) / 2)) k=ky kf xs k:=by
 rw[ZiD hj]
 split
 ·rename_i c;rw[hs k c.1 c.2,hs (i + j - 1 - k) (by omega) (by omega)]
 ·rfl
theorem Zk1 {xs:Array Keyed} {p d:Nat} (hp:p < xs.size) (hd:d<=p) (k:Nat):ky kf (bubble xs p d) k=if k=p - d then ky kf xs p else if p - d < k/\k<=p then ky kf xs (k - 1) else ky kf xs k:=by
 have g:=getElem?_bubble hp d hd k
 by_cases c1:k=p - d
 ·rw[if_pos c1] at g ⊢;exact ZiC g
 ·rw[if_neg c1] at g ⊢
  by_cases c2:p - d < k/\k<=p
  ·rw[if_pos c2] at g ⊢;exact ZiC g
  ·rw[if_neg c2] at g ⊢;exact ZiC g
structure Cm (M:Model) (A:Around) (E:Value->Shared->Prop) (s:Shared) (kf:Keyed->List Int) (B:SortSt->Prop) (N:Nat):Prop where
 sz: ∀ st,B st->(arrOf st).size=N
 put: ∀ st xs,B st->xs.Perm (arrOf st)->B (setArr st xs)
 cmp: ∀ st i j (Q:Option Bool->SortSt->Prop),B st->i < N->j < N->Q (some (lt (ky kf (arrOf st) i) (ky kf (arrOf st) j))) st->wpS M A E s (ltAt' i j) Q st
section
variable {prog:Program} {w:World} {A:Around} {E:Value->Shared->Prop} {s:Shared} {B:SortSt->Prop} {N:Nat}
theorem Up.more {xs:Array Keyed} {n:Nat} (h:Up kf xs n) (h1:1<=n) (hl:le (ky kf xs (n - 1)) (ky kf xs n)):Up kf xs (n + 1):=by
 intro i j ij jn
 by_cases c:j < n
 ·exact h i j ij c
 ·have:j=n:=by omega
  subst this
  by_cases c2:i=j
  ·subst c2;exact Zel _
  ·exact Zg5 (h i (j - 1) (by omega) (by omega)) hl
theorem Dn.more {xs:Array Keyed} {n:Nat} (h:Dn kf xs n) (h1:1<=n) (hl:le (ky kf xs n) (ky kf xs (n - 1))):Dn kf xs (n + 1):=by
 intro i j ij jn
 by_cases c:j < n
 ·exact h i j ij c
 ·have:j=n:=by omega
  subst this
  by_cases c2:i=j
  ·subst c2;exact Zel _
  ·exact Zg5 hl (h i (j - 1) (by omega) (by omega))
theorem ZoO (C:Cm (model prog w) A E s kf B N) {st:SortSt} {a n:Nat} {Q:AscSt->SortSt->Prop} (hn:n<=N) (ha:1<=a) (an:a<=n) (hB:B st) (hu:Up kf (arrOf st) a)
  (q: ∀ m,a<=m->m<=n->Up kf (arrOf st) m->(m=n\/lt (ky kf (arrOf st) m) (ky kf (arrOf st) (m - 1))=true)->Q (none,m) st):wpS (model prog w) A E s (ascLoop a n) Q st:=by
 unfold ascLoop
 refine wpS_forRange (fun x c t=>t=st/\c=(none,x)/\Up kf (arrOf st) x) (fun x c t ax xn hI=> ?_) (fun c t hI=> ?_) ⟨rfl,rfl,hu⟩
 ·obtain ⟨rfl,rfl,h⟩:=hI
  refine wpS_bind (C.cmp t x (x - 1) _ hB (by omega) (by omega) ?_)
  cases z:lt (ky kf (arrOf t) x) (ky kf (arrOf t) (x - 1)) with
  |true=>exact wpS_pure (q x ax (by omega) h (.inr z))
  |false=>exact wpS_pure ⟨rfl,rfl,h.more (by omega) z⟩
 ·obtain ⟨rfl,rfl,h⟩:=hI
  rw[Nat.max_eq_right an] at h ⊢
  exact q n an (Nat.le_refl _) h (.inl rfl)
theorem Zk2 (C:Cm (model prog w) A E s kf B N) {st:SortSt} {m n:Nat} {Q:Option Nat->SortSt->Prop} (hn:n<=N) (h1:1<=m) (mn:m<=n) (hB:B st) (hd:Dn kf (arrOf st) m)
  (q: ∀ m t,B t->1<=m->m<=n->Up kf (arrOf t) m->Q (some m) t):wpS (model prog w) A E s (tail3 m n) Q st:=by
 have sz:=C.sz st hB
 have hB':=C.put st (mirror (arrOf st) 0 m ((m - 0) / 2)) hB (mirror_perm ..)
 refine wpS_bind (wpS_reverse (wpS_bind (ZoO C hn h1 mn hB' (fun i j ij jm=> ?_) fun k k1 k2 hu _=>wpS_pure (q k _ hB' (by omega) k2 hu))))
 show le (ky kf (mirror (arrOf st) 0 m ((m - 0) / 2)) i) (ky kf (mirror (arrOf st) 0 m ((m - 0) / 2)) j)
 rw[ZiD (by omega),ZiD (by omega),if_pos ⟨by omega,by omega⟩,if_pos ⟨by omega,jm⟩]
 exact hd _ _ (by omega) (by omega)
noncomputable def Eqs (kf:Keyed->List Int) (xs:Array Keyed) (x e:Nat):Prop:=e + 1<=x/\ ∀ i,x - (e + 1)<=i->i < x->ky kf xs i=ky kf xs (x - 1)
theorem ZrA {xs:Array Keyed} {x:Nat} (h:1<=x):Eqs kf xs x 0:=⟨by omega,fun i a b=>by rw[show i=x - 1 by omega]⟩
theorem ZoP (C:Cm (model prog w) A E s kf B N) {st:SortSt} {m n:Nat} {Q:DescSt->SortSt->Prop} (hn:n<=N) (h1:1<=m) (mn:m<=n) (hB:B st) (hd:Dn kf (arrOf st) m)
  (q: ∀ x e t,B t->m<=x->x<=n->Dn kf (arrOf t) x->Eqs kf (arrOf t) x e->Q (none,x,e) t):wpS (model prog w) A E s (descLoop m n) Q st:=by
 unfold descLoop
 refine wpS_forRange (fun x c t=> ∃ e,c=(none,x,e)/\B t/\Dn kf (arrOf t) x/\Eqs kf (arrOf t) x e) (fun x c t ax xn hI=> ?_) (fun c t hI=> ?_) ⟨0,rfl,hB,hd,ZrA h1⟩
 ·obtain ⟨e,rfl,hB,hd,he⟩:=hI
  have sz:=C.sz t hB
  refine wpS_bind (C.cmp t x (x - 1) _ hB (by omega) (by omega) ?_)
  cases z:lt (ky kf (arrOf t) x) (ky kf (arrOf t) (x - 1)) with
  |true=>
   have up1:=hd.more (by omega) (ZiB z)
   show wpS _ _ _ _ (if e > 0 then _ else _) _ _
   by_cases c:e > 0
   ·rw[if_pos c]
    refine wpS_bind (wpS_reverse (wpS_pure ⟨0,rfl,C.put t _ hB (mirror_perm ..),fun i j ij jx=> ?_,ZrA (by omega)⟩))
    show le (ky kf (mirror (arrOf t) (x - (e + 1)) x ((x - (x - (e + 1))) / 2)) j) (ky kf (mirror (arrOf t) (x - (e + 1)) x ((x - (x - (e + 1))) / 2)) i)
    rw[Zas (by omega) he.2,Zas (by omega) he.2]
    exact up1 i j ij jx
   ·rw[if_neg c]
    exact wpS_pure ⟨0,rfl,hB,up1,ZrA (by omega)⟩
  |false=>
   refine wpS_bind (C.cmp t (x - 1) x _ hB (by omega) (by omega) ?_)
   cases z2:lt (ky kf (arrOf t) (x - 1)) (ky kf (arrOf t) x) with
   |true=>exact wpS_pure (q x e t hB ax (by omega) hd he)
   |false=>
    have ee:ky kf (arrOf t) x=ky kf (arrOf t) (x - 1):=Ze0 z z2
    refine wpS_pure ⟨e + 1,rfl,hB,hd.more (by omega) z2,by have:=he.1;omega,fun i a b=> ?_⟩
    rw[show x + 1 - 1=x by omega]
    by_cases c:i=x
    ·rw[c]
    ·rw[ee];exact he.2 i (by omega) (by omega)
 ·obtain ⟨e,rfl,hB,hd,he⟩:=hI
  rw[Nat.max_eq_right mn] at hd he ⊢
  exact q n e t hB mn (Nat.le_refl _) hd he
theorem Zk3 (C:Cm (model prog w) A E s kf B N) {st:SortSt} {m n:Nat} {Q:Option Nat->SortSt->Prop} (hn:n<=N) (mn:m + 1<=n) (hB:B st) (hd:Dn kf (arrOf st) (m + 1))
  (q: ∀ m t,B t->1<=m->m<=n->Up kf (arrOf t) m->Q (some m) t):wpS (model prog w) A E s (descPart m n) Q st:=by
 refine wpS_bind (wpS_lift (wpAny_rule ⟨rfl,wpS_bind (ZoP C hn (by omega) mn hB hd fun x e t hB hx xn hd he=> ?_)⟩))
 have sz:=C.sz t hB
 show wpS _ _ _ _ (if e > 0 then _ else _) _ _
 by_cases c:e > 0
 ·rw[if_pos c]
  refine wpS_bind (wpS_reverse (Zk2 (m:=x) C hn (by omega) xn (C.put t _ hB (mirror_perm ..)) (fun i j ij jx=> ?_) q))
  show le (ky kf (mirror (arrOf t) (x - (e + 1)) x ((x - (x - (e + 1))) / 2)) j) (ky kf (mirror (arrOf t) (x - (e + 1)) x ((x - (x - (e + 1))) / 2)) i)
  rw[Zas (by omega) he.2,Zas (by omega) he.2]
  exact hd i j ij jx
 ·rw[if_neg c]
  exact Zk2 (m:=x) C hn (by omega) xn hB hd q
theorem ZrB (C:Cm (model prog w) A E s kf B N) {st:SortSt} {n:Nat} {Q:Option Nat->SortSt->Prop} (hn:n<=N) (h1:1<=n) (hB:B st)
  (q: ∀ m t,B t->1<=m->m<=n->Up kf (arrOf t) m->Q (some m) t):wpS (model prog w) A E s (countRun' 0 n) Q st:=by
 have sz:=C.sz st hB
 rw[countRun0_eq]
 refine wpS_bind (ZoO C hn (Nat.le_refl 1) h1 hB (fun i j ij j1=>by rw[show i=j by omega];exact Zel _) fun m m1 m2 hu ho=> ?_)
 show wpS _ _ _ _ (if (m == n)=true then _ else _) _ _
 by_cases c:m=n
 ·rw[if_pos (by simpa using c)]
  exact wpS_pure (q m st hB m1 m2 hu)
 ·rw[if_neg (by simpa using c)]
  have hl:=ho.resolve_left c
  by_cases c1:m > 1
  ·rw[if_pos c1]
   refine wpS_bind (C.cmp st 0 (m - 1) _ hB (by omega) (by omega) ?_)
   cases z:lt (ky kf (arrOf st) 0) (ky kf (arrOf st) (m - 1)) with
   |true=>exact wpS_pure (q m st hB m1 m2 hu)
   |false=>
    have al: ∀ k,0<=k->k < m->ky kf (arrOf st) k=ky kf (arrOf st) (m - 1):=fun k _ km=>
     Ze0 (Zg5 z (hu 0 k (by omega) km)) (hu k (m - 1) (by omega) (by omega))
    refine wpS_bind (wpS_reverse (Zk3 C hn (by omega) (C.put st _ hB (mirror_perm ..)) (fun i j ij jx=> ?_) q))
    show le (ky kf (mirror (arrOf st) 0 m ((m - 0) / 2)) j) (ky kf (mirror (arrOf st) 0 m ((m - 0) / 2)) i)
    rw[Zas (by omega) al,Zas (by omega) al]
    by_cases d:j < m
    ·rw[al i (by omega) (by omega),al j (by omega) d];exact Zel _
    ·have:j=m:=by omega
     subst this
     by_cases d2:i=j
     ·rw[d2];exact Zel _
     ·rw[al i (by omega) (by omega)];exact ZiB hl
  ·rw[if_neg c1]
   have:m=1:=by omega
   subst this
   refine Zk3 C hn (by omega) hB (fun i j ij jx=> ?_) q
   by_cases d2:i=j
   ·rw[d2];exact Zel _
   ·rw[show i=0 by omega,show j=1 by omega];exact ZiB hl
theorem ZrC (C:Cm (model prog w) A E s kf B N) {st:SortSt} {n ok:Nat} {Q:Bool->SortSt->Prop} (hn:n<=N) (hk:ok<=n) (hB:B st) (hu:Up kf (arrOf st) ok)
  (q: ∀ t,B t->Up kf (arrOf t) n->Q true t):wpS (model prog w) A E s (binarySort' 0 n ok) Q st:=by
 rw[binarySort'_eq]
 simp only[Nat.zero_add]
 refine wpS_bind (wpS_mono (wpS_forRange (fun k c t=>c=(none,())/\B t/\Up kf (arrOf t) (min k n)) (Q:=fun c t=>c=(none,())/\B t/\Up kf (arrOf t) n) (fun k c t ak kn hI=> ?_) (fun c t hI=> ?_) ⟨rfl,hB,fun i j ij jn=> ?_⟩) fun c t hI=> ?_)
 ·obtain ⟨rfl,hB,hu⟩:=hI
  rw[Nat.min_eq_left (by omega)] at hu
  have sz:=C.sz t hB
  have kN:k < N:=by omega
  refine wpS_bind (wpS_mono (wpS_forRange (fun x c t'=>t'=t/\ ∃ l r,c=(none,l,r)/\(l<=r/\r<=k/\r - l<=k - x)/\(∀ i,i < l->le (ky kf (arrOf t) i) (ky kf (arrOf t) k))/\ ∀ i,r<=i->i < k->lt (ky kf (arrOf t) k) (ky kf (arrOf t) i)=true)
   (Q:=fun c t'=>t'=t/\ ∃ l r,c=(none,l,r)/\l<=k/\(∀ i,i < l->le (ky kf (arrOf t) i) (ky kf (arrOf t) k))/\ ∀ i,l<=i->i < k->lt (ky kf (arrOf t) k) (ky kf (arrOf t) i)=true) (fun x c t' _ xk hI=> ?_) (fun c t' hI=> ?_) ⟨rfl,0,k,rfl,by omega,fun i hi=>by omega,fun i a b=>by omega⟩) fun c t' hI=> ?_)
  ·obtain ⟨rfl,l,r,rfl,⟨lr,rk,hm⟩,lo,hi⟩:=hI
   show wpS _ _ _ _ (if l ≥ r then _ else _) _ _
   by_cases c:l ≥ r
   ·rw[if_pos c]
    have:l=r:=by omega
    subst this
    exact wpS_pure ⟨rfl,l,l,rfl,rk,lo,hi⟩
   ·rw[if_neg c]
    refine wpS_bind (C.cmp t' k ((l + r) / 2) _ hB kN (by omega) ?_)
    cases z:lt (ky kf (arrOf t') k) (ky kf (arrOf t') ((l + r) / 2)) with
    |true=>exact wpS_pure ⟨rfl,l,(l + r) / 2,rfl,by omega,lo,fun i a b=>ZfP z (hu _ _ a b)⟩
    |false=>exact wpS_pure ⟨rfl,(l + r) / 2 + 1,r,rfl,by omega,fun i a=>Zg5 (hu i ((l + r) / 2) (by omega) (by omega)) z,hi⟩
  ·obtain ⟨rfl,l,r,rfl,⟨lr,rk,hm⟩,lo,hi⟩:=hI
   have:l=r:=by omega
   subst this
   exact ⟨rfl,l,l,rfl,rk,lo,hi⟩
  ·obtain ⟨rfl,l,r,rfl,lk,lo,hi⟩:=hI
   show wpS _ _ _ _ (moveDown' k l >>= fun _=>pure (ForInStep.yield (none,()))) _ _
   rw[moveDown'_eq]
   refine wpS_bind (wpS_modify (wpS_pure ⟨rfl,C.put t' _ hB (bubble_perm ..),?_⟩))
   rw[Nat.min_eq_left (by omega)]
   intro i j ij jk
   show le (ky kf (bubble (arrOf t') k (k - l)) i) (ky kf (bubble (arrOf t') k (k - l)) j)
   rw[Zk1 (by omega) (by omega),Zk1 (by omega) (by omega),show k - (k - l)=l by omega]
   by_cases i1:i=l
   ·rw[if_pos i1]
    by_cases j1:j=l
    ·rw[if_pos j1];exact Zel _
    ·rw[if_neg j1,if_pos (by omega)];exact ZiB (hi _ (by omega) (by omega))
   ·rw[if_neg i1]
    by_cases i2:l < i/\i<=k
    ·rw[if_pos i2,if_neg (by omega),if_pos (by omega)];exact hu _ _ (by omega) (by omega)
    ·rw[if_neg i2]
     by_cases j1:j=l
     ·rw[if_pos j1];exact lo _ (by omega)
     ·rw[if_neg j1]
      by_cases j2:l < j/\j<=k
      ·rw[if_pos j2];exact hu _ _ (by omega) (by omega)
      ·rw[if_neg j2];exact hu _ _ (by omega) (by omega)
 ·obtain ⟨rfl,hB,hu⟩:=hI
  rw[show min (max (max ok 1) n) n=n by omega] at hu
  exact ⟨rfl,hB,hu⟩
 ·by_cases c:ok=0
  ·rw[show i=j by omega];exact Zel _
  ·exact hu i j ij (by omega)
 ·obtain ⟨rfl,hB,hu⟩:=hI
  exact wpS_pure (q t hB hu)
structure Cn (B:SortSt->Prop):Prop where
 fail: ∀ st,B st->failedOf st=none
 pend: ∀ st,B st->pendingOf st= #[]
theorem ZoQ (C:Cm (model prog w) A E s kf B N) (D:Cn B) {st:SortSt} {Q:Unit->SortSt->Prop} (h2:2<=N) (h64:N < 64) (hB:B st)
  (q: ∀ t t',B t->arrOf t'=arrOf t->failedOf t'=none->Up kf (arrOf t) N->Q () t'):wpS (model prog w) A E s sortRuns' Q st:=by
 rw[sortRuns'_eq]
 refine wpS_bind (wpS_get ?_)
 have mr:minRun' N N 0=N:=by
  have:minRun' ((N - 1) + 1) N 0=N:=by rw[minRun'_succ,if_pos h64];rfl
  rwa [show N - 1 + 1=N by omega] at this
 simp only[C.sz st hB,mr]
 refine wpS_bind (wpS_mono (wpS_forRange (fun x c t=>(x=0/\c=(none,0)/\B t)\/(1<=x/\c=(none,N)/\ ∃ t0,B t0/\t=setPending t0 #[(0,N,0)]/\Up kf (arrOf t0) N)) (Q:=fun c t=>c=(none,N)/\ ∃ t0,B t0/\t=setPending t0 #[(0,N,0)]/\Up kf (arrOf t0) N) (fun x c t _ xN hI=> ?_) (fun c t hI=> ?_) (.inl ⟨rfl,rfl,hB⟩)) fun c t hI=> ?_)
 ·rcases hI with ⟨rfl,rfl,hB⟩ | ⟨x1,rfl,hD⟩
  ·show wpS _ _ _ _ (if 0 ≥ N then _ else _) _ _
   rw[if_neg (by omega)]
   simp only[Nat.sub_zero,Nat.min_self,Nat.zero_add]
   refine wpS_bind (ZrB C (Nat.le_refl _) (by omega) hB fun m t1 hB1 m1 m2 hu=> ?_)
   have fin: ∀ t1,B t1->Up kf (arrOf t1) N->(pendingOf t1).back?=none/\((0=0/\((none,N):Option Unit × Nat)=(none,0)/\B (setPending t1 ((pendingOf t1).push (0,N,0))))\/(1<=0 + 1/\((none,N):Option Unit × Nat)=(none,N)/\ ∃ t0,B t0/\setPending t1 ((pendingOf t1).push (0,N,0))=setPending t0 #[(0,N,0)]/\Up kf (arrOf t0) N)):=fun t1 hB1 hu=>by
    rw[D.pend t1 hB1]
    exact ⟨rfl,.inr ⟨by omega,rfl,t1,hB1,rfl,hu⟩⟩
   show wpS _ _ _ _ (if m < N then _ else _) _ _
   by_cases c:m < N
   ·rw[if_pos c]
    refine wpS_bind (wpS_lift (wpAny_rule ⟨rfl,wpS_bind (ZrC C (Nat.le_refl _) m2 hB1 hu fun t2 hB2 hu2=> ?_)⟩))
    simp only[Bool.not_true,Bool.false_eq_true,if_false]
    refine wpS_bind (wpS_get ?_)
    rw[(fin t2 hB2 hu2).1]
    refine wpS_bind (wpS_modify (wpS_pure (.inr ⟨by omega,rfl,t2,hB2,?_,hu2⟩)))
    rw[D.pend t2 hB2];rfl
   ·rw[if_neg c]
    have:m=N:=by omega
    subst this
    refine wpS_bind (wpS_get ?_)
    rw[(fin t1 hB1 hu).1]
    refine wpS_bind (wpS_modify (wpS_pure (.inr ⟨by omega,rfl,t1,hB1,?_,hu⟩)))
    rw[D.pend t1 hB1];rfl
  ·show wpS _ _ _ _ (if N ≥ N then _ else _) _ _
   rw[if_pos (Nat.le_refl _)]
   exact wpS_pure ⟨rfl,hD⟩
 ·rcases hI with ⟨x0,_,_⟩ | ⟨_,hc,hD⟩
  ·omega
  ·exact ⟨hc,hD⟩
 ·obtain ⟨rfl,t0,hB0,rfl,hu⟩:=hI
  refine wpS_bind (wpS_mono (wpS_forRange (fun _ c t=>t=setPending t0 #[(0,N,0)]/\c=(none,())) (Q:=fun c t=>t=setPending t0 #[(0,N,0)]/\c=(none,())) (fun x c t _ _ hI=> ?_) (fun _ _ h=>h) ⟨rfl,rfl⟩) fun c t hI=> ?_)
  ·obtain ⟨rfl,rfl⟩:=hI
   refine wpS_bind (wpS_get ?_)
   rw[if_pos (show (pendingOf (setPending t0 #[(0,N,0)])).size<=1 from Nat.le_refl 1)]
   exact wpS_pure ⟨rfl,rfl⟩
  ·obtain ⟨rfl,rfl⟩:=hI
   exact wpS_pure (q t0 _ hB0 rfl (D.fail t0 hB0) hu)
theorem ZiE (x y:Value):keyLt' (tuples' true) x y=(do
  let xs <- Builtin.List.listItems x
  let ys <- Builtin.List.listItems y
  for ((p,q),i) in (xs.toList.zip ys.toList).zipIdx do
   if !(<- eqBool p q) then return <- oneLt' (true && i == 0) p q
  return decide (xs.size < ys.size)):=rfl
noncomputable def ZoR (x:(Value × Value) × Nat) (_:Option Bool × Unit):Sem (ForInStep (Option Bool × Unit)):=match x with
 | ((p,q),i)=>do
  let b <- eqBool p q
  if (!b)=true then do
   let r <- oneLt' (true && i == 0) p q
   pure (ForInStep.done (some r,()))
  else pure (ForInStep.yield (none,()))
theorem ZiF {f:Bool} {a b:Int} {t u:Tok} {Q:Bool->Shared->Prop} (h:Q (decide (a < b)) s):wpAny (model prog w) A (oneLt' f (.int a t) (.int b u)) Q E s:=by
 cases f with
 |true=>exact oneLt_int h
 |false=>
  rw[oneLt'_eq]
  simp only[Bool.false_eq_true,if_false]
  exact wpAny_bind (HT.Zgj _ _ _ _ _ _ _ _ _ _ (wpAny_truthy_bool h))
theorem Zgz: ∀ {us vs:List Value} {ns ms:List Int},IntsAre us ns->IntsAre vs ms-> ∀ (k:Nat) (Q:Option Bool × Unit->Shared->Prop),
  (∀ b,b=HT.Zaa ns ms->Q (some b,()) s)->(HT.Zaa ns ms=decide (us.length < vs.length)->Q (none,()) s)->wpAny (model prog w) A (forIn ((us.zip vs).zipIdx k) (none,()) ZoR) Q E s
 |_,_,_,_,.nil,.nil,k,Q,_,h2=>by
  simp only[List.zip_nil_left,List.zipIdx_nil,List.forIn_nil]
  exact wpAny_pure (h2 rfl)
 |_,_,_,_,.nil,.cons m t hv,k,Q,_,h2=>by
  simp only[List.zip_nil_left,List.zipIdx_nil,List.forIn_nil]
  exact wpAny_pure (h2 (by simp[HT.Zaa]))
 |_,_,_,_,.cons n t hu,.nil,k,Q,_,h2=>by
  simp only[List.zip_nil_right,List.zipIdx_nil,List.forIn_nil]
  exact wpAny_pure (h2 (by simp[HT.Zaa]))
 |_,_,_,_,.cons (ns:=ns) (vs:=us) n t hu,.cons (ns:=ms) (vs:=vs) m u hv,k,Q,h1,h2=>by
  rw[List.zip_cons_cons,List.zipIdx_cons,List.forIn_cons]
  obtain ⟨e,he,hi⟩:=HT.Zgi A s n t m u
  refine wpAny_bind (wpAny_bind (he prog w _ _ ?_))
  cases e with
  |true=>
   have:n=m:=hi.mp rfl
   subst this
   refine wpAny_pure (Zgz hu hv (k + 1) Q (fun b hb=>h1 b ?_) fun z=>h2 ?_)
   ·rw[HT.Z5,if_pos rfl];exact hb
   ·rw[HT.Z5,if_pos rfl,z];simp
  |false=>
   have:n≠m:=fun z=>by have:=hi.mpr z;cases this
   refine wpAny_bind (ZiF (wpAny_pure (wpAny_pure (h1 _ ?_))))
   rw[HT.Z5,if_neg this]
noncomputable def ZcD (h:Heap) (v:Value) (ns:List Int):Prop:= ∃ a o its n,v= .ref a/\h.get? a=some o/\o.cls= .type "tuple"/\o.data= .seq its n/\IntsAre its.toList ns
theorem Ze1: ∀ {us:List Value} {ns ms:List Int},IntsAre us ns->IntsAre us ms->ns=ms
 |_,_,_,.nil,.nil=>rfl
 |_,_,_,.cons n t h,.cons _ _ g=>by rw[Ze1 h g]
theorem ZcD.uniq {h:Heap} {v:Value} {ns ms:List Int} (a:ZcD h v ns) (b:ZcD h v ms):ns=ms:=by
 obtain ⟨p,o,its,n,rfl,e1,e2,e3,e4⟩:=a
 obtain ⟨p',o',its',n',e5,f1,f2,f3,f4⟩:=b
 cases e5
 rw[e1] at f1
 cases f1
 rw[e3] at f3
 cases f3
 exact Ze1 e4 f4
theorem ZcD.kept {h h':Heap} {v:Value} {ns:List Int} (a:ZcD h v ns) (k: ∀ p o,h.get? p=some o->o.cls= .type "tuple"->h'.get? p=some o):ZcD h' v ns:=by
 obtain ⟨p,o,its,n,e0,e1,e2,e3,e4⟩:=a
 exact ⟨p,o,its,n,e0,k p o e1 e2,e2,e3,e4⟩
theorem ZrD {x y:Value} {ns ms:List Int} {Q:Bool->Shared->Prop} (hx:ZcD s.heap x ns) (hy:ZcD s.heap y ms) (q:Q (HT.Zaa ns ms) s):wpAny (model prog w) A (keyLt' (tuples' true) x y) Q E s:=by
 obtain ⟨a,o,its,n,rfl,e1,e2,e3,e4⟩:=hx
 obtain ⟨b,o',its',n',rfl,f1,f2,f3,f4⟩:=hy
 rw[ZiE]
 refine wpAny_bind (listItems_at e1 e3 (wpAny_bind (listItems_at f1 f3 ?_)))
 show wpAny _ _ (forIn ((its.toList.zip its'.toList).zipIdx 0) (none,()) ZoR >>= _) _ _ _
 refine wpAny_bind (Zgz e4 f4 0 _ (fun b hb=> ?_) fun z=> ?_)
 ·rw[hb];exact wpAny_pure q
 ·show wpAny _ _ (pure (decide (its.size < its'.size))) _ _ _
  rw[show decide (its.size < its'.size)=HT.Zaa ns ms by rw[z];simp]
  exact wpAny_pure q
open Classical in
noncomputable def kfH (h:Heap) (p:Keyed):List Int:=if e: ∃ ns,ZcD h p.1 ns then e.choose else []
theorem Zk4 {h:Heap} {p:Keyed} {ns:List Int} (e:ZcD h p.1 ns):kfH h p=ns:=by
 unfold kfH
 rw[dif_pos ⟨ns,e⟩]
 exact (Exists.choose_spec (⟨ns,e⟩: ∃ ns,ZcD h p.1 ns)).uniq e
structure TB (a₀:Array Keyed) (st:SortSt):Prop where
 perm:(arrOf st).Perm a₀
 kind:kindOf st=tuples' true
 fail:failedOf st=none
 pend:pendingOf st= #[]
theorem ZrE {a₀:Array Keyed} (hk: ∀ p∈a₀.toList,∃ ns,ZcD s.heap p.1 ns):Cm (model prog w) A E s (kfH s.heap) (TB a₀) a₀.size where
 sz st h:=h.perm.size_eq
 put st xs h hp:=⟨hp.trans h.perm,h.kind,h.fail,h.pend⟩
 cmp st i j Q h hi hj q:=by
  have sz:=h.perm.size_eq
  have gt: ∀ k,k < a₀.size-> ∃ x p ns,(arrOf st)[k]?=some (x,p)/\ZcD s.heap x ns/\ky (kfH s.heap) (arrOf st) k=ns:=fun k kk=>by
   have kl:k < (arrOf st).size:=by omega
   have e:(arrOf st)[k]?=some (arrOf st)[k]:=getElem?_pos _ k kl
   obtain ⟨ns,ht⟩:=hk _ ((Array.perm_iff_toList_perm.mp h.perm).mem_iff.mp (show (arrOf st)[k]∈(arrOf st).toList by simp))
   refine ⟨(arrOf st)[k].1,(arrOf st)[k].2,ns,e,ht,?_⟩
   unfold ky
   rw[e]
   exact Zk4 ht
  obtain ⟨x,p,ns,e1,t1,k1⟩:=gt i hi
  obtain ⟨y,p',ms,e2,t2,k2⟩:=gt j hj
  rw[k1,k2] at q
  rw[ltAt'_eq]
  refine wpS_bind (wpS_get ?_)
  show wpS _ _ _ _ (elem' (arrOf st) i >>= fun x=>elem' (arrOf st) j >>= fun y=>lt' x y) Q st
  rw[elem'_eq,elem'_eq,e1,e2]
  refine wpS_bind (wpS_pure (wpS_bind (wpS_pure ?_)))
  rw[lt'_eq]
  refine wpS_bind (wpS_get ?_)
  rw[h.kind]
  exact wpS_bind (wpS_lift (wpAny_attempt (ZrD t1 t2 ⟨rfl,wpS_pure q⟩)))
theorem ZrF {a₀:Array Keyed}:Cn (TB a₀):=⟨fun _ h=>h.fail,fun _ h=>h.pend⟩
theorem Zmm {v:Value} {n:Int} {ns:List Int} {Q:Option Value->Shared->Prop} (h:ZcD s.heap v (n :: ns)) (q: ∀ t,Q (some (.int n t)) s):wpAny (model prog w) A (firstOfTuple' v) Q E s:=by
 obtain ⟨a,o,its,m,rfl,e1,e2,e3,e4⟩:=h
 have e:firstOfTuple' (.ref a)=(do
  if (<- typeOf (.ref a)) != .type "tuple" then return none
  return (<- Builtin.List.listItems (.ref a))[0]?):=rfl
 rw[e]
 refine wpAny_bind (wpAny_typeOf ⟨o,e1,e2⟩ ?_)
 rw[if_neg (by decide)]
 refine wpAny_bind (listItems_at e1 e3 (wpAny_pure ?_))
 cases its with
 |mk l=>
  cases e4 with
  |cons n t h=>exact q t
theorem ZgA: ∀ {vs:List Value},(∀ v∈vs,∃ n ns,ZcD s.heap v (n :: ns))-> ∀ (Q:List (Option Value)->Shared->Prop),(∀ us ns,IntsAre us ns->us.length=vs.length->Q (us.map some) s)->wpAny (model prog w) A (vs.mapM firstOfTuple') Q E s
 | [],_,Q,q=>by
  rw[List.mapM_nil]
  exact wpAny_pure (q [] [] .nil rfl)
 |v :: vs,h,Q,q=>by
  obtain ⟨n,ns,hv⟩:=h v (by simp)
  rw[List.mapM_cons]
  refine wpAny_bind (Zmm hv fun t=>wpAny_bind (ZgA (fun x hx=>h x (List.mem_cons_of_mem _ hx)) _ fun us ms hi hl=>wpAny_pure ?_))
  exact q (.int n t :: us) (n :: ms) (.cons n t hi) (by simp[hl])
theorem ZoS {vs:List Value} {Q:SortKind->Shared->Prop} (h: ∀ v∈vs,∃ n ns,ZcD s.heap v (n :: ns)) (ne:vs≠[]) (q:Q (tuples' true) s):wpAny (model prog w) A (keyKind' vs.toArray) Q E s:=by
 rw[keyKind'_eq,List.mapM_toArray]
 simp only[map_eq_pure_bind,bind_assoc,pure_bind]
 refine wpAny_bind (ZgA h _ fun us ns hi hl=> ?_)
 have a1:((us.map some).toArray.all fun x=>x.isSome)=true:=by simp
 rw[if_pos a1]
 refine wpAny_bind (wpAny_rule ?_)
 have a2:(us.map some).toArray.filterMap id=us.toArray:=by simp
 rw[a2,oneTypeOnly'_eq,List.mapM_toArray,mapM_typeOf_ints hi]
 cases us with
 |nil=>exact absurd (List.eq_nil_of_length_eq_zero hl.symm) ne
 |cons u us=>
  simp only[map_pure,pure_bind]
  have b0:(List.map (fun _=>Value.type "int") (u :: us)).toArray[0]?=some (Value.type "int"):=by simp
  have b1:((List.map (fun _=>Value.type "int") (u :: us)).toArray.all fun x=>x == Value.type "int")=true:=by
   rw[List.all_toArray,List.all_map,List.all_eq_true]
   exact fun _ _=>rfl
  rw[b0]
  show wpAny _ _ (pure (if ((List.map (fun _=>Value.type "int") (u :: us)).toArray.all fun x=>x == Value.type "int")=true then some (Value.type "int") else none) >>= _) _ _ _
  rw[if_pos b1]
  exact wpAny_bind (wpAny_pure (wpAny_pure q))
theorem ZoT {a:Addr} {vs:List Value} {n:Nat} {P:Fin->Shared->Prop} (ho:s.heap.get? a=some (seqObj "list" vs.toArray n)) (hk: ∀ v∈vs,∃ k ns,ZcD s.heap v (k :: ns)) (h64:vs.length < 64)
  (q: ∀ out:List Value,out.Perm vs->(∀ i j (hi:i < out.length) (hj:j < out.length),i<=j-> ∀ ns ms,ZcD s.heap out[i] ns->ZcD s.heap out[j] ms->HT.Zaa ms ns=false)->P (.done (.ret .none)) { s with heap:=sortedHeap s.heap a vs out.toArray }):
  wpAny (model prog w) A (Builtin.«list.sort» ⟨[.ref a],[]⟩) P E s:=by
 have al:a < s.heap.objs.size:=Heap.lt_size ho
 obtain ⟨e1,o1⟩: ∃ e1,(s.heap.update a (Obj.mapSeq fun _=> #[])).get? a=some (seqObj "list" #[] e1):=⟨_,get?_update_seq ho (fun _=> #[])⟩
 have o2:(((s.heap.update a (Obj.mapSeq fun _=> #[])).push (seqObj "tuple" vs.toArray 0)).push (seqObj "list" #[] 0)).get? a=some (seqObj "list" #[] e1):=
  Heap.get?_push_of_some _ (Heap.get?_push_of_some _ o1)
 have kp: ∀ v ns,ZcD s.heap v ns->ZcD (((s.heap.update a (Obj.mapSeq fun _=> #[])).push (seqObj "tuple" vs.toArray 0)).push (seqObj "list" #[] 0)) v ns:=fun v ns ht=>ht.kept fun p o ep ec=>by
  have:p≠a:=fun z=>by
   subst z
   rw[ho] at ep
   cases ep
   revert ec
   show ¬ (Value.type "list"=Value.type "tuple")
   decide
  exact Heap.get?_push_of_some _ (Heap.get?_push_of_some _ ((Heap.get?_update_other _ _ (Ne.symm this)).trans ep))
 rw[list_sort_plain]
 refine wpAny_bind (listItems_at ho rfl (wpAny_bind (listUpdate_at ho rfl (wpAny_bind (seqEpoch_at o1 rfl (wpAny_bind (wpAny_newTuple (wpAny_bind (wpAny_newList (wpAny_holding ?_))))))))))
 show wpAny _ _ _ P E { s with heap:=((s.heap.update a (Obj.mapSeq fun _=> #[])).push (seqObj "tuple" vs.toArray 0)).push (seqObj "list" #[] 0) }
 have vz:vs.toArray.size=vs.length:=by simp
 have fin: ∀ xs:Array Keyed,xs.Perm (pairsOf vs)->(∀ i j,i<=j->j < vs.length->le (ky (kfH (((s.heap.update a (Obj.mapSeq fun _=> #[])).push (seqObj "tuple" vs.toArray 0)).push (seqObj "list" #[] 0))) xs i) (ky (kfH (((s.heap.update a (Obj.mapSeq fun _=> #[])).push (seqObj "tuple" vs.toArray 0)).push (seqObj "list" #[] 0))) xs j))->
   P (.done (.ret .none)) { s with heap:=sortedHeap s.heap a vs (xs.map (·.2)) }:=by
  intro xs hp hu
  have hl:xs.toList.Perm (vs.zip vs):=by rw[<- pairsOf_toList];exact Array.perm_iff_toList_perm.mp hp
  have hm: ∀ p∈xs.toList,p.1=p.2/\p.1∈vs:=fun p hp=>mem_zip_self (hl.mem_iff.mp hp)
  have e2:(xs.toList.map (·.2)).Perm vs:=by
   have:=hl.map (fun p:Keyed=>p.2)
   rwa [List.map_snd_zip (Nat.le_refl _)] at this
  have ea:xs.map (·.2)=(xs.toList.map (·.2)).toArray:=by
   apply Array.toList_inj.mp
   simp
  rw[ea]
  refine q _ e2 fun i j hi hj ij ns ms t1 t2=> ?_
  have li:i < xs.size:=by simpa using hi
  have lj:j < xs.size:=by simpa using hj
  have lv:xs.size=vs.length:=by rw[hp.size_eq,pairsOf_size]
  have kk: ∀ k (hk:k < xs.size) (ns:List Int),ZcD s.heap (xs[k]).2 ns->ky (kfH (((s.heap.update a (Obj.mapSeq fun _=> #[])).push (seqObj "tuple" vs.toArray 0)).push (seqObj "list" #[] 0))) xs k=ns:=fun k hk ns ht=>by
   unfold ky
   rw[getElem?_pos xs k hk]
   exact Zk4 (kp _ _ (by rw[(hm xs[k] (by simp)).1];exact ht))
  have:=hu i j ij (by omega)
  rw[kk i li ns (by simpa using t1),kk j lj ms (by simpa using t2)] at this
  exact this
 have rest: ∀ st':SortSt,(arrOf st').Perm (pairsOf vs)->failedOf st'=none->(∀ i j,i<=j->j < vs.length->le (ky (kfH (((s.heap.update a (Obj.mapSeq fun _=> #[])).push (seqObj "tuple" vs.toArray 0)).push (seqObj "list" #[] 0))) (arrOf st') i) (ky (kfH (((s.heap.update a (Obj.mapSeq fun _=> #[])).push (seqObj "tuple" vs.toArray 0)).push (seqObj "list" #[] 0))) (arrOf st') j))->
   wpAny (model prog w) A (do
    let b <- seqEpoch a
    Builtin.List.listUpdate (.ref a) fun _=>(arrOf st').map (·.2)
    if let some e:=failedOf st' then rule "list.sort.comparison-raised";throw e
    if (b != e1)=true then rule "list.sort.modified";raiseError "ValueError" "list modified during sort"
    ret .none) P E { s with heap:=((s.heap.update a (Obj.mapSeq fun _=> #[])).push (seqObj "tuple" vs.toArray 0)).push (seqObj "list" #[] 0) }:=by
  intro st' hp hf hu
  refine wpAny_bind (seqEpoch_at o2 rfl (wpAny_bind (listUpdate_at o2 rfl ?_ (hsz2:= ?_))))
  ·rw[hf]
   simp only[bne_self_eq_false,Bool.false_eq_true,if_false]
   exact wpAny_pure (fin _ hp hu)
  ·rw[Array.size_map,hp.size_eq,pairsOf_size,sizeLine_eq];omega
 by_cases c:vs.toArray.size < 2
 ·rw[if_pos c,if_pos c]
  refine wpAny_bind (wpAny_pure ?_)
  show wpAny _ _ ((pure ():StateT SortSt Sem Unit).run (SortSt.mk' general' (vs.toArray.zip vs.toArray) #[] 7 none) >>= _) _ _ _
  rw[StateT.run_pure]
  exact wpAny_bind (wpAny_pure (rest (SortSt.mk' general' (vs.toArray.zip vs.toArray) #[] 7 none) (Array.Perm.refl _) rfl fun i j ij jn=>by rw[show i=j by omega];exact Zel _))
 ·rw[if_neg c,if_neg c]
  refine wpAny_bind (ZoS (fun v hv=> ?_) (fun z=> ?_) (wpAny_bind (wpAny_mono (ZoQ (N:=(pairsOf vs).size) (Q:=fun _ t'=> ∃ t,TB (pairsOf vs) t/\arrOf t'=arrOf t/\failedOf t'=none/\Up (kfH (((s.heap.update a (Obj.mapSeq fun _=> #[])).push (seqObj "tuple" vs.toArray 0)).push (seqObj "list" #[] 0))) (arrOf t) (pairsOf vs).size) (ZrE fun p hp=> ?_) ZrF (by rw[pairsOf_size];omega) (by rw[pairsOf_size];exact h64) ⟨Array.Perm.refl _,rfl,rfl,rfl⟩ fun t t' a1 a2 a3 a4=>⟨t,a1,a2,a3,a4⟩) ?_ fun _ _ z=>z)))
  ·obtain ⟨k,ns,ht⟩:=hk v hv
   exact ⟨k,ns,kp _ _ ht⟩
  ·rw[z] at c;simp at c
  ·rw[pairsOf_toList] at hp
   obtain ⟨k,ns,ht⟩:=hk p.1 (mem_zip_self hp).2
   exact ⟨_,kp _ _ ht⟩
  ·rintro ⟨⟨⟩,t'⟩ s' ⟨rfl,t,tb,ea,ef,hu⟩
   rw[pairsOf_size] at hu
   exact rest t' (by rw[ea];exact tb.perm) ef (by rw[ea];exact hu)
theorem Zkg {l:Addr} {vs:List Value} {Q:Value->Shared->Prop} (hl:s.heap.IsList l vs.toArray) (hk: ∀ v∈vs,∃ k ns,ZcD s.heap v (k :: ns)) (h64:vs.length < 64)
  (q: ∀ out:List Value,out.Perm vs->(∀ i j (hi:i < out.length) (hj:j < out.length),i<=j-> ∀ ns ms,ZcD s.heap out[i] ns->ZcD s.heap out[j] ms->HT.Zaa ms ns=false)->Q (.ref (s.heap.objs.size + 1)) { s with heap:=sortedAll s.heap vs out.toArray }):
  wpAny (model prog w) A (call (.builtin "sorted") [.ref l]) Q E s:=by
 have z1:((s.heap.push (seqObj "list" #[] 0)).update s.heap.objs.size (Obj.mapSeq (· ++ vs.toArray))).objs.size=s.heap.objs.size + 1:=by rw[Heap.size_update,size_push']
 have o1:(((s.heap.push (seqObj "list" #[] 0)).update s.heap.objs.size (Obj.mapSeq (· ++ vs.toArray))).push (seqObj "list" vs.toArray 0)).get? (s.heap.objs.size + 1)=some (seqObj "list" vs.toArray 0):=by
  rw[<- z1];exact Heap.get?_push_size _ rfl
 have kp: ∀ p o,s.heap.get? p=some o->(((s.heap.push (seqObj "list" #[] 0)).update s.heap.objs.size (Obj.mapSeq (· ++ vs.toArray))).push (seqObj "list" vs.toArray 0)).get? p=some o:=fun p o ep=>
  Heap.get?_push_of_some _ ((Heap.get?_update_other _ _ (Nat.ne_of_gt (Heap.lt_size ep))).trans (Heap.get?_push_of_some _ ep))
 refine Calls.call_function_entry kind_sorted plain_sorted entry_sorted (args_sorted1 _) ?_
 unfold Builtin.«sorted»
 refine wpAny_bind (m:=checkCount "sorted" 1 1 _) (wpAny_pure (wpAny_bind (collect_list hl (wpAny_bind (wpAny_newList ?_)))))
 show wpAny _ _ _ _ _ { s with heap:=((s.heap.push (seqObj "list" #[] 0)).update s.heap.objs.size (Obj.mapSeq (· ++ vs.toArray))).push (seqObj "list" vs.toArray 0) }
 rw[z1]
 refine wpAny_bind (wpAny_holding (wpAny_call_entry slot_list_sort ⟨_,o1,rfl⟩ entry_list_sort (ZoT o1 (fun v hv=> ?_) h64 fun out hp hs=>⟨_,rfl,wpAny_pure ⟨_,rfl,q out hp fun i j hi hj ij ns ms t1 t2=>hs i j hi hj ij ns ms (t1.kept fun p o e _=>kp p o e) (t2.kept fun p o e _=>kp p o e)⟩⟩) (args_list_sort _)))
 obtain ⟨k,ns,ht⟩:=hk v hv
 exact ⟨k,ns,ht.kept fun p o e _=>kp p o e⟩
end
end ST
end
section
namespace ST
noncomputable def ins (x:List Int):List (List Int)->List (List Int)
 | []=>[x]
 |y :: r=>if lt y x=true then y :: ins x r else x :: y :: r
noncomputable def srt:List (List Int)->List (List Int)
 | []=>[]
 |x :: r=>ins x (srt r)
theorem Zem (x:List Int): ∀ l,(ins x l).Perm (x :: l)
 | []=> .refl _
 |y :: r=>by
  unfold ins
  split
  ·exact ((Zem x r).cons y).trans (.swap x y r)
  ·exact .refl _
theorem ZcR: ∀ l,(srt l).Perm l
 | []=> .refl _
 |x :: r=>(Zem x (srt r)).trans ((ZcR r).cons x)
theorem Zk5 (x:List Int): ∀ l,l.Pairwise le->(ins x l).Pairwise le
 | [],_=>List.pairwise_singleton _ _
 |y :: r,h=>by
  obtain ⟨h1,h2⟩:=List.pairwise_cons.mp h
  unfold ins
  split
  ·rename_i c
   refine List.pairwise_cons.mpr ⟨fun z hz=> ?_,Zk5 x r h2⟩
   rcases List.mem_cons.mp ((Zem x r).mem_iff.mp hz) with rfl | hz
   ·exact ZiB c
   ·exact h1 z hz
  ·rename_i c
   have c:le x y:=by unfold le;simpa using c
   refine List.pairwise_cons.mpr ⟨fun z hz=> ?_,h⟩
   rcases List.mem_cons.mp hz with rfl | hz
   ·exact c
   ·exact Zg5 c (h1 z hz)
theorem ZiG: ∀ l,(srt l).Pairwise le
 | []=> .nil
 |x :: r=>Zk5 x _ (ZiG r)
theorem ZgB {a b:List (List Int)} (hp:a.Perm b) (h:a.Pairwise le):a=srt b:=
 List.Perm.eq_of_pairwise (fun x y _ _ h1 h2=>Ze0 h2 h1) h (ZiG b) (hp.trans (ZcR b).symm)
theorem ZoU {a b:List (List Int)} (hp:a.Perm b):srt a=srt b:=ZgB ((ZcR a).trans hp) (ZiG a)
end ST
namespace DL
open PySem PySem.Spec PyProof.Rows L2 PySem.W
theorem Zdl {α β:Type} {F:α->β->Prop} {us us':List β} (hp:us'.Perm us): ∀ {xs:List α},Paired F xs us-> ∃ xs',xs'.Perm xs/\Paired F xs' us':=by
 induction hp with
 |nil=>intro xs h;exact ⟨xs,.refl _,h⟩
 | @cons a l1 l2 h ih=>
  intro xs r
  cases r with
  |cons r1 r2=>
   obtain ⟨xs',p1,p2⟩:=ih r2
   exact ⟨_ :: xs',p1.cons _,.cons r1 p2⟩
 |swap a b l=>
  intro xs r
  cases r with
  |cons r1 r2=>
   cases r2 with
   |cons r2 r3=>exact ⟨_ :: _ :: _,.swap _ _ _,.cons r2 (.cons r1 r3)⟩
 |trans h1 h2 i1 i2=>
  intro xs r
  obtain ⟨x1,p1,q1⟩:=i2 r
  obtain ⟨x2,p2,q2⟩:=i1 q1
  exact ⟨x2,p2.trans p1,q2⟩
theorem ZiH {K:PySem.W.Frag} {H:Hp} {α:List Addr} {vs vs':List V} (hp:vs'.Perm vs): ∀ {ds:List D},Reps K H α vs ds-> ∃ ds',ds'.Perm ds/\Reps K H α vs' ds':=by
 induction hp with
 |nil=>intro xs h;exact ⟨xs,.refl _,h⟩
 | @cons a l1 l2 h ih=>
  intro xs r
  cases r with
  |cons r1 r2=>
   obtain ⟨xs',p1,p2⟩:=ih r2
   exact ⟨_ :: xs',p1.cons _,.cons r1 p2⟩
 |swap a b l=>
  intro xs r
  cases r with
  |cons r1 r2=>
   cases r2 with
   |cons r2 r3=>exact ⟨_ :: _ :: _,.swap _ _ _,.cons r2 (.cons r1 r3)⟩
 |trans h1 h2 i1 i2=>
  intro xs r
  obtain ⟨x1,p1,q1⟩:=i2 r
  obtain ⟨x2,p2,q2⟩:=i1 q1
  exact ⟨x2,p2.trans p1,q2⟩
noncomputable def Znv (K:PySem.W.Frag) (H:Hp) (x:V) (ns:List Int):Prop:= ∃ q,x= .ref q/\SqT K H q (ns.map V.int)
section
variable {X:Cx} {ξ:XK}
noncomputable def ZrG (X:Cx):List V->Hp->VK->Prop:=fun vs H Q=> ∃ p xs,vs=[.ref p]/\SqL X.K H p xs/\xs.length < 64/\(∀ x∈xs,∃ k ns,Znv X.K H x (k :: ns))/\
 ∀ l ys,H l=none->ys.Perm xs->(∀ i j (hi:i < ys.length) (hj:j < ys.length),i<=j-> ∀ ns ms,Znv X.K H ys[i] ns->Znv X.K H ys[j] ms->ST.le ns ms)->Q (.ref l) (upd H l (.lst ys))
theorem Zen {pins:List (Addr × Obj)} {σ:L2.St} {H:Hp} {s:Shared} (I:Inv X pins σ H s) {x:V} {u:Value} {ns:List Int} (h:Znv X.K H x ns) (r:ZV x u):ST.ZcD s.heap u ns:=by
 obtain ⟨q,rfl,hq⟩:=h
 cases r
 obtain ⟨its,r2,⟨o,k1,k2,n,k3⟩,_⟩:=I.tuple hq
 exact ⟨q,o,its.toArray,n,rfl,k1,k2,k3,by simpa using Zcq r2⟩
theorem Zdm:Zco X (.builtin "sorted") (ZrG X):=by
 intro pins s σ H vs us Q I rs hh
 obtain ⟨p,xs,e,hl,h64,hk,q⟩:=hh
 subst e
 obtain ⟨u,rfl,ru⟩:=ZcV rs
 cases ru
 obtain ⟨its,rv,pl,hz⟩:=I.list hl
 refine ST.Zkg (vs:=its) pl.isList (fun v hv=> ?_) (by rw[<- rv.length];exact h64) fun out hp hs=> ?_
 ·obtain ⟨i,hi,rfl⟩:=List.getElem_of_mem hv
  obtain ⟨x,e1,e2⟩:=Zej rv (List.getElem?_eq_getElem hi)
  obtain ⟨k,ns,hx⟩:=hk x (List.mem_of_getElem? e1)
  exact ⟨k,ns,Zen I hx e2⟩
 ·obtain ⟨ys,p1,p2⟩:=Zdl hp rv
  obtain ⟨n,hn⟩:=sortedAll_at s.heap its out.toArray
  refine ⟨.ref _,_,I.laid (t':=s.toks) (o:= .lst ys) (fun _ _ h=>sortedAll_old h) (Nat.le_succ _) ⟨by rw[p1.length_eq];exact hz,out,n,p2,hn⟩,rfl,q _ ys (I.hok.fresh (Nat.le_succ _)) p1 fun i j hi hj ij ns ms k1 k2=> ?_⟩
  have hl:ys.length=out.length:=ZX.length p2
  have a1: ∀ i (hi:i < ys.length),ZV ys[i] (out[i]'(by omega)):=fun i hi=>by
   obtain ⟨u,e1,e2⟩:=ZX.get p2 (List.getElem?_eq_getElem hi)
   rw[List.getElem?_eq_getElem (by omega)] at e1
   cases e1
   exact e2
  exact hs i j (by omega) (by omega) ij ns ms (Zen I k1 (a1 i hi)) (Zen I k2 (a1 j hj))
theorem Ze2:bootBuiltins "sorted"=some (.builtin "sorted"):=by decide +kernel
noncomputable def kyD:D->Option (List Int)
 | .tup xs=>(match ZaJ xs with | some (k :: ns)=>some (k :: ns) | _=>none)
 |_=>none
noncomputable def ksD:List D->Option (List (List Int))
 | []=>some []
 |d :: r=>match kyD d,ksD r with | some k,some ks=>some (k :: ks) | _,_=>none
noncomputable def tupD (ns:List Int):D:= .tup (ns.map D.int)
noncomputable def ZiI (ds:List D) (M:Sto):Out D:=if ds.length < 64 then (match ksD ds with | some ks=> .ok (.ref M.length) (M ++ [.lst ((ST.srt ks).map tupD)]) | none=> .bad) else .bad
noncomputable def bSrt:List D->Sto->Out D:=fun ds M=>match ds with
 | [.ref n]=>(match M[n]? with | some (.lst xs)=>ZiI xs M | none=> .bad)
 | [.rol xs]=>ZiI xs M
 |_=> .bad
theorem Ze3: ∀ {xs:List D} {a:List Int},ZaJ xs=some a->xs=a.map D.int
 | [],a,e=>by cases e;rfl
 |x :: r,a,e=>by
  cases x with
  |int i=>
   unfold ZaJ at e
   split at e
   ·rename_i is e1
    cases e
    rw[Ze3 e1]
    rfl
   ·cases e
  |_=>cases e
theorem Ze4: ∀ a:List Int,ZaJ (a.map D.int)=some a
 | []=>rfl
 |i :: r=>by rw[List.map_cons,ZaJ,Ze4 r]
theorem ZoV {d:D} {ns:List Int} (h:kyD d=some ns):d=tupD ns/\ ∃ k r,ns=k :: r:=by
 unfold kyD at h
 split at h
 ·rename_i xs
  split at h
  ·rename_i k r e
   cases h
   exact ⟨by unfold tupD;rw[<- Ze3 e],k,r,rfl⟩
  ·cases h
 ·cases h
theorem Zk6: ∀ {ds:List D} {ks:List (List Int)},ksD ds=some ks->ds=ks.map tupD/\ ∀ k∈ks,k≠[]
 | [],ks,e=>by cases e;exact ⟨rfl,fun k hk=>by cases hk⟩
 |d :: r,ks,e=>by
  unfold ksD at e
  split at e
  ·rename_i k ks' e1 e2
   cases e
   obtain ⟨h1,h2⟩:=Zk6 e2
   obtain ⟨h3,k0,r0,h4⟩:=ZoV e1
   refine ⟨by rw[List.map_cons,<- h1,<- h3],fun x hx=> ?_⟩
   rcases List.mem_cons.mp hx with rfl | hx
   ·rw[h4];exact List.cons_ne_nil _ _
   ·exact h2 x hx
  ·cases e
theorem ZiJ {H:Hp} {α:List Addr} {v:V} {ns:List Int} (r:Rep X.K H α v (tupD ns)):Znv X.K H v ns:=by
 cases r with
 |tup hp rp=>
  have:=Zcg rp (Ze4 ns)
  subst this
  exact ⟨_,rfl,SqT.of hp⟩
theorem Ze5:CO X ξ (ZrG X) bSrt:=by
 intro H α M vs ds Q h rs q
 have fin: ∀ (p:Addr) (xs:List V) (ys:List D),SqL X.K H p xs->Reps X.K H α xs ys->OP X.K H α ξ Q (ZiI ys M)->ZrG X [.ref p] H Q:=fun p xs ys k1 k2 q=>by
  unfold ZiI at q
  split at q
  ·rename_i c
   cases e:ksD ys with
   |none=>simp only[e] at q;exact q.elim
   |some ks=>
    simp only[e] at q
    obtain ⟨e1,e2⟩:=Zk6 e
    subst e1
    refine ⟨p,xs,rfl,k1,by rw[k2.length];exact c,fun x hx=> ?_,fun l zs hl hp hs=> ?_⟩
    ·obtain ⟨i,hi,rfl⟩:=List.getElem_of_mem hx
     obtain ⟨d,d1,d2⟩:=Zdk k2 (List.getElem?_eq_getElem hi)
     obtain ⟨k,hk,rfl⟩:=List.mem_map.mp (List.mem_of_getElem? d1)
     match k,e2 k hk,d2 with
     |a :: b,_,d2=>exact ⟨a,b,ZiJ d2⟩
     | [],z,_=>exact absurd rfl z
    ·obtain ⟨ds',p1,p2⟩:=ZiH hp k2
     obtain ⟨ks',p3,p4⟩: ∃ ks':List (List Int),ks'.Perm ks/\ds'=ks'.map tupD:=by
      have:Paired (fun (a:List Int) d=>d=tupD a) ks (ks.map tupD):=by
       clear k2 c e p1 hp e2 q
       induction ks with
       |nil=>exact .nil
       |cons a b ih=>exact .cons rfl ih
      obtain ⟨ks',q1,q2⟩:=Zdl p1 this
      refine ⟨ks',q1,?_⟩
      clear q1 p1 p2
      induction q2 with
      |nil=>rfl
      |cons h _ ih=>rw[List.map_cons,h,ih]
     subst p4
     have hup:ks'.Pairwise ST.le:=by
      refine List.pairwise_iff_getElem.mpr fun i j hi hj ij=> ?_
      have lz:zs.length=ks'.length:=by rw[p2.length,List.length_map]
      have kk: ∀ i (hi:i < ks'.length),Znv X.K H (zs[i]'(by omega)) ks'[i]:=fun i hi=>by
       obtain ⟨d,d1,d2⟩:=Zdk p2 (List.getElem?_eq_getElem (show i < zs.length by omega))
       rw[List.getElem?_map,List.getElem?_eq_getElem hi] at d1
       cases d1
       exact ZiJ d2
      exact hs i j (by omega) (by omega) (Nat.le_of_lt ij) _ _ (kk i hi) (kk j hj)
     rw[ST.ZgB p3 hup] at p2
     exact q _ _ (α ++ [l]) (Ext.new hl) (h.new hl p2) (.ref ⟨h.last l,Kn.lst ZC⟩)
  ·exact q.elim
 match rs with
 | .nil=>exact q.elim
 | .cons r (.cons _ _)=>cases r<;>exact q.elim
 | .cons (d:=x) r .nil=>
  cases r with
  | @rol p xs ds hp rp=>exact fin p xs ds hp.sq rp q
  | @ref p n hp=>
   cases em:M[n]? with
   |none=>simp only[bSrt,em] at q;exact q.elim
   |some so=>
    cases so with
    |lst es=>
     simp only[bSrt,em] at q
     obtain ⟨xs,g1,g2⟩:=h.at hp em
     exact fin p xs es (SqL.of g1) g2 q
  |_=>exact q.elim
end
end DL
end
section
namespace DL
open PySem PySem.Spec PyProof.Rows L2
noncomputable def Bag (n:Nat) (M:Sto):Prop:= ∃ a b:Int,0<=a/\M[n]?=some (.lst [.int a,.int b])
structure Gr (n:Nat) (M M':Sto):Prop where
 len:M.length<=M'.length
 bag:Bag n M'
 keep: ∀ k,k≠n->k < M.length->M'[k]?=M[k]?
theorem ZiK {i j:Int} (h1: -(2 ^ 64) < j) (h2:j < 2 ^ 64):Z9 i j:= .inr (.inl (intBits_le_64 h1 h2))
theorem ZiL {i j:Int} (h1: -(2 ^ 64) < i) (h2:i < 2 ^ 64):Z9 i j:= .inl (intBits_le_64 h1 h2)
theorem at0 {x:D} {r:List D}:atI (x :: r) 0=some x:=by
 show (ixN (r.length + 1) 0).bind _=_
 unfold ixN
 rw[if_pos (by decide),if_pos (by omega)]
 rfl
theorem at1 {x y:D} {r:List D}:atI (x :: y :: r) 1=some y:=by
 show (ixN (r.length + 2) 1).bind _=_
 unfold ixN
 rw[if_pos (by decide),if_pos (by omega)]
 rfl
theorem ix0 {n:Nat}:ixN (n + 1) 0=some 0:=by
 unfold ixN
 rw[if_pos (by decide),if_pos (by omega)]
 rfl
theorem ix1 {n:Nat}:ixN (n + 2) 1=some 1:=by
 unfold ixN
 rw[if_pos (by decide),if_pos (by omega)]
 rfl
theorem Bag.lt {n:Nat} {M:Sto} (h:Bag n M):n < M.length:=let ⟨_,_,_,e⟩:=h;(List.getElem?_eq_some_iff.mp e).1
theorem Bag.app {n:Nat} {M:Sto} (h:Bag n M) (L:Sto):Bag n (M ++ L):=by
 have hl:=h.lt
 obtain ⟨a,b,h1,h2⟩:=h
 exact ⟨a,b,h1,by rw[List.getElem?_append_left hl];exact h2⟩
theorem Gr.trans {n:Nat} {M M1 M2:Sto} (a:Gr n M M1) (b:Gr n M1 M2):Gr n M M2:=
 ⟨Nat.le_trans a.len b.len,b.bag,fun k h1 h2=>(b.keep k h1 (Nat.lt_of_lt_of_le h2 a.len)).trans (a.keep k h1 h2)⟩
theorem Gr.app {n:Nat} {M:Sto} (h:Bag n M) (L:Sto):Gr n M (M ++ L):=⟨by simp,h.app L,fun k _ hk=>by rw[List.getElem?_append_left hk]⟩
theorem Gr.app2 {n:Nat} {M M1:Sto} (h:Gr n M M1) (L:Sto):Gr n M (M1 ++ L):=h.trans (.app h.bag L)
theorem Gr.new {n:Nat} {M M1:Sto} {o:SO} {L:Sto} (hb:Bag n M) (h:Gr n (M ++ o :: L) M1):M1[M.length]?=some o:=by
 rw[h.keep _ (Nat.ne_of_gt hb.lt) (by simp)]
 simp
theorem Zkh {ns:List Int} {k:Nat} (h:k < ns.length):atI (ns.map D.int) (k:Int)=some (.int ns[k]):=ZlQ (by rw[List.getElem?_map,List.getElem?_eq_getElem h];rfl)
theorem Zmn (a:Int):(if a < 0 then -a else a)=(a.natAbs:Int):=by split<;>omega
end DL
end
section
end
section
namespace HD
open PySem PySem.W PyProof.Rows
noncomputable def ZqU (thr:Thread->Bool) (stp:SharedT->Thread->Option (SharedT × Thread)) (n:Nat):SharedT->Thread->Option SharedT:=
 Nat.rec (motive:=fun _=>SharedT->Thread->Option SharedT) (fun _ _=>none) (fun _ ih s t=>Bool.rec (motive:=fun _=>Option SharedT) (Option.rec (motive:=fun _=>Option SharedT) none (fun r=>ih r.1 r.2) (stp s t)) (some s) (thr t)) n
noncomputable def Zki (ok:Thread->Bool) (stp:SharedT->Thread->Option (SharedT × Thread)) (s:SharedT) (t:Thread):Option (SharedT × Thread):=Bool.rec (motive:=fun _=>Option (SharedT × Thread)) none (stp s t) (ok t)
section
variable {tb:String->Option Builtin} {p:Program} {w:World} {n₀:Nat} {ann:Option Value}
theorem Zk7: ∀ {n:Nat} {s s':SharedT} {t:Thread},ZqU through (Zki (stepOk n₀ ann) (stepT (denote tb) p w)) n s t=some s'->topRun tb p w n₀ ann n s.abs t=some s'.abs
 |0,s,s',t,h=>by cases h
 |n + 1,s,s',t,h=>by
  unfold topRun
  change Bool.rec (motive:=fun _=>Option SharedT) (Option.rec (motive:=fun _=>Option SharedT) none (fun r=>ZqU through (Zki (stepOk n₀ ann) (stepT (denote tb) p w)) n r.1 r.2) (Zki (stepOk n₀ ann) (stepT (denote tb) p w) s t)) (some s) (through t)=some s' at h
  cases ht:through t with
  |true=>
   rw[ht] at h
   have h':some s=some s':=h
   cases h'
   rfl
  |false=>
   rw[ht] at h
   cases hk:stepOk n₀ ann t with
   |false=>
    have e:Zki (stepOk n₀ ann) (stepT (denote tb) p w) s t=none:=by unfold Zki;rw[hk]
    rw[e] at h
    cases h
   |true=>
    have e:Zki (stepOk n₀ ann) (stepT (denote tb) p w) s t=stepT (denote tb) p w s t:=by unfold Zki;rw[hk]
    rw[e] at h
    cases hs:stepT (denote tb) p w s t with
    |none=>rw[hs] at h;cases h
    |some r=>
     obtain ⟨s2,t2⟩:=r
     rw[hs] at h
     have:=stepT_spec hs
     rw[this]
     exact Zk7 (n:=n) h
end
noncomputable def T0 (w:World) (os:OsState):SharedT:=
 ⟨[boot_o_0,boot_o_1,boot_o_2,boot_o_3,boot_o_4,boot_o_5,boot_o_6,boot_o_7,boot_o_8,boot_o_9,boot_o_10].foldl (fun (r:Nat × BT) o=>(r.1 + 1,r.2.ins r.1 (o w.params))) (0,.nil) |>.2,11,(boot_heap w.params).life,#[],boot_drawn,boot_toks,os⟩
theorem ZoW (w:World) (os:OsState):(T0 w os).abs=⟨boot_heap w.params,#[],boot_drawn,boot_toks,os⟩:=by kernel_rfl
theorem Zmo:Str.ofString "__annotations__"=⟨#[95,95,97,110,110,111,116,97,116,105,111,110,115,95,95]⟩:=by decide +kernel
theorem ZiM {p q:Program} {loose:List Str} {Xt:Shared->Bool} {α:Type} {Yf:Shared->α} {Ya:World->α} {N M:Nat} (e:opening p=plainProg p.main.scope.names) (hN:Nat.ble 600 N=true) (f: ∀ s,fenceModules? p s=some s) (le:Nat.ble M N=true)
  (ZrH: ∀ (w:World) (os:OsState),(ZqU through (Zki (stepOk 11 (some (.ref 6))) (stepT (denote treeTable) p w)) M (T0 w os) (topStub p)).map (fun s=>((staticsOk (importedModules p.main.body) (boot_heap w.params) s.abs.heap && namesBound p s.abs.heap && gensDone s.abs && laidKept (boot_heap w.params) s.abs.heap),
    openSeen q loose (importedModules p.main.body) Xt true s.abs,Yf s.abs))=some (true,openGood q loose,Ya w)):LeftO p q loose Xt Yf Ya N:=fun w=>by
 obtain ⟨⟨h,gs,d,k,os⟩,e1,e2⟩:=Option.map_eq_some_iff.mp (boot_open e hN f w)
 obtain ⟨rfl,rfl,rfl,rfl⟩:h=boot_heap w.params/\gs=Array.mk []/\d=boot_drawn/\k=boot_toks:=by simpa using e2
 obtain ⟨s',r1,r2⟩:=Option.map_eq_some_iff.mp (ZrH w os)
 obtain ⟨l1,l2,l3⟩:_/\_/\_:=by simpa only[Prod.mk.injEq] using r2
 have r:=Zk7 r1
 rw[ZoW] at r
 have r:=topRun_mono (N - M) _ _ _ _ r
 rw[show M + (N - M)=N by have:=Nat.le_of_ble_eq_true le;omega] at r
 have z1:((boot_heap w.params).isNs mainGlobals && (Array.mk []:Array GenState).size == 0)=true:=by kernel_rfl
 have z2:(boot_heap w.params).objs.size=11:=rfl
 have z3:(boot_heap w.params).nsMap mainGlobals "__annotations__"=some (.ref 6):=by
  rw[Zmo]
  kernel_rfl
 have t:topFrom treeTable p w N ⟨boot_heap w.params,Array.mk [],boot_drawn,boot_toks,os⟩=some s'.abs:=by
  unfold topFrom
  dsimp only
  rw[z1,z2,z3,r]
  show (match staticsOk (importedModules p.main.body) (boot_heap w.params) s'.abs.heap && namesBound p s'.abs.heap && gensDone s'.abs && laidKept (boot_heap w.params) s'.abs.heap with | true=>_ | false=>_)=_
  rw[l1]
 unfold openEnds
 rw[e1]
 show (topFrom treeTable p w N _).map _=_
 rw[t]
 exact congrArg some (Prod.ext l2 l3)
end HD
namespace HD
open PySem PySem.W
theorem ZrI: @stepOk= @PySem.W.Fast.tw6613529449190102663:=PySem.W.Fast.te6613529449190102663
theorem Zmp: @stepT= @PySem.W.Fast.tw10156331382660048174:=PySem.W.Fast.te10156331382660048174
theorem ZoX: @denote= @PySem.W.Fast.tw11892475500146522536:=PySem.W.Fast.te11892475500146522536
theorem ZoY: @treeTable= @PySem.W.Fast.tw14364793385576792824:=PySem.W.Fast.te14364793385576792824
theorem Zmq: @openSeen= @PySem.W.Fast.tw4187177175401517315:=PySem.W.Fast.te4187177175401517315
theorem ZoZ: @importedModules= @PySem.W.Fast.tw5923862056798008813:=PySem.W.Fast.te5923862056798008813
end HD
end
section
namespace DL
open PySem PySem.Spec PyProof.Rows L2
noncomputable def wO {β:Type} (o:Out β) (Q:β->Sto->Prop) (E:Str->Sto->Prop):Prop:=match o with
 | .ok a M=>Q a M
 | .exc c M=>E c M
 | .bad=>False
noncomputable def wS (f:Fl) (N:Ro->Sto->Prop) (R:D->Sto->Prop) (B C:Ro->Sto->Prop) (E:Str->Sto->Prop):Prop:=match f with
 | .nx ρ M=>N ρ M
 | .ret d M=>R d M
 | .brk ρ M=>B ρ M
 | .cnt ρ M=>C ρ M
 | .exc c M=>E c M
 | .bad=>False
noncomputable def Br (k:Bool) (A B:Prop):Prop:=(k=true->A)/\(k=false->B)
noncomputable def wG {β:Type} (o:Option β) (N:β->Prop):Prop:=match o with | some ρ=>N ρ | none=>False
noncomputable def wV (o:Option (Option D)) (Q:D->Prop):Prop:=match o with | some (some d)=>Q d | _=>False
noncomputable def wI (x:D) (Q:Int->Prop):Prop:=match x with | .int i=>Q i | _=>False
noncomputable def wB (x:D) (Q:Bool->Prop):Prop:=match x with | .bl i=>Q i | _=>False
noncomputable def wR (x:D) (Q:Nat->Prop):Prop:=match x with | .ref i=>Q i | _=>False
noncomputable def w1 (x:List D) (Q:D->Prop):Prop:=match x with | [v]=>Q v | _=>False
noncomputable def w2 (x:List D) (Q:D->D->Prop):Prop:=match x with | [v,w]=>Q v w | _=>False
noncomputable def wL (o:Option SO) (Q:List D->Prop):Prop:=match o with | some (.lst xs)=>Q xs | none=>False
section
variable {β:Type} {o o':Option (Option D)} {x x':D} {Q:D->Prop} {QI:Int->Prop} {QB:Bool->Prop} {QR:Nat->Prop} {QL:List D->Prop} {l l':Option SO} {d:D} {i:Int} {k:Bool} {n:Nat} {xs:List D} {g g':Option β} {QG:β->Prop} {y:β}
theorem ZuK:w1 [d] Q=Q d:=rfl
theorem ZuL {Q2:D->D->Prop}:w2 [d,x] Q2=Q2 d x:=rfl
theorem ZuM:wV (some (some d)) Q=Q d:=rfl
theorem ZuN:wI (.int i) QI=QI i:=rfl
theorem ZuO:wB (.bl k) QB=QB k:=rfl
theorem ZuP:wR (.ref n) QR=QR n:=rfl
theorem ZuQ:wL (some (.lst xs)) QL=QL xs:=rfl
theorem ZuR:wG (some y) QG=QG y:=rfl
end
section
variable {β:Type} {Q:β->Sto->Prop} {E:Str->Sto->Prop} {N B C:Ro->Sto->Prop} {R:D->Sto->Prop} {ρ:Ro} {M:Sto} {A A':Prop}
theorem Zo {d:β}:wO (.ok d M) Q E=Q d M:=rfl
theorem Zo0 {c:Str}:wO (.exc c M:Out β) Q E=E c M:=rfl
theorem ZqV:Br true A A'=A:=by simp[Br]
theorem Zty:Br false A A'=A':=by simp[Br]
theorem brD {p:Prop} [Decidable p] (h1:p->A) (h2: ¬ p->A'):Br (decide p) A A':=⟨fun h=>h1 (of_decide_eq_true h),fun h=>h2 (of_decide_eq_false h)⟩
theorem brN {p:Prop} [Decidable p] (h1: ¬ p->A) (h2:p->A'):Br (!decide p) A A':=⟨fun h=>h1 (by simpa using h),fun h=>h2 (by simpa using h)⟩
theorem Zeo {o:Out β} {Q':β->Sto->Prop} {E':Str->Sto->Prop} (h:wO o Q E) (hq: ∀ d M,Q d M->Q' d M) (he: ∀ c M,E c M->E' c M):wO o Q' E':=by
 cases o with
 |ok d M=>exact hq d M h
 |exc c M=>exact he c M h
 |bad=>exact h
theorem ZiN {o:Out β} (h:wO o Q (fun _ _=>False)): ∃ d M',o= .ok d M'/\Q d M':=by
 cases o with
 |ok d M=>exact ⟨d,M,rfl,h⟩
 |exc c M=>exact h.elim
 |bad=>exact h.elim
theorem ZD {γ:Type} {o:Out γ} {f:γ->Sto->Out β}:wO (o.bind f) Q E=wO o (fun x M1=>wO (f x M1) Q E) E:=by cases o<;>rfl
end
section
variable {Q:D->Sto->Prop} {E:Str->Sto->Prop} {N B C:Ro->Sto->Prop} {R:D->Sto->Prop} {ρ:Ro} {M:Sto} {e f g:Ev} {fs:Av}
theorem ZrJ {op:Bo}:wO (e2 op f g ρ M) Q E=wO (f ρ M) (fun x M1=>wO (g ρ M1) (fun y M2=>wO (op x y M2) Q E) E) E:=by
 unfold e2
 rw[ZD]
 congr 1
 funext x M1
 rw[ZD]
theorem ZuS {i:Nat}:wO (Zh i ρ M) Q E=wV ρ[i]? (fun d=>Q d M):=by
 unfold Zh
 cases ρ[i]? with
 |none=>rfl
 |some o=>cases o<;>rfl
theorem Zmr {F:List D->Sto->Out D}:wO (Zl F fs ρ M) Q E=wO (fs ρ M) (fun ds M1=>wO (F ds M1) Q E) E:=ZD
theorem Zms {Q:List D->Sto->Prop}:wO (Zc f fs ρ M) Q E=wO (f ρ M) (fun x M1=>wO (fs ρ M1) (fun xs M2=>Q (x :: xs) M2) E) E:=by
 unfold Zc
 rw[ZD]
 congr 1
 funext x M1
 rw[ZD]
 congr 1
theorem Zo1:wO (Zaq fs ρ M) Q E=wO (fs ρ M) (fun xs M1=>xs.length<=1000/\Q (.tup xs) M1) E:=by
 unfold Zaq
 rw[ZD]
 congr 1
 funext x M1
 by_cases h:x.length<=1000
 ·rw[if_pos h];simp[h,wO]
 ·rw[if_neg h];simp[h,wO]
theorem Zo2:wO (ZcN fs ρ M) Q E=wO (fs ρ M) (fun xs M1=>xs.length<=1000/\Q (.ref M1.length) (M1 ++ [.lst xs])) E:=by
 unfold ZcN
 rw[ZD]
 congr 1
 funext x M1
 by_cases h:x.length<=1000
 ·rw[if_pos h];simp[h,wO]
 ·rw[if_neg h];simp[h,wO]
variable {t u:Tv}
theorem Zo3 {Q:Bool->Sto->Prop}:wO (Zc1 t ρ M) Q E=wO (t ρ M) (fun k M1=>Q (!k) M1) E:=by
 unfold Zc1
 rw[ZD]
 congr 1
variable {a b:Sv}
theorem Zo4:wS (ZK a b ρ M) N R B C E=wS (a ρ M) (fun ρ1 M1=>wS (b ρ1 M1) N R B C E) R B C E:=by
 unfold ZK
 cases a ρ M<;>rfl
theorem Zan {β:Type} {o:Out β} {k:β->Sto->Fl}:wS (ZaS o k) N R B C E=wO o (fun x M1=>wS (k x M1) N R B C E) E:=by cases o<;>rfl
theorem Zo5:wS (Zar f ρ M) N R B C E=wO (f ρ M) R E:=Zan
theorem Zmt:wS (ZeT f ρ M) N R B C E=wO (f ρ M) (fun _ M1=>N ρ M1) E:=Zan
theorem Zo6 {i:Nat}:wS (ZQ (gNm i) f ρ M) N R B C E=wO (f ρ M) (fun d M1=>N (ρ.set i (some d)) M1) E:=Zan
theorem Zmu {gs:Tgs}:wS (ZQ (gTp gs) f ρ M) N R B C E=wO (f ρ M) (fun d M1=>wG (gTp gs d ρ) (fun r=>N r M1)) E:=by
 unfold ZQ
 rw[Zan]
 congr 1
 funext d M1
 cases gTp gs d ρ<;>rfl
theorem Zo7 {i j:Nat}:wS (Zh7 i j fs ρ M) N R B C E=wO (fs ρ M) (fun ds M1=>w2 ds fun v w=>N ((ρ.set i (some v)).set j (some w)) M1) E:=by
 unfold Zh7
 rw[Zan]
 congr 1
 funext ds M1
 rcases ds with _ | ⟨v,_ | ⟨w,_ | ⟨z,r⟩⟩⟩<;>rfl
theorem Zo8 {fo fi:Ev}:wS (Znt fo fi f ρ M) N R B C E=wO (f ρ M) (fun d M1=>wO (fo ρ M1) (fun o M2=>wO (fi ρ M2) (fun i M3=>wR o fun n=>wI i fun k=>wL M3[n]? fun xs=>wG (ixN xs.length k) fun j=>N ρ (M3.set n (.lst (xs.set j d)))) E) E) E:=by
 unfold Znt
 rw[Zan]
 congr 1
 funext d M1
 rw[Zan]
 congr 1
 funext o M2
 rw[Zan]
 congr 1
 funext i M3
 cases o<;>cases i<;>try rfl
 rename_i n k
 cases e:M3[n]? with
 |none=>simp only[e,wR,wI,wL,wS]
 |some s=>
  cases s with
  |lst xs=>
   cases e2:ixN xs.length k<;>simp only[e,e2,wR,wI,wL,wG,wS]
theorem Zkj {c:Str}:wS (ZcB c fs ρ M) N R B C E=wO (fs ρ M) (fun ds M1=>ds.length<=1000/\E c M1) E:=by
 unfold ZcB
 rw[Zan]
 congr 1
 funext ds M1
 by_cases h:ds.length<=1000
 ·rw[if_pos h];simp[h,wS]
 ·rw[if_neg h];simp[h,wS]
theorem wF {n k:Nat} {ds:List D} (hl:ds.length=n):wO (fnF a n k ds M) Q E=wS (a (ds.map some ++ List.replicate k none) M) (fun _ M1=>Q .non M1) Q (fun _ _=>False) (fun _ _=>False) E:=by
 unfold fnF
 rw[if_pos hl]
 cases a (ds.map some ++ List.replicate k none) M<;>rfl
theorem ZiO {o:Fl} {N' B' C':Ro->Sto->Prop} {R':D->Sto->Prop} {E':Str->Sto->Prop} (h:wS o N R B C E) (hn: ∀ ρ M,N ρ M->N' ρ M) (hr: ∀ d M,R d M->R' d M) (hb: ∀ ρ M,B ρ M->B' ρ M) (hc: ∀ ρ M,C ρ M->C' ρ M) (he: ∀ c M,E c M->E' c M):wS o N' R' B' C' E':=by
 cases o with
 |nx ρ M=>exact hn _ _ h
 |ret ρ M=>exact hr _ _ h
 |brk ρ M=>exact hb _ _ h
 |cnt ρ M=>exact hc _ _ h
 |exc ρ M=>exact he _ _ h
 |bad=>exact h
variable {tg:Tg} {bd:Sv} {fi:Ro->Sto->Out Src}
theorem ZiP (I:Nat->Ro->Sto->Prop): ∀ (xs:List D) (k:Nat) (ρ:Ro) (M:Sto),I k ρ M->(∀ i ρ M (h:i < xs.length),I (k + i) ρ M->wG (tg xs[i] ρ) fun r=>wS (bd r M) (I (k + i + 1)) R N (I (k + i + 1)) E)->(∀ ρ M,I (k + xs.length) ρ M->N ρ M)->wS (ZbQ tg bd xs ρ M) N R B C E
 | [],k,ρ,M,h,_,hn=>hn ρ M h
 |x :: xs,k,ρ,M,h,st,hn=>by
  have s:=st 0 ρ M (by simp) h
  unfold ZbQ
  simp only[List.getElem_cons_zero,Nat.add_zero] at s
  cases e:tg x ρ with
  |none=>rw[e] at s;exact s.elim
  |some ρ1=>
   rw[e] at s
   simp only[wG] at s
   have rc: ∀ ρ2 M2,I (k + 1) ρ2 M2->wS (ZbQ tg bd xs ρ2 M2) N R B C E:=fun ρ2 M2 h2=>ZiP I xs (k + 1) ρ2 M2 h2 (fun i ρ M hi hI=>by
    have z:=st (i + 1) ρ M (by simp;omega) (by rw[show k + (i + 1)=k + 1 + i by omega];exact hI)
    simp only[List.getElem_cons_succ] at z
    rw[show k + (i + 1) + 1=k + 1 + i + 1 by omega] at z
    exact z) (fun ρ M hI=>hn ρ M (by rw[show k + (x :: xs).length=k + 1 + xs.length by simp;omega];exact hI))
   cases eg:bd ρ1 M<;>rw[eg] at s<;>simp only[eg]
   ·exact rc _ _ s
   ·exact s
   ·exact s
   ·exact rc _ _ s
   ·exact s
   ·exact s
theorem Zmv:wS (Zcc tg fs bd ρ M) N R B C E=wO (fs ρ M) (fun ds M1=>w1 ds fun d=>wI d fun j=>(-(2 ^ 62)<=j/\j < 2 ^ 62)/\wS (ZbQ tg bd (Zby 0 j.toNat) ρ M1) N R B C E) E:=by
 unfold Zcc
 rw[Zan]
 congr 1
 funext ds M1
 rcases ds with _ | ⟨v,_ | ⟨w,r⟩⟩
 ·rfl
 ·cases v<;>try rfl
  rename_i j
  by_cases h: -(2 ^ 62)<=j/\j < 2 ^ 62
  ·simp only[w1,wI,eq_true h,true_and,if_true]
  ·simp only[w1,wI,eq_false h,false_and,if_false]
   rfl
 ·cases v<;>rfl
theorem Ze6 (I:Nat->Ro->Sto->Prop) {n:Nat} {lo:Int} (h0:I 0 ρ M) (st: ∀ i ρ M,i < n->I i ρ M->wG (tg (.int (lo + i)) ρ) fun r=>wS (bd r M) (I (i + 1)) R N (I (i + 1)) E) (hn: ∀ ρ M,I n ρ M->N ρ M):wS (ZbQ tg bd (Zby lo n) ρ M) N R B C E:=by
 have hl:(Zby lo n).length=n:=by simp[Zby]
 refine ZiP I _ 0 ρ M h0 (fun i ρ M h hI=> ?_) (fun ρ M hI=>hn ρ M (by rw[hl,Nat.zero_add] at hI;exact hI))
 have:(Zby lo n)[i]= .int (lo + i):=by simp[Zby]
 rw[this]
 rw[Nat.zero_add] at *
 exact st i ρ M (by rw[hl] at h;exact h) hI
theorem Zo9:wS (Zl2 tg f bd ρ M) N R B C E=wO (f ρ M) (fun d M1=>wS (ZkV tg bd d ρ M1) N R B C E) E:=Zan
theorem Zmw (I:Nat->Ro->Sto->Prop) {n:Nat} {xs:List D}: ∀ (f i:Nat) (ρ:Ro) (M:Sto),i + f=xs.length->I i ρ M->(∀ i ρ M,I i ρ M->M[n]?=some (.lst xs))->(∀ i ρ M (h:i < xs.length),I i ρ M->wG (tg xs[i] ρ) fun r=>wS (bd r M) (I (i + 1)) R N (I (i + 1)) E)->(∀ ρ M,I xs.length ρ M->N ρ M)->wS (Zhq tg bd n f i ρ M) N R B C E:=by
  intro f
  induction f with
  |zero=>
   intro i ρ M e h hm st hn
   have hx:=hm _ _ _ h
   unfold Zhq
   rw[hx]
   have:xs[i]?=none:=List.getElem?_eq_none (by omega)
   simp only[this]
   exact hn ρ M (by rw[show xs.length=i by omega];exact h)
  |succ f ih=>
   intro i ρ M e h hm st hn
   have hx:=hm _ _ _ h
   unfold Zhq
   rw[hx]
   have hi:i < xs.length:=by omega
   have:xs[i]?=some xs[i]:=List.getElem?_eq_getElem hi
   simp only[this]
   have s:=st i ρ M hi h
   cases e:tg xs[i] ρ with
   |none=>rw[e] at s;exact s.elim
   |some ρ1=>
    rw[e] at s
    simp only[wG] at s
    have rc: ∀ ρ2 M2,I (i + 1) ρ2 M2->wS (Zhq tg bd n f (i + 1) ρ2 M2) N R B C E:=fun ρ2 M2 h2=>ih (i + 1) ρ2 M2 (by omega) h2 hm st hn
    cases eg:bd ρ1 M<;>rw[eg] at s<;>simp only[eg]
    ·exact rc _ _ s
    ·exact s
    ·exact s
    ·exact rc _ _ s
    ·exact s
    ·exact s
theorem Zep (I:Nat->Ro->Sto->Prop) {n:Nat} {xs:List D} (hM:M[n]?=some (.lst xs)) (h0:I 0 ρ M) (hm: ∀ i ρ M,I i ρ M->M[n]?=some (.lst xs)) (st: ∀ i ρ M (h:i < xs.length),I i ρ M->wG (tg xs[i] ρ) fun r=>wS (bd r M) (I (i + 1)) R N (I (i + 1)) E) (hn: ∀ ρ M,I xs.length ρ M->N ρ M):wS (ZkV tg bd (.ref n) ρ M) N R B C E:=by
 show wS (match M[n]? with | some (.lst xs)=>Zhq tg bd n xs.length 0 ρ M | none=> .bad) N R B C E
 rw[hM]
 exact Zmw I xs.length 0 ρ M (by omega) h0 hm st hn
theorem Zmx:wS (ZfK tg fi bd ρ M) N R B C E=wO (fi ρ M) (fun src M1=>wS (Zgu tg bd src (cnt src M1) 0 ρ M1) N R B C E) E:=Zan
theorem Zpa (I:Nat->Ro->Sto->Prop) {src:Src} {xs:List D}: ∀ (f i:Nat) (ρ:Ro) (M:Sto),i<=xs.length->xs.length<=i + f->I i ρ M->(∀ i ρ M,i<=xs.length->I i ρ M->nxt src i M=some xs[i]?)->(∀ i ρ M (h:i < xs.length),I i ρ M->wG (tg xs[i] ρ) fun r=>wS (bd r M) (I (i + 1)) R N (I (i + 1)) E)->(∀ ρ M,I xs.length ρ M->N ρ M)->wS (Zgu tg bd src f i ρ M) N R B C E:=by
  intro f
  induction f with
  |zero=>
   intro i ρ M le e h hm st hn
   have hx:=hm _ _ _ le h
   unfold Zgu
   rw[hx]
   have hi: ¬ i < xs.length:=by omega
   have:xs[i]?=none:=List.getElem?_eq_none (by omega)
   simp only[this]
   exact hn ρ M (by rw[show xs.length=i by omega];exact h)
  |succ f ih=>
   intro i ρ M le e h hm st hn
   have hx:=hm _ _ _ le h
   unfold Zgu
   rw[hx]
   by_cases hi:i < xs.length
   ·have:xs[i]?=some xs[i]:=List.getElem?_eq_getElem hi
    simp only[this]
    have s:=st i ρ M hi h
    cases e:tg xs[i] ρ with
    |none=>rw[e] at s;exact s.elim
    |some ρ1=>
     rw[e] at s
     simp only[wG] at s
     have rc: ∀ ρ2 M2,I (i + 1) ρ2 M2->wS (Zgu tg bd src f (i + 1) ρ2 M2) N R B C E:=fun ρ2 M2 h2=>ih (i + 1) ρ2 M2 (by omega) (by omega) h2 hm st hn
     cases eg:bd ρ1 M<;>rw[eg] at s<;>simp only[eg]
     ·exact rc _ _ s
     ·exact s
     ·exact s
     ·exact rc _ _ s
     ·exact s
     ·exact s
   ·have:xs[i]?=none:=List.getElem?_eq_none (by omega)
    simp only[this]
    exact hn ρ M (by rw[show xs.length=i by omega];exact h)
theorem Zkk {c:Tv} (I:Nat->Ro->Sto->Prop) (st: ∀ n ρ M,I n ρ M->wO (c ρ M) (fun k M1=>Br k (wS (bd ρ M1) (fun ρ2 M2=> ∃ m,m < n/\I m ρ2 M2) R N (fun ρ2 M2=> ∃ m,m < n/\I m ρ2 M2) E) (N ρ M1)) E): ∀ (n:Nat) (ρ:Ro) (M:Sto),I n ρ M->wS (sWh c bd ρ M) N R B C E:=by
 intro n
 induction n using Nat.strongRecOn with
 |ind n ih=>
  intro ρ M h
  have s:=st n ρ M h
  cases ec:c ρ M with
  |bad=>rw[ec] at s;exact s.elim
  |exc x M1=>rw[ec] at s;rw[Zcz (n:=1) (o:= .exc x M1) (by simp only[whN,ec])];exact s
  |ok k M1=>
   rw[ec] at s
   cases k with
   |false=>
    rw[Zo,Zty] at s
    rw[Zh9 ec]
    exact s
   |true=>
    rw[Zo,ZqV] at s
    cases eg:bd ρ M1 with
    |nx ρ2 M2=>
     rw[eg] at s
     obtain ⟨m,hm,hI⟩:=s
     have r:=ih m hm ρ2 M2 hI
     rw[Zj3 ec eg (by intro z;rw[z] at r;exact r)]
     exact r
    |cnt ρ2 M2=>
     rw[eg] at s
     obtain ⟨m,hm,hI⟩:=s
     have r:=ih m hm ρ2 M2 hI
     have nb:sWh c bd ρ2 M2≠ .bad:=by intro z;rw[z] at r;exact r
     obtain ⟨j,ej⟩:=Zh8 nb
     rw[Zcz (n:=j + 1) (o:=sWh c bd ρ2 M2) (by simp only[whN,ec,eg];exact ej)]
     exact r
    |brk ρ2 M2=>rw[eg] at s;rw[Zcz (n:=1) (o:= .nx ρ2 M2) (by simp only[whN,ec,eg])];exact s
    |ret d M2=>rw[eg] at s;rw[Zcz (n:=1) (o:= .ret d M2) (by simp only[whN,ec,eg])];exact s
    |exc d M2=>rw[eg] at s;rw[Zcz (n:=1) (o:= .exc d M2) (by simp only[whN,ec,eg])];exact s
    |bad=>rw[eg] at s;exact s.elim
theorem Zmy {fi:Ro->Sto->Out Src} {k:Nat} {fr:List Nat} {c:Tv}:wO (Zbx fi k fr tg c f ρ M) Q E=wO (fi ρ M) (fun src M1=>wO (ZdH src tg c f M1.length (cnt src M1) 0 (roB k fr ρ) (M1 ++ [.lst []])) (fun _ M2=>Q (.ref M1.length) M2) (fun _ _=>False)) E:=by
 unfold Zbx
 rw[ZD]
 congr 1
 funext src M1
 cases ZdH src tg c f M1.length (cnt src M1) 0 (roB k fr ρ) (M1 ++ [.lst []])<;>rfl
theorem Zk8 (I:Nat->Ro->Sto->Prop) {src:Src} {xs:List D} {c:Tv} {m:Nat} {Q:Sto->Prop}: ∀ (fu i:Nat) (ρ:Ro) (M:Sto),i<=xs.length->xs.length<=i + fu->I i ρ M->(∀ i ρ M,i<=xs.length->I i ρ M->nxt src i M=some xs[i]?)->
  (∀ i ρ M (h:i < xs.length),I i ρ M->wG (tg xs[i] ρ) fun r=>wO (c r M) (fun k M1=>Br k (wO (f r M1) (fun y M2=>wL M2[m]? fun ys=>ys.length < 10000000/\I (i + 1) r (M2.set m (.lst (ys ++ [y])))) (fun _ _=>False)) (I (i + 1) r M1)) (fun _ _=>False))->
  (∀ ρ M,I xs.length ρ M->Q M)->wO (ZdH src tg c f m fu i ρ M) (fun _ M2=>Q M2) (fun _ _=>False):=by
  intro fu
  induction fu with
  |zero=>
   intro i ρ M le e h hm st hn
   have hx:=hm _ _ _ le h
   unfold ZdH
   rw[hx]
   have hi: ¬ i < xs.length:=by omega
   have:xs[i]?=none:=List.getElem?_eq_none (by omega)
   simp only[this]
   exact hn ρ M (by rw[show xs.length=i by omega];exact h)
  |succ fu ih=>
   intro i ρ M le e h hm st hn
   have hx:=hm _ _ _ le h
   unfold ZdH
   rw[hx]
   by_cases hi:i < xs.length
   ·have:xs[i]?=some xs[i]:=List.getElem?_eq_getElem hi
    simp only[this]
    have s:=st i ρ M hi h
    cases e:tg xs[i] ρ with
    |none=>rw[e] at s;exact s.elim
    |some ρ1=>
     rw[e] at s
     simp only[wG] at s
     have rc: ∀ ρ2 M2,I (i + 1) ρ2 M2->wO (ZdH src tg c f m fu (i + 1) ρ2 M2) (fun _ M2=>Q M2) (fun _ _=>False):=fun ρ2 M2 h2=>ih (i + 1) ρ2 M2 (by omega) (by omega) h2 hm st hn
     cases ec:c ρ1 M with
     |bad=>rw[ec] at s;exact s.elim
     |exc _ _=>rw[ec] at s;exact s.elim
     |ok k M1=>
      rw[ec] at s
      rw[Zo] at s
      cases k with
      |false=>
       rw[Zty] at s
       simp only[ec]
       exact rc _ _ s
      |true=>
       rw[ZqV] at s
       simp only[ec]
       cases ef:f ρ1 M1 with
       |bad=>rw[ef] at s;exact s.elim
       |exc _ _=>rw[ef] at s;exact s.elim
       |ok y M2=>
        rw[ef,Zo] at s
        simp only[ef]
        cases ey:M2[m]? with
        |none=>rw[ey] at s;exact s.elim
        |some o=>
         cases o with
         |lst ys=>
          rw[ey] at s
          simp only[wL,ey] at s ⊢
          rw[if_pos s.1]
          exact rc _ _ s.2
   ·have:xs[i]?=none:=List.getElem?_eq_none (by omega)
    simp only[this]
    exact hn ρ M (by rw[show xs.length=i by omega];exact h)
end
end DL
end
section
namespace DL
open PySem PySem.Spec PyProof.Rows L2
section
variable {Q:D->Sto->Prop} {E:Str->Sto->Prop} {N B C:Ro->Sto->Prop} {R:D->Sto->Prop} {ρ:Ro} {M:Sto} {f:Ev} {fs:Av} {i j:Int} {n m k:Nat} {x y d:D} {xs ys ds:List D} {lo hi:Ro->Sto->Out (Option Int)}
theorem Ze7 (h: -(18446744073709551616) < i/\i < 18446744073709551616):Z9 i j:=ZiL h.1 h.2
theorem Zeq (h: -(18446744073709551616) < j/\j < 18446744073709551616):Z9 i j:=ZiK h.1 h.2
theorem Ze8 (h:0 < j/\j < 18446744073709551616):Za3 j:=by
 refine ⟨by omega,?_⟩
 have:j.natAbs.log2 < 64:=(Nat.log2_lt (by omega)).mpr (by omega)
 omega
theorem ZrK:wO (dAdd (.int i) (.int j) M) Q E=Q (.int (i + j)) M:=rfl
theorem ZrL:wO (dSub (.int i) (.int j) M) Q E=Q (.int (i - j)) M:=rfl
theorem ZgC (h:Z9 i j):wO (dMul (.int i) (.int j) M) Q E=Q (.int (i * j)) M:=by
 show wO (if Z9 i j then _ else _) Q E=_
 rw[if_pos h];rfl
theorem ZrM (h: -(18446744073709551616) < i/\i < 18446744073709551616):wO (dMul (.int i) (.int j) M) Q E=Q (.int (i * j)) M:=ZgC (Ze7 h)
theorem Zpb (h: -(18446744073709551616) < j/\j < 18446744073709551616):wO (dMul (.int i) (.int j) M) Q E=Q (.int (i * j)) M:=ZgC (Zeq h)
theorem ZrN (h:0 < j/\j < 18446744073709551616):wO (dDiv (.int i) (.int j) M) Q E=Q (.int (i / j)) M:=by
 show wO (if Za3 j then _ else _) Q E=_
 rw[if_pos (Ze8 h),Int.fdiv_eq_ediv_of_nonneg _ (by omega)];rfl
theorem ZrO (h:0 < j):wO (dMod (.int i) (.int j) M) Q E=Q (.int (i % j)) M:=by
 show wO (if j≠0 then _ else _) Q E=_
 rw[if_pos (by omega),Int.fmod_eq_emod_of_nonneg _ (by omega)];rfl
theorem ZrP (h:0<=j/\j<=1000000/\i.natAbs < 18446744073709551616):wO (dPow (.int i) (.int j) M) Q E=Q (.int (i ^ j.toNat)) M:=by
 show wO (if 0<=j/\j<=1000000/\i.natAbs < 2 ^ 64 then _ else _) Q E=_
 rw[if_pos ⟨h.1,h.2.1,by omega⟩];rfl
theorem ZuT:wO (dLt (.int i) (.int j) M) Q E=Q (.bl (decide (i < j))) M:=rfl
theorem ZuU:wO (dLe (.int i) (.int j) M) Q E=Q (.bl (decide (i<=j))) M:=rfl
theorem ZuV:wO (dGt (.int i) (.int j) M) Q E=Q (.bl (decide (j < i))) M:=rfl
theorem ZuW:wO (dGe (.int i) (.int j) M) Q E=Q (.bl (decide (j<=i))) M:=rfl
theorem ZrQ:wO (dAdd (.ref n) (.ref m) M) Q E=wL M[n]? fun xs=>wL M[m]? fun ys=>xs.length + ys.length<=10000000/\Q (.ref M.length) (M ++ [.lst (xs ++ ys)]):=by
 show wO (match M[n]?,M[m]? with | some (.lst xs),some (.lst ys)=>_ | _,_=>_) Q E=_
 cases e1:M[n]? with
 |none=>rfl
 |some o=>
  cases o with
  |lst xs=>
   cases e2:M[m]? with
   |none=>rfl
   |some p=>
    cases p with
    |lst ys=>
     by_cases h:xs.length + ys.length<=10000000
     ·simp[wL,h,wO]
     ·simp[wL,h,wO]
theorem Zpc (h:xs.length + ys.length<=100000/\xs≠[]):wO (dAdd (.tup xs) (.tup ys) M) Q E=Q (.tup (xs ++ ys)) M:=by
 show wO (if xs.length + ys.length<=100000/\xs≠[] then _ else _) Q E=_
 rw[if_pos h];rfl
theorem ZuX:wO (dEq x y M) Q E=wG (eqF 12 M x y) fun b=>Q (.bl b) M:=by
 show wO (match eqF 12 M x y with | some b=>_ | none=>_) Q E=_
 cases eqF 12 M x y<;>rfl
theorem ZuY:wO (dNe x y M) Q E=wG (eqF 12 M x y) fun b=>Q (.bl (!b)) M:=by
 show wO (match eqF 12 M x y with | some b=>_ | none=>_) Q E=_
 cases eqF 12 M x y<;>rfl
theorem ZuZ:wO (dIs x y M) Q E=wG (isP x y) fun b=>Q (.bl b) M:=by
 show wO (match isP x y with | some b=>_ | none=>_) Q E=_
 cases isP x y<;>rfl
theorem ZrR:wO (dIsNot x y M) Q E=wG (isP x y) fun b=>Q (.bl (!b)) M:=by
 show wO (match isP x y with | some b=>_ | none=>_) Q E=_
 cases isP x y<;>rfl
theorem Zmz:wO (atD xs i M) Q E=wG (atI xs i) fun d=>Q d M:=by
 unfold atD
 cases atI xs i<;>rfl
theorem ZrS:wO (dIx (.tup xs) (.int i) M) Q E=wG (atI xs i) fun d=>Q d M:=Zmz
theorem ZrT:wO (dIx (.rol xs) (.int i) M) Q E=wG (atI xs i) fun d=>Q d M:=Zmz
theorem ZrU:wO (dIx (.ref n) (.int i) M) Q E=wL M[n]? fun xs=>wG (atI xs i) fun d=>Q d M:=by
 show wO (match M[n]? with | some (.lst xs)=>atD xs i M | _=> .bad) Q E=_
 cases e1:M[n]? with
 |none=>rfl
 |some o=>cases o with | lst xs=>exact Zmz
theorem Zpd:wO (bLen [.ref n] M) Q E=wL M[n]? fun xs=>Q (.int xs.length) M:=by
 show wO (match (match M[n]? with | some (.lst xs)=>some xs | _=>none) with | some xs=>_ | none=>_) Q E=_
 cases e1:M[n]? with
 |none=>rfl
 |some o=>cases o with | lst xs=>rfl
theorem Zpe:wO (bLen [.tup xs] M) Q E=Q (.int xs.length) M:=rfl
theorem Zpf:wO (bLen [.rol xs] M) Q E=Q (.int xs.length) M:=rfl
theorem ZrV:wO (bAbs [.int i] M) Q E=Q (.int (i.natAbs:Int)) M:=by rw[<- Zmn];rfl
theorem ZrW:wO (bMax [.int i,.int j] M) Q E=Q (.int (max i j)) M:=by
 have:max i j=if j > i then j else i:=by split<;>omega
 rw[this];rfl
theorem ZrX:wO (bMin [.int i,.int j] M) Q E=Q (.int (min i j)) M:=by
 have:min i j=if j < i then j else i:=by split<;>omega
 rw[this];rfl
theorem Zpg {k:Bool}:wO (bInt [.bl k] M) Q E=Q (.int (if k then 1 else 0)) M:=rfl
theorem Zph:wO (bInt [.int i] M) Q E=Q (.int i) M:=rfl
theorem ZmA:wO (bList [.ref n] M) Q E=wL M[n]? fun xs=>Q (.ref M.length) (M ++ [.lst xs]):=by
 show wO (match (match M[n]? with | some (.lst xs)=>some xs | _=>none) with | some xs=>_ | none=>_) Q E=_
 cases e1:M[n]? with
 |none=>rfl
 |some o=>cases o with | lst xs=>rfl
theorem ZmB:wO (bList [.tup xs] M) Q E=Q (.ref M.length) (M ++ [.lst xs]):=rfl
theorem ZrY:wO (Ztr [.ref n] M) Q E=wL M[n]? fun xs=>wG (ZcA xs) fun bs=>Q (.bl (bs.all id)) M:=by
 show wO (match M[n]? with | some (.lst xs)=>(match ZcA xs with | some bs=>Out.ok (.bl (bs.all id)) M | none=> .bad) | none=> .bad) Q E=_
 cases e1:M[n]? with
 |none=>rfl
 |some o=>
  cases o with
  |lst xs=>
   show wO (match ZcA xs with | some bs=>Out.ok (.bl (bs.all id)) M | none=> .bad) Q E=wG (ZcA xs) _
   cases ZcA xs<;>rfl
theorem Zpi {g:List Int->Option Int}:wO (ZgZ g [.ref n] M) Q E=wL M[n]? fun xs=>wG (ZbR xs) fun ns=>wG (g ns) fun i=>Q (.int i) M:=by
 show wO (match (match M[n]? with | some (.lst xs)=>some xs | _=>none) with | some xs=>(match ZbR xs with | some ns=>(match g ns with | some i=>Out.ok (.int i) M | none=> .bad) | none=> .bad) | none=> .bad) Q E=_
 cases e1:M[n]? with
 |none=>rfl
 |some o=>
  cases o with
  |lst xs=>
   show wO (match ZbR xs with | some ns=>(match g ns with | some i=>Out.ok (.int i) M | none=> .bad) | none=> .bad) Q E=wG (ZbR xs) _
   cases ZbR xs with
   |none=>rfl
   |some ns=>
    show wO (match g ns with | some i=>Out.ok (.int i) M | none=> .bad) Q E=wG (g ns) _
    cases g ns<;>rfl
theorem Zu0 {g:Me} {fo:Ev}:wO (Zjw g fo fs ρ M) Q E=wO (fo ρ M) (fun x M1=>Zmc x M1=true/\wO (fs ρ M1) (fun ds M2=>wO (g x ds M2) Q E) E) E:=by
 unfold Zjw
 rw[ZD]
 congr 1
 funext x M1
 by_cases h:Zmc x M1=true
 ·simp only[h,if_true,true_and];rw[ZD]
 ·simp[h,wO]
theorem Zpj:Zmc (.ref n) M=M[n]?.isSome:=rfl
theorem ZrZ:wO (mApp (.ref n) [d] M) Q E=wL M[n]? fun xs=>xs.length < 10000000/\Q .non (M.set n (.lst (xs ++ [d]))):=by
 show wO (match M[n]? with | some (.lst xs)=>if xs.length < 10000000 then _ else _ | none=>_) Q E=_
 cases e1:M[n]? with
 |none=>rfl
 |some o=>
  cases o with
  |lst xs=>
   by_cases h:xs.length < 10000000
   ·simp[wL,h,wO]
   ·simp[wL,h,wO]
theorem Zr0:wO (Ztu (.ref n) [] M) Q E=wL M[n]? fun xs=>Q .non (M.set n (.lst [])):=by
 show wO (match M[n]? with | some (.lst xs)=>_ | none=>_) Q E=_
 cases e1:M[n]? with
 |none=>rfl
 |some o=>cases o with | lst xs=>rfl
theorem Zr1:wO (mExt (.ref n) [.ref m] M) Q E=wL M[n]? fun xs=>wL M[m]? fun ys=>xs.length + ys.length<=10000000/\Q .non (M.set n (.lst (xs ++ ys))):=by
 show wO (match M[n]?,M[m]? with | some (.lst xs),some (.lst ys)=>if xs.length + ys.length<=10000000 then _ else _ | _,_=>_) Q E=_
 cases e1:M[n]? with
 |none=>rfl
 |some o=>
  cases o with
  |lst xs=>
   cases e2:M[m]? with
   |none=>rfl
   |some p=>
    cases p with
    |lst ys=>
     by_cases h:xs.length + ys.length<=10000000
     ·simp[wL,h,wO]
     ·simp[wL,h,wO]
noncomputable def slR (x:D) (l u:Option Int) (M3:Sto):Out D:=match x with
 | .ref n=>(match M3[n]? with | some (.lst xs)=> .ok (.ref M3.length) (M3 ++ [.lst (ZfJ xs l u)]) | none=> .bad)
 | .rol xs=> .ok (.ref M3.length) (M3 ++ [.lst (ZfJ xs l u)])
 | .tup xs=>if HT.sIx xs.length 0 l=0/\HT.sIx xs.length xs.length u=xs.length then .bad else .ok (.tup (ZfJ xs l u)) M3
 |_=> .bad
theorem Zr2:wO (eSl f lo hi ρ M) Q E=wO (f ρ M) (fun x M1=>wO (lo ρ M1) (fun l M2=>wO (hi ρ M2) (fun u M3=>wO (slR x l u M3) Q E) E) E) E:=by
 unfold eSl
 rw[ZD]
 congr 1
 funext x M1
 rw[ZD]
 congr 1
 funext l M2
 rw[ZD]
 congr 1
theorem Zr3 {l u:Option Int}:wO (slR (.ref n) l u M) Q E=wL M[n]? fun xs=>Q (.ref M.length) (M ++ [.lst (ZfJ xs l u)]):=by
 unfold slR
 cases e1:M[n]? with
 |none=>simp only[e1];rfl
 |some o=>cases o with | lst xs=>simp only[e1];rfl
theorem Zr4 {Q:Option Int->Sto->Prop}:wO (oSo f ρ M) Q E=wO (f ρ M) (fun x M1=>wI x fun i=>Q (some i) M1) E:=by
 unfold oSo
 rw[ZD]
 congr 1
 funext x M1
 cases x<;>rfl
theorem Zpk (h:0<=i):ZfJ xs none (some i)=xs.take i.toNat:=by
 unfold ZfJ
 simp only[HT.sIx]
 rw[if_neg (by omega),List.drop_zero,Nat.sub_zero]
 by_cases c:i.toNat<=xs.length
 ·rw[Nat.min_eq_left c]
 ·rw[Nat.min_eq_right (by omega),List.take_of_length_le (Nat.le_refl _),List.take_of_length_le (by omega)]
theorem Zkl (h:0<=i):ZfJ xs (some i) none=xs.drop i.toNat:=by
 unfold ZfJ
 simp only[HT.sIx]
 rw[if_neg (by omega)]
 by_cases c:i.toNat<=xs.length
 ·rw[Nat.min_eq_left c,List.take_of_length_le (by simp)]
 ·rw[Nat.min_eq_right (by omega),List.drop_eq_nil_of_le (Nat.le_refl _),List.drop_eq_nil_of_le (by omega),List.take_nil]
theorem Zer {L:Sto}:(M ++ L)[M.length]?=L[0]?:=by rw[List.getElem?_append_right (Nat.le_refl _),Nat.sub_self]
theorem Zkm {L:Sto} {i:Nat}:(M ++ L)[M.length + i]?=L[i]?:=by rw[List.getElem?_append_right (by omega)];congr 1;omega
theorem ZaK {L:Sto} (h:n < M.length):(M ++ L)[n]?=M[n]?:=List.getElem?_append_left h
theorem Zk9 {L:Sto} {o:SO}:(M ++ L).set M.length o=M ++ L.set 0 o:=by rw[List.set_append_right _ _ (Nat.le_refl _),Nat.sub_self]
theorem Zr5 {L:Sto} {o:SO} {i:Nat}:(M ++ L).set (M.length + i) o=M ++ L.set i o:=by rw[List.set_append_right _ _ (by omega)];congr 2;omega
theorem Zpl {o:SO} (h:k≠n):(M.set n o)[k]?=M[k]?:=List.getElem?_set_ne (Ne.symm h)
theorem Zpm {o:SO} (h:n < M.length):(M.set n o)[n]?=some o:=List.getElem?_set_self h
theorem ZB {o:SO} (h:M[n]?=some o):n < M.length:=(List.getElem?_eq_some_iff.mp h).1
noncomputable abbrev pr (x y:Int):D:= .tup [.int x,.int y]
noncomputable def prs (rs:List (Int × Int)):List D:=rs.map fun p=>pr p.1 p.2
noncomputable def nts (ns:List Int):List D:=ns.map D.int
theorem Zz {rs:List (Int × Int)}:(prs rs).length=rs.length:=List.length_map _
theorem ZbY {rs:List Int}:(nts rs).length=rs.length:=List.length_map _
theorem ZmC {a b:List (Int × Int)}:prs a ++ prs b=prs (a ++ b):=(List.map_append).symm
theorem ZmD {a b:List Int}:nts a ++ nts b=nts (a ++ b):=(List.map_append).symm
theorem Zkn {a:List (Int × Int)}:(prs a).take n=prs (a.take n):=List.map_take.symm
theorem Zko {a:List (Int × Int)}:(prs a).drop n=prs (a.drop n):=List.map_drop.symm
theorem Zkp {a:List Int}:(nts a).take n=nts (a.take n):=List.map_take.symm
theorem Zkq {a:List Int}:(nts a).drop n=nts (a.drop n):=List.map_drop.symm
theorem Zkr {a b:Int} {r:List (Int × Int)}:pr a b :: prs r=prs ((a,b) :: r):=rfl
theorem ZmE {a:List (Int × Int)} {b c:Int}:(prs a).set n (pr b c)=prs (a.set n (b,c)):=by unfold prs;rw[List.map_set]
theorem ZmF {a:List Int} {b:Int}:(nts a).set n (.int b)=nts (a.set n b):=by unfold nts;rw[List.map_set]
noncomputable def cy (rs:List (Int × Int)) (i:Int):Int × Int:=rs.getD (i % rs.length).toNat (0,0)
theorem Zpn {i:Int} {n:Nat} (h: -(n:Int)<=i/\i < n):ixN n i=some (i % n).toNat:=by
 unfold ixN
 by_cases c:0<=i
 ·rw[if_pos c,if_pos h.2,Int.emod_eq_of_lt c h.2]
 ·rw[if_neg c,if_pos h.1]
  have:i % n=i + n:=by
   rw[<- Int.add_emod_right,Int.emod_eq_of_lt (by omega) (by omega)]
  rw[this]
theorem Ze9 {rs:List (Int × Int)} (h: -(rs.length:Int)<=i/\i < rs.length):atI (prs rs) i=some (pr (cy rs i).1 (cy rs i).2):=by
 unfold atI
 rw[Zz,Zpn h]
 have hp:(i % rs.length).toNat < rs.length:=by
  have:=Int.emod_lt_of_pos i (show (0:Int) < rs.length by omega)
  have:=Int.emod_nonneg i (show (rs.length:Int)≠0 by omega)
  omega
 simp[prs,cy,List.getElem?_eq_getElem hp]
theorem ZcE {rs:List (Int × Int)}:cy rs (i % rs.length)=cy rs i:=by unfold cy;rw[Int.emod_emod_of_dvd _ (Int.dvd_refl _)]
theorem Zdn {rs:List (Int × Int)}:cy rs (i + rs.length)=cy rs i:=by unfold cy;rw[Int.add_emod_right]
theorem Zdo {rs:List (Int × Int)}:cy rs (i - rs.length)=cy rs i:=by unfold cy;rw[Int.sub_emod_right]
theorem ZcF {rs:List (Int × Int)} {k:Nat} (h:k < rs.length):cy rs k=rs[k]:=by
 unfold cy
 rw[Int.emod_eq_of_lt (by omega) (by omega)]
 simp[List.getElem?_eq_getElem h]
theorem Zr6 {a b:Int}:eqF (n + 1) M (.int a) (.int b)=some (decide (a=b)):=rfl
theorem Zu1 {a b:Bool}:eqF (n + 1) M (.bl a) (.bl b)=some (a == b):=rfl
theorem Zr7 {a b c d:Int}:eqF (n + 2) M (pr a b) (pr c d)=some (decide ((a,b)=(c,d))):=by
 show some ((a == c) && ((b == d) && true))=_
 congr 1
 rw[Bool.eq_iff_iff]
 simp
theorem Zpo {rs ss:List (Int × Int)}:eqL (eqF (n + 2) M) (prs rs) (prs ss)=some (decide (rs=ss)):=by
 induction rs generalizing ss with
 |nil=>cases ss<;>rfl
 |cons r rs ih=>
  cases ss with
  |nil=>rfl
  |cons s ss=>
   show (match eqF (n + 2) M (pr r.1 r.2) (pr s.1 s.2) with | some a=>(match eqL _ (prs rs) (prs ss) with | some b=>some (a && b) | none=>none) | none=>none)=_
   rw[Zr7,ih]
   simp only[]
   congr 1
   rw[Bool.eq_iff_iff]
   obtain ⟨r1,r2⟩:=r
   obtain ⟨s1,s2⟩:=s
   simp
theorem Zr8 {xs ys:List D} (h1:M[n]?=some (.lst xs)) (h2:M[m]?=some (.lst ys)):eqF (k + 1) M (.ref n) (.ref m)=if xs.length=ys.length then eqL (eqF k M) xs ys else some false:=by
 show (match kd M (.ref n),kd M (.ref m) with | some a,some b=>eqK (eqF k M) a b | _,_=>none)=_
 have e1:kd M (.ref n)=some (.lst xs):=by show (match M[n]? with | some (.lst xs)=>some (Kd.lst xs) | _=>none)=_;rw[h1]
 have e2:kd M (.ref m)=some (.lst ys):=by show (match M[m]? with | some (.lst xs)=>some (Kd.lst xs) | _=>none)=_;rw[h2]
 rw[e1,e2]
 rfl
theorem Zpp:ZbB M (.int i)=some "int":=rfl
theorem Zr9 {b:Bool}:ZbB M (.bl b)=some "bool":=rfl
theorem Zpq:ZbB M (.tup xs)=some "tuple":=rfl
theorem Zpr:ZbB M .non=some "NoneType":=rfl
end
end DL
end
section
namespace DL
open PySem PySem.Spec PyProof.Rows L2
section
variable {Q:D->Sto->Prop} {E:Str->Sto->Prop} {N B C:Ro->Sto->Prop} {R:D->Sto->Prop} {ρ:Ro} {M:Sto} {f:Ev} {fs:Av} {i j:Int} {n m k:Nat} {x y z d:D} {xs ys ds:List D} {QS:Src->Sto->Prop} {tg:Tg} {bd:Sv} {b:Bool}
theorem ZmG:wS (Zia tg fs bd ρ M) N R B C E=wO (fs ρ M) (fun ds M1=>w2 ds fun x y=>wI x fun i=>wI y fun j=>(-(2 ^ 62)<=i/\i < 2 ^ 62/\ -(2 ^ 62)<=j/\j < 2 ^ 62)/\wS (ZbQ tg bd (Zby i (j - i).toNat) ρ M1) N R B C E) E:=by
 unfold Zia
 rw[Zan]
 congr 1
 funext ds M1
 rcases ds with _ | ⟨v,_ | ⟨w,_ | ⟨w',r⟩⟩⟩
 ·rfl
 ·cases v<;>rfl
 ·cases v<;>try rfl
  cases w<;>try rfl
  rename_i i j
  by_cases h: -(2 ^ 62)<=i/\i < 2 ^ 62/\ -(2 ^ 62)<=j/\j < 2 ^ 62
  ·simp only[w2,wI,eq_true h,true_and,if_true]
  ·simp only[w2,wI,eq_false h,false_and,if_false]
   rfl
 ·cases v<;>cases w<;>rfl
theorem Zu2:wO (iR1 fs ρ M) QS E=wO (fs ρ M) (fun ds M1=>w1 ds fun d=>wI d fun j=>(-(2 ^ 62)<=j/\j < 2 ^ 62)/\QS (.pur (Zby 0 j.toNat)) M1) E:=by
 unfold iR1
 rw[ZD]
 congr 1
 funext ds M1
 rcases ds with _ | ⟨v,_ | ⟨w,r⟩⟩
 ·rfl
 ·cases v<;>try rfl
  rename_i j
  by_cases h: -(2 ^ 62)<=j/\j < 2 ^ 62
  ·simp only[w1,wI,eq_true h,true_and,if_true,Zo]
  ·simp only[w1,wI,eq_false h,false_and,if_false]
   rfl
 ·cases v<;>rfl
theorem Zu3:wO (iR2 fs ρ M) QS E=wO (fs ρ M) (fun ds M1=>w2 ds fun x y=>wI x fun i=>wI y fun j=>(-(2 ^ 62)<=i/\i < 2 ^ 62/\ -(2 ^ 62)<=j/\j < 2 ^ 62)/\QS (.pur (Zby i (j - i).toNat)) M1) E:=by
 unfold iR2
 rw[ZD]
 congr 1
 funext ds M1
 rcases ds with _ | ⟨v,_ | ⟨w,_ | ⟨w',r⟩⟩⟩
 ·rfl
 ·cases v<;>rfl
 ·cases v<;>try rfl
  cases w<;>try rfl
  rename_i i j
  by_cases h: -(2 ^ 62)<=i/\i < 2 ^ 62/\ -(2 ^ 62)<=j/\j < 2 ^ 62
  ·simp only[w2,wI,eq_true h,true_and,if_true,Zo]
  ·simp only[w2,wI,eq_false h,false_and,if_false]
   rfl
 ·cases v<;>cases w<;>rfl
theorem Zu4:wO (iEn fs ρ M) QS E=wO (fs ρ M) (fun ds M1=>w1 ds fun d=>wR d fun n=>QS (.enu n) M1) E:=by
 unfold iEn
 rw[ZD]
 congr 1
 funext ds M1
 rcases ds with _ | ⟨v,_ | ⟨w,r⟩⟩<;>try rfl
 ·cases v<;>rfl
 ·cases v<;>rfl
theorem Zu5:wO (iZp fs ρ M) QS E=wO (fs ρ M) (fun ds M1=>w2 ds fun x y=>wR x fun n=>wR y fun m=>QS (.zip n m) M1) E:=by
 unfold iZp
 rw[ZD]
 congr 1
 funext ds M1
 rcases ds with _ | ⟨v,_ | ⟨w,_ | ⟨w',r⟩⟩⟩<;>try rfl
 ·cases v<;>rfl
 ·cases v<;>cases w<;>rfl
 ·cases v<;>cases w<;>rfl
theorem Zu6:wO (iRv fs ρ M) QS E=wO (fs ρ M) (fun ds M1=>w1 ds fun d=>wR d fun n=>wL M1[n]? fun xs=>QS (.rev n xs.length) M1) E:=by
 unfold iRv
 rw[ZD]
 congr 1
 funext ds M1
 rcases ds with _ | ⟨v,_ | ⟨w,r⟩⟩<;>try rfl
 ·cases v<;>try rfl
  rename_i n
  cases e:M1[n]? with
  |none=>simp only[e];simp only[w1,wR,e];rfl
  |some o=>cases o with | lst xs=>simp only[e,w1,wR];rfl
 ·cases v<;>rfl
noncomputable def Zps (Q:D->Sto->Prop) (ρ:Ro) (M:Sto):Prop:=Q .non M
theorem wF1:wO (fnF bd 1 k [x] M) Q E=wS (bd (some x :: List.replicate k none) M) (Zps Q) Q (fun _ _=>False) (fun _ _=>False) E:=wF rfl
theorem wF2:wO (fnF bd 2 k [x,y] M) Q E=wS (bd (some x :: some y :: List.replicate k none) M) (Zps Q) Q (fun _ _=>False) (fun _ _=>False) E:=wF rfl
theorem wF3:wO (fnF bd 3 k [x,y,z] M) Q E=wS (bd (some x :: some y :: some z :: List.replicate k none) M) (Zps Q) Q (fun _ _=>False) (fun _ _=>False) E:=wF rfl
theorem wF4:wO (fnF bd 4 k [x,y,z,d] M) Q E=wS (bd (some x :: some y :: some z :: some d :: List.replicate k none) M) (Zps Q) Q (fun _ _=>False) (fun _ _=>False) E:=wF rfl
theorem Zks {a:List (Int × Int)} {b c:Int}:prs a ++ [pr b c]=prs (a ++ [(b,c)]):=by simp[prs]
theorem Zkt {a:List Int} {b:Int}:nts a ++ [D.int b]=nts (a ++ [b]):=by simp[nts]
theorem Zku {b:Int} {r:List Int}:D.int b :: nts r=nts (b :: r):=rfl
theorem Zsa:isP .non .non=some true:=rfl
theorem Zsb:isP (.int i) .non=some false:=rfl
theorem Zsc:isP (.tup xs) .non=some false:=rfl
theorem Zsd:isP (.ref n) .non=some false:=rfl
theorem ZfQ (h:M[n]?=some (.lst xs)):cnt (.sto n) M=xs.length:=by show (match M[n]? with | some (.lst xs)=>xs.length | none=>0)=_;rw[h]
theorem ZmH (h:M[n]?=some (.lst xs)):cnt (.enu n) M=xs.length:=by show (match M[n]? with | some (.lst xs)=>xs.length | none=>0)=_;rw[h]
theorem ZmI (h:M[n]?=some (.lst xs)):cnt (.zip n m) M=xs.length:=by show (match M[n]? with | some (.lst xs)=>xs.length | none=>0)=_;rw[h]
theorem at2 {r:List D}:atI (x :: y :: z :: r) 2=some z:=by
 show (ixN (r.length + 3) 2).bind _=_
 unfold ixN
 rw[if_pos (by decide),if_pos (by omega)]
 rfl
theorem at3 {r:List D}:atI (x :: y :: z :: d :: r) 3=some d:=by
 show (ixN (r.length + 4) 3).bind _=_
 unfold ixN
 rw[if_pos (by decide),if_pos (by omega)]
 rfl
theorem Zpt:Zc5 "int" "int"=true:=rfl
theorem Zpu:Zc5 "int" "bool"=false:=rfl
theorem Zpv:Zc5 "bool" "int"=true:=rfl
theorem Zpw:Zc5 "bool" "bool"=true:=rfl
theorem Zpx:Zc5 "tuple" "tuple"=true:=rfl
theorem Zpy:Zc5 "list" "list"=true:=rfl
theorem Zpz:Zc5 "tuple" "int"=false:=rfl
theorem ZpA:Zc5 "tuple" "list"=false:=rfl
theorem ZpB:Zc5 "list" "tuple"=false:=rfl
theorem ZpC:Zc5 "list" "int"=false:=rfl
theorem ZpD:Zc5 "NoneType" "tuple"=false:=rfl
theorem ZpE:Zc5 "NoneType" "list"=false:=rfl
theorem ZpF (h:M[n]?=some (.lst xs)):nxt (.enu n) k M=some ((xs[k]?).map fun d=>D.tup [.int k,d]):=by
 show (match M[n]? with | some (.lst xs)=>(match xs[k]? with | some x=>some (some (D.tup [.int k,x])) | none=>some none) | none=>none)=_
 rw[h]
 simp only[]
 cases xs[k]?<;>rfl
theorem Zfa (h:M[n]?=some (.lst xs)):nxt (.sto n) k M=some xs[k]?:=by
 show (match M[n]? with | some (.lst xs)=>some xs[k]? | none=>none)=_
 rw[h]
section
variable {g:Jv} {bb:Nat}
end
theorem ZiQ (I:Nat->Ro->Sto->Prop) (hM:M[n]?=some (.lst xs)) (h0:I 0 ρ M) (hm: ∀ i ρ M,I i ρ M->M[n]?=some (.lst xs)) (st: ∀ (i:Nat) ρ M (h:i < xs.length),I i ρ M->wG (tg (.tup [.int i,xs[i]]) ρ) fun r=>wS (bd r M) (I (i + 1)) R N (I (i + 1)) E) (hn: ∀ ρ M,I xs.length ρ M->N ρ M):wS (Zgu tg bd (.enu n) (cnt (.enu n) M) 0 ρ M) N R B C E:=by
 rw[ZmH hM]
 have hl:(xs.mapIdx fun (k:Nat) d=>D.tup [.int k,d]).length=xs.length:=by simp
 refine Zpa I (xs:=xs.mapIdx fun (k:Nat) d=>D.tup [.int k,d]) _ 0 ρ M (by simp) (by simp) h0 (fun i ρ M _ hI=> ?_) (fun i ρ M h hI=> ?_) (fun ρ M hI=>hn ρ M (by rw[hl] at hI;exact hI))
 ·rw[ZpF (hm _ _ _ hI),List.getElem?_mapIdx]
 ·rw[List.getElem_mapIdx]
  exact st i ρ M (by rw[hl] at h;exact h) hI
theorem ZpG (h:M[n]?=some (.lst xs)) (h':M[m]?=some (.lst ys)):nxt (.zip n m) k M=some ((List.zipWith (fun a b=>D.tup [a,b]) xs ys)[k]?):=by
 show (match M[n]?,M[m]? with | some (.lst xs),some (.lst ys)=>(match xs[k]?,ys[k]? with | some x,some y=>some (some (D.tup [x,y])) | _,_=>some none) | _,_=>none)=_
 rw[h,h',List.getElem?_zipWith]
 simp only[]
 cases xs[k]?<;>cases ys[k]?<;>rfl
theorem ZpH (h:M[n]?=some (.lst xs)) (hk:k<=xs.length):nxt (.rev n xs.length) k M=some xs.reverse[k]?:=by
 show (match M[n]? with | some (.lst ys)=>if k < xs.length then (match ys[xs.length - 1 - k]? with | some x=>some (some x) | none=>none) else (if k=xs.length then some none else none) | none=>none)=_
 rw[h]
 simp only[]
 by_cases c:k < xs.length
 ·rw[if_pos c,List.getElem?_reverse c,List.getElem?_eq_getElem (by omega)]
 ·rw[if_neg c,if_pos (by omega),List.getElem?_eq_none (by simp;omega)]
theorem ZmJ {src:Src} (Inv:Ro->Prop) (F:Nat->D) {Q:Sto->Prop} (hl:xs.length < 10000000) (hcnt:xs.length<=cnt src M) (h0:Inv ρ) (hs: ∀ (L:Sto) (i:Nat),i<=xs.length->nxt src i (M ++ L)=some xs[i]?)
  (st: ∀ (i:Nat) (h:i < xs.length) (ρ:Ro) (L:Sto),Inv ρ->wG (tg xs[i] ρ) fun r=>Inv r/\wO (f r (M ++ L)) (fun y M2=>y=F i/\M2=M ++ L) (fun _ _=>False)) (hq:Q (M ++ [.lst ((List.range xs.length).map F)])):
  wO (ZdH src tg (fun _ M=> .ok true M) f M.length (cnt src M) 0 ρ (M ++ [.lst []])) (fun _ M2=>Q M2) (fun _ _=>False):=by
 refine Zk8 (fun i ρ M'=>Inv ρ/\M'=M ++ [.lst ((List.range i).map F)]) (xs:=xs) _ 0 ρ _ (by simp) (by omega) ⟨h0,rfl⟩ (fun i ρ M' hi hI=>by rw[hI.2];exact hs _ i hi) (fun i ρ M' h hI=> ?_) (fun ρ M' hI=>by rw[hI.2];exact hq)
 obtain ⟨hI,rfl⟩:=hI
 have s:=st i h ρ [.lst ((List.range i).map F)] hI
 cases e:tg xs[i] ρ with
 |none=>rw[e] at s;exact s.elim
 |some r=>
  rw[e] at s
  obtain ⟨hr,s⟩:=s
  show Br true _ _
  rw[ZqV]
  refine Zeo s (fun y M2 ⟨h1,h2⟩=> ?_) (fun _ _ z=>z)
  subst h1 h2
  rw[Zer]
  refine ⟨by simp;omega,hr,?_⟩
  rw[Zk9,List.range_succ,List.map_append]
  rfl
theorem ZfR {lo:Int}:(Zby lo n).length=n:=by simp[Zby]
theorem ZmK {lo:Int} (h:k < (Zby lo n).length):(Zby lo n)[k]= .int (lo + k):=by simp[Zby]
theorem ZiR {F:Nat->Int}:(List.range n).map (fun i=>D.int (F i))=nts ((List.range n).map F):=by simp[nts]
end
end DL
end
section
namespace DL
open PySem PySem.Spec PyProof.Rows L2
section
variable {Q:D->Sto->Prop} {E:Str->Sto->Prop} {N B C:Ro->Sto->Prop} {R:D->Sto->Prop} {ρ:Ro} {M:Sto} {f g:Ev} {fs:Av} {i j:Int} {n m k:Nat} {x y z d:D} {xs ys ds:List D} {QL:List D->Sto->Prop} {QB:Bool->Sto->Prop} {QS:Src->Sto->Prop} {tg:Tg} {a bd:Sv} {b:Bool} {t u:Tv}
noncomputable def kU {β γ:Type} (u:β->Sto->Out γ) (Q:γ->Sto->Prop) (E:Str->Sto->Prop) (x:β) (M:Sto):Prop:=wO (u x M) Q E
noncomputable def kQ {β γ:Type} (Q:γ->Sto->Prop) (c:β->γ) (M:Sto) (x:β):Prop:=Q (c x) M
noncomputable def kB2 (op:Bo) (x:D) (Q:D->Sto->Prop) (E:Str->Sto->Prop) (y:D) (M:Sto):Prop:=wO (op x y M) Q E
noncomputable def kB1 (op:Bo) (g:Ev) (ρ:Ro) (Q:D->Sto->Prop) (E:Str->Sto->Prop) (x:D) (M:Sto):Prop:=wO (g ρ M) (kB2 op x Q E) E
theorem Zu7 {op:Bo}:wO (e2 op f g ρ M) Q E=wO (f ρ M) (kB1 op g ρ Q E) E:=ZrJ
theorem y_c:wO (eC d ρ M) Q E=Q d M:=rfl
theorem y_v:wO (Zh k ρ M) Q E=wV ρ[k]? (kQ Q id M):=ZuS
theorem ZpI {F:List D->Sto->Out D}:wO (Zl F fs ρ M) Q E=wO (fs ρ M) (kU F Q E) E:=Zmr
noncomputable def kA2 (x:D) (Q:List D->Sto->Prop) (xs:List D) (M:Sto):Prop:=Q (x :: xs) M
noncomputable def kA1 (fs:Av) (ρ:Ro) (Q:List D->Sto->Prop) (E:Str->Sto->Prop) (x:D) (M:Sto):Prop:=wO (fs ρ M) (kA2 x Q) E
theorem Zse:wO (aNil ρ M) QL E=QL [] M:=rfl
theorem ZpJ:wO (Zc f fs ρ M) QL E=wO (f ρ M) (kA1 fs ρ QL E) E:=Zms
noncomputable def kTu (Q:D->Sto->Prop) (xs:List D) (M:Sto):Prop:=xs.length<=1000/\Q (.tup xs) M
noncomputable def kLs (Q:D->Sto->Prop) (xs:List D) (M:Sto):Prop:=xs.length<=1000/\Q (.ref M.length) (M ++ [.lst xs])
theorem Zsf:wO (Zaq fs ρ M) Q E=wO (fs ρ M) (kTu Q) E:=Zo1
theorem Zsg:wO (ZcN fs ρ M) Q E=wO (fs ρ M) (kLs Q) E:=Zo2
noncomputable def Ztz (x:D) (M:Sto):Out D:=match x with | .int i=> .ok (.int (-i)) M | _=> .bad
theorem Zsh:wO (ZfE f ρ M) Q E=wO (f ρ M) (kU Ztz Q E) E:=by unfold ZfE;exact ZD
theorem ZpK:wO (Ztz (.int i) M) Q E=Q (.int (-i)) M:=rfl
noncomputable def Zsi (T:String) (x:D) (M:Sto):Out D:=match ZbB M x with | some t=> .ok (.bl (Zc5 t T)) M | none=> .bad
theorem Zsj {T:String}:wO (ZjZ T f ρ M) Q E=wO (f ρ M) (kU (Zsi T) Q E) E:=by unfold ZjZ;exact ZD
noncomputable def kTy (T:String) (Q:D->Sto->Prop) (M:Sto) (t:String):Prop:=Q (.bl (Zc5 t T)) M
theorem ZpL {T:String}:wO (Zsi T x M) Q E=wG (ZbB M x) (kTy T Q M):=by unfold Zsi;cases ZbB M x<;>rfl
noncomputable def tC (b:Bool):Tv:=fun _ M=> .ok b M
noncomputable def BrO {β:Type} (k:Bool) (f g:Ro->Sto->Out β) (ρ:Ro) (M:Sto) (Q:β->Sto->Prop) (E:Str->Sto->Prop):Prop:=wO ((if k=true then f else g) ρ M) Q E
theorem Zu8 {β:Type} {fO gO:Ro->Sto->Out β} {QO:β->Sto->Prop}:BrO true fO gO ρ M QO E=wO (fO ρ M) QO E:=rfl
theorem Zu9 {β:Type} {fO gO:Ro->Sto->Out β} {QO:β->Sto->Prop}:BrO false fO gO ρ M QO E=wO (gO ρ M) QO E:=rfl
theorem brO {β:Type} {fO gO:Ro->Sto->Out β} {QO:β->Sto->Prop} {p:Prop} [Decidable p] (h1:p->wO (fO ρ M) QO E) (h2: ¬ p->wO (gO ρ M) QO E):BrO (decide p) fO gO ρ M QO E:=by
 by_cases h:p
 ·rw[decide_eq_true h];exact h1 h
 ·rw[decide_eq_false h];exact h2 h
theorem Zva {β:Type} {fO gO:Ro->Sto->Out β} {QO:β->Sto->Prop} (P:β->Sto->Prop) (h:BrO b fO gO ρ M P E) (hn: ∀ x M,P x M->QO x M):BrO b fO gO ρ M QO E:=by
 cases b
 ·exact Zeo h hn (fun _ _ z=>z)
 ·exact Zeo h hn (fun _ _ z=>z)
noncomputable def kIf (f g:Ev) (ρ:Ro) (Q:D->Sto->Prop) (E:Str->Sto->Prop) (k:Bool) (M:Sto):Prop:=BrO k f g ρ M Q E
theorem Zvb:wO (eIf t f g ρ M) Q E=wO (t ρ M) (kIf f g ρ Q E) E:=by unfold eIf;rw[ZD];congr 1;funext k M1;cases k<;>rfl
noncomputable def ZtA (g:Ev) (ρ:Ro) (x:D) (M:Sto):Out D:=match x with | .bl k=>if k=true then g ρ M else .ok (.bl false) M | _=> .bad
noncomputable def oOr (g:Ev) (ρ:Ro) (x:D) (M:Sto):Out D:=match x with | .bl k=>if k=true then .ok (.bl true) M else g ρ M | _=> .bad
noncomputable def ZtB (x:D) (M:Sto):Out D:=match x with | .bl k=> .ok (.bl (!k)) M | _=> .bad
noncomputable def oTv (x:D) (M:Sto):Out Bool:=match x with | .bl k=> .ok k M | _=> .bad
theorem Zsk:wO (Zd5 f g ρ M) Q E=wO (f ρ M) (kU (ZtA g ρ) Q E) E:=by unfold Zd5;exact ZD
theorem Zvc:wO (Ztp f g ρ M) Q E=wO (f ρ M) (kU (oOr g ρ) Q E) E:=by unfold Ztp;exact ZD
theorem Zsl:wO (ZjT f ρ M) Q E=wO (f ρ M) (kU ZtB Q E) E:=by unfold ZjT;exact ZD
theorem ZpM:wO (ZtA g ρ (.bl b) M) Q E=BrO b g (eC (.bl false)) ρ M Q E:=by cases b<;>rfl
theorem Zsm:wO (oOr g ρ (.bl b) M) Q E=BrO b (eC (.bl true)) g ρ M Q E:=by cases b<;>rfl
theorem ZpN:wO (ZtB (.bl b) M) Q E=Q (.bl (!b)) M:=rfl
theorem Zvd:wO (tv f ρ M) QB E=wO (f ρ M) (kU oTv QB E) E:=by unfold tv;exact ZD
theorem Zsn:wO (oTv (.bl b) M) QB E=QB b M:=rfl
noncomputable def kTA (u:Tv) (ρ:Ro) (Q:Bool->Sto->Prop) (E:Str->Sto->Prop) (k:Bool) (M:Sto):Prop:=BrO k u (tC false) ρ M Q E
noncomputable def kTO (u:Tv) (ρ:Ro) (Q:Bool->Sto->Prop) (E:Str->Sto->Prop) (k:Bool) (M:Sto):Prop:=BrO k (tC true) u ρ M Q E
noncomputable def kTN (Q:Bool->Sto->Prop) (k:Bool) (M:Sto):Prop:=Q (!k) M
theorem Zve:wO (tC b ρ M) QB E=QB b M:=rfl
theorem ZpO:wO (ZjS t u ρ M) QB E=wO (t ρ M) (kTA u ρ QB E) E:=by unfold ZjS;rw[ZD];congr 1;funext k M1;cases k<;>rfl
theorem Zso:wO (Zju t u ρ M) QB E=wO (t ρ M) (kTO u ρ QB E) E:=by unfold Zju;rw[ZD];congr 1;funext k M1;cases k<;>rfl
theorem ZpP:wO (Zc1 t ρ M) QB E=wO (t ρ M) (kTN QB) E:=Zo3
noncomputable def kSq (b:Sv) (N:Ro->Sto->Prop) (R:D->Sto->Prop) (B C:Ro->Sto->Prop) (E:Str->Sto->Prop) (ρ:Ro) (M:Sto):Prop:=wS (b ρ M) N R B C E
theorem Zsp:wS (ZK a bd ρ M) N R B C E=wS (a ρ M) (kSq bd N R B C E) R B C E:=Zo4
theorem ZpQ:wS (sNil ρ M) N R B C E=N ρ M:=rfl
theorem Zsq:wS (ZuC ρ M) N R B C E=B ρ M:=rfl
theorem Zsr:wS (ZuD ρ M) N R B C E=C ρ M:=rfl
theorem Zss:wS (Zar f ρ M) N R B C E=wO (f ρ M) R E:=Zo5
theorem ZpR:wS (Zrn ρ M) N R B C E=R .non M:=rfl
noncomputable def kDr (ρ:Ro) (N:Ro->Sto->Prop) (d:D) (M:Sto):Prop:=N ρ M
theorem ZpS:wS (ZeT f ρ M) N R B C E=wO (f ρ M) (kDr ρ N) E:=Zmt
noncomputable def BrS (k:Bool) (a b:Sv) (ρ:Ro) (M:Sto) (N:Ro->Sto->Prop) (R:D->Sto->Prop) (B C:Ro->Sto->Prop) (E:Str->Sto->Prop):Prop:=wS ((if k=true then a else b) ρ M) N R B C E
theorem Zvf:BrS true a bd ρ M N R B C E=wS (a ρ M) N R B C E:=rfl
theorem Zvg:BrS false a bd ρ M N R B C E=wS (bd ρ M) N R B C E:=rfl
theorem brS {p:Prop} [Decidable p] (h1:p->wS (a ρ M) N R B C E) (h2: ¬ p->wS (bd ρ M) N R B C E):BrS (decide p) a bd ρ M N R B C E:=by
 by_cases h:p
 ·rw[decide_eq_true h];exact h1 h
 ·rw[decide_eq_false h];exact h2 h
theorem ZtC (h1:b=true->wS (a ρ M) N R B C E) (h2:b=false->wS (bd ρ M) N R B C E):BrS b a bd ρ M N R B C E:=by
 cases b
 ·exact h2 rfl
 ·exact h1 rfl
theorem ZpT (P:Ro->Sto->Prop) (h:BrS b a bd ρ M P R B C E) (hn: ∀ ρ M,P ρ M->N ρ M):BrS b a bd ρ M N R B C E:=by
 cases b
 ·exact ZiO h hn (fun _ _ z=>z) (fun _ _ z=>z) (fun _ _ z=>z) (fun _ _ z=>z)
 ·exact ZiO h hn (fun _ _ z=>z) (fun _ _ z=>z) (fun _ _ z=>z) (fun _ _ z=>z)
noncomputable def kSi (a b:Sv) (ρ:Ro) (N:Ro->Sto->Prop) (R:D->Sto->Prop) (B C:Ro->Sto->Prop) (E:Str->Sto->Prop) (k:Bool) (M:Sto):Prop:=BrS k a b ρ M N R B C E
theorem Zst:wS (sIf t a bd ρ M) N R B C E=wO (t ρ M) (kSi a bd ρ N R B C E) E:=by unfold sIf;rw[Zan];congr 1;funext k M1;cases k<;>rfl
noncomputable def kAs (i:Nat) (ρ:Ro) (N:Ro->Sto->Prop) (d:D) (M:Sto):Prop:=N (ρ.set i (some d)) M
theorem Zsu:wS (ZQ (gNm k) f ρ M) N R B C E=wO (f ρ M) (kAs k ρ N) E:=Zo6
noncomputable def kAt (gs:Tgs) (ρ:Ro) (N:Ro->Sto->Prop) (d:D) (M:Sto):Prop:=wG (gTp gs d ρ) (kQ N id M)
theorem ZpU {gs:Tgs}:wS (ZQ (gTp gs) f ρ M) N R B C E=wO (f ρ M) (kAt gs ρ N) E:=Zmu
noncomputable def ZtD (i j:Nat) (ρ:Ro) (N:Ro->Sto->Prop) (M:Sto) (v w:D):Prop:=N ((ρ.set i (some v)).set j (some w)) M
noncomputable def kPa (i j:Nat) (ρ:Ro) (N:Ro->Sto->Prop) (ds:List D) (M:Sto):Prop:=w2 ds (ZtD i j ρ N M)
theorem Zsv:wS (Zh7 k m fs ρ M) N R B C E=wO (fs ρ M) (kPa k m ρ N) E:=Zo7
noncomputable def ZtE (n:Nat) (d:D) (xs:List D) (ρ:Ro) (N:Ro->Sto->Prop) (M:Sto) (j:Nat):Prop:=N ρ (M.set n (.lst (xs.set j d)))
noncomputable def ZtF (n:Nat) (k:Int) (d:D) (ρ:Ro) (N:Ro->Sto->Prop) (M:Sto) (xs:List D):Prop:=wG (ixN xs.length k) (ZtE n d xs ρ N M)
noncomputable def ZtG (n:Nat) (d:D) (ρ:Ro) (N:Ro->Sto->Prop) (M:Sto) (k:Int):Prop:=wL M[n]? (ZtF n k d ρ N M)
noncomputable def ZtH (i:D) (d:D) (ρ:Ro) (N:Ro->Sto->Prop) (M:Sto) (n:Nat):Prop:=wI i (ZtG n d ρ N M)
noncomputable def ZtI (o:D) (d:D) (ρ:Ro) (N:Ro->Sto->Prop) (i:D) (M:Sto):Prop:=wR o (ZtH i d ρ N M)
noncomputable def ZtJ (fi:Ev) (d:D) (ρ:Ro) (N:Ro->Sto->Prop) (E:Str->Sto->Prop) (o:D) (M:Sto):Prop:=wO (fi ρ M) (ZtI o d ρ N) E
noncomputable def kPu (fo fi:Ev) (ρ:Ro) (N:Ro->Sto->Prop) (E:Str->Sto->Prop) (d:D) (M:Sto):Prop:=wO (fo ρ M) (ZtJ fi d ρ N E) E
theorem Zsw {fo fi:Ev}:wS (Znt fo fi f ρ M) N R B C E=wO (f ρ M) (kPu fo fi ρ N E) E:=Zo8
noncomputable def kRa (c:Str) (E:Str->Sto->Prop) (ds:List D) (M:Sto):Prop:=ds.length<=1000/\E c M
theorem ZmL {c:Str}:wS (ZcB c fs ρ M) N R B C E=wO (fs ρ M) (kRa c E) E:=Zkj
noncomputable def ZtK (tg:Tg) (bd:Sv) (ρ:Ro) (N:Ro->Sto->Prop) (R:D->Sto->Prop) (B C:Ro->Sto->Prop) (E:Str->Sto->Prop) (M:Sto) (j:Int):Prop:=(-(2 ^ 62)<=j/\j < 2 ^ 62)/\wS (ZbQ tg bd (Zby 0 j.toNat) ρ M) N R B C E
noncomputable def ZtL (tg:Tg) (bd:Sv) (ρ:Ro) (N:Ro->Sto->Prop) (R:D->Sto->Prop) (B C:Ro->Sto->Prop) (E:Str->Sto->Prop) (M:Sto) (d:D):Prop:=wI d (ZtK tg bd ρ N R B C E M)
noncomputable def kR1 (tg:Tg) (bd:Sv) (ρ:Ro) (N:Ro->Sto->Prop) (R:D->Sto->Prop) (B C:Ro->Sto->Prop) (E:Str->Sto->Prop) (ds:List D) (M:Sto):Prop:=w1 ds (ZtL tg bd ρ N R B C E M)
theorem ZpV:wS (Zcc tg fs bd ρ M) N R B C E=wO (fs ρ M) (kR1 tg bd ρ N R B C E) E:=Zmv
noncomputable def ZtM (tg:Tg) (bd:Sv) (ρ:Ro) (N:Ro->Sto->Prop) (R:D->Sto->Prop) (B C:Ro->Sto->Prop) (E:Str->Sto->Prop) (M:Sto) (i:Int) (j:Int):Prop:=(-(2 ^ 62)<=i/\i < 2 ^ 62/\ -(2 ^ 62)<=j/\j < 2 ^ 62)/\wS (ZbQ tg bd (Zby i (j - i).toNat) ρ M) N R B C E
noncomputable def ZtN (tg:Tg) (bd:Sv) (ρ:Ro) (N:Ro->Sto->Prop) (R:D->Sto->Prop) (B C:Ro->Sto->Prop) (E:Str->Sto->Prop) (M:Sto) (y:D) (i:Int):Prop:=wI y (ZtM tg bd ρ N R B C E M i)
noncomputable def ZtO (tg:Tg) (bd:Sv) (ρ:Ro) (N:Ro->Sto->Prop) (R:D->Sto->Prop) (B C:Ro->Sto->Prop) (E:Str->Sto->Prop) (M:Sto) (x y:D):Prop:=wI x (ZtN tg bd ρ N R B C E M y)
noncomputable def kR2 (tg:Tg) (bd:Sv) (ρ:Ro) (N:Ro->Sto->Prop) (R:D->Sto->Prop) (B C:Ro->Sto->Prop) (E:Str->Sto->Prop) (ds:List D) (M:Sto):Prop:=w2 ds (ZtO tg bd ρ N R B C E M)
theorem ZpW:wS (Zia tg fs bd ρ M) N R B C E=wO (fs ρ M) (kR2 tg bd ρ N R B C E) E:=ZmG
noncomputable def kFo (tg:Tg) (bd:Sv) (ρ:Ro) (N:Ro->Sto->Prop) (R:D->Sto->Prop) (B C:Ro->Sto->Prop) (E:Str->Sto->Prop) (d:D) (M:Sto):Prop:=wS (ZkV tg bd d ρ M) N R B C E
theorem Zsx:wS (Zl2 tg f bd ρ M) N R B C E=wO (f ρ M) (kFo tg bd ρ N R B C E) E:=Zo9
theorem ZpX:wS (ZkV tg bd (.tup xs) ρ M) N R B C E=wS (ZbQ tg bd xs ρ M) N R B C E:=rfl
theorem ZpY:wS (ZkV tg bd (.rol xs) ρ M) N R B C E=wS (ZbQ tg bd xs ρ M) N R B C E:=rfl
noncomputable def kFs (tg:Tg) (bd:Sv) (ρ:Ro) (N:Ro->Sto->Prop) (R:D->Sto->Prop) (B C:Ro->Sto->Prop) (E:Str->Sto->Prop) (src:Src) (M:Sto):Prop:=wS (Zgu tg bd src (cnt src M) 0 ρ M) N R B C E
theorem ZpZ {fi:Ro->Sto->Out Src}:wS (ZfK tg fi bd ρ M) N R B C E=wO (fi ρ M) (kFs tg bd ρ N R B C E) E:=Zmx
noncomputable def hT (cs:List Str) (gh:Sv) (i:Nat) (ρ:Ro) (c:Str) (M:Sto):Fl:=if cs.contains c=true then (match gh ((List.replicate ρ.length none).set i (some (.err c []))) M with | .ret d M2=> .ret d M2 | .nx _ M2=> .nx (List.replicate ρ.length none) M2 | _=> .bad) else .bad
noncomputable def kTr (cs:List Str) (gh:Sv) (i:Nat) (ρ:Ro) (N:Ro->Sto->Prop) (R:D->Sto->Prop) (B C:Ro->Sto->Prop) (E:Str->Sto->Prop) (c:Str) (M:Sto):Prop:=cs.contains c=true/\wS (gh ((List.replicate ρ.length none).set i (some (.err c []))) M) (fun _ M2=>N (List.replicate ρ.length none) M2) R (fun _ _=>False) (fun _ _=>False) (fun _ _=>False)
theorem Zsy {cs:List Str} {gh:Sv}:wS (Ztt a cs k gh ρ M) N R B C E=wS (a ρ M) N R B C (kTr cs gh k ρ N R B C E):=by
 unfold Ztt
 cases e:a ρ M<;>try rfl
 rename_i c M1
 show wS (if cs.contains c=true then _ else _) N R B C E=kTr cs gh k ρ N R B C E c M1
 unfold kTr
 by_cases h:cs.contains c=true
 ·rw[if_pos h]
  simp only[h,true_and]
  cases gh ((List.replicate ρ.length none).set k (some (.err c []))) M1<;>rfl
 ·rw[if_neg h]
  simp only[h,Bool.false_eq_true,false_and]
  rfl
noncomputable def Zvh (Q:D->Sto->Prop) (M1:Sto) (u:Unit) (M:Sto):Prop:=Q (.ref M1.length) M
noncomputable def kCo (tg:Tg) (c:Tv) (f:Ev) (k:Nat) (fr:List Nat) (ρ:Ro) (Q:D->Sto->Prop) (src:Src) (M:Sto):Prop:=wO (ZdH src tg c f M.length (cnt src M) 0 (roB k fr ρ) (M ++ [.lst []])) (Zvh Q M) (fun _ _=>False)
theorem Zp0 {fi:Ro->Sto->Out Src} {fr:List Nat}:wO (Zbx fi k fr tg t f ρ M) Q E=wO (fi ρ M) (kCo tg t f k fr ρ Q) E:=Zmy
noncomputable def ZtP (QS:Src->Sto->Prop) (M:Sto) (j:Int):Prop:=(-(2 ^ 62)<=j/\j < 2 ^ 62)/\QS (.pur (Zby 0 j.toNat)) M
noncomputable def ZtQ (QS:Src->Sto->Prop) (M:Sto) (d:D):Prop:=wI d (ZtP QS M)
noncomputable def kS1 (QS:Src->Sto->Prop) (ds:List D) (M:Sto):Prop:=w1 ds (ZtQ QS M)
theorem Zvi:wO (iR1 fs ρ M) QS E=wO (fs ρ M) (kS1 QS) E:=Zu2
noncomputable def ZtR (QS:Src->Sto->Prop) (M:Sto) (i:Int) (j:Int):Prop:=(-(2 ^ 62)<=i/\i < 2 ^ 62/\ -(2 ^ 62)<=j/\j < 2 ^ 62)/\QS (.pur (Zby i (j - i).toNat)) M
noncomputable def ZtS (QS:Src->Sto->Prop) (M:Sto) (y:D) (i:Int):Prop:=wI y (ZtR QS M i)
noncomputable def ZtT (QS:Src->Sto->Prop) (M:Sto) (x y:D):Prop:=wI x (ZtS QS M y)
noncomputable def kS2 (QS:Src->Sto->Prop) (ds:List D) (M:Sto):Prop:=w2 ds (ZtT QS M)
theorem Zvj:wO (iR2 fs ρ M) QS E=wO (fs ρ M) (kS2 QS) E:=Zu3
noncomputable def oSq (d:D) (M:Sto):Out Src:=match d with | .tup ds=> .ok (.pur ds) M | .rol ds=> .ok (.pur ds) M | .con ds=> .ok (.pur ds) M | .ref n=> .ok (.sto n) M | _=> .bad
theorem Zvk:wO (iSq f ρ M) QS E=wO (f ρ M) (kU oSq QS E) E:=by unfold iSq;exact ZD
theorem Zsz:wO (oSq (.tup xs) M) QS E=QS (.pur xs) M:=rfl
theorem ZsA:wO (oSq (.rol xs) M) QS E=QS (.pur xs) M:=rfl
theorem ZsB:wO (oSq (.ref n) M) QS E=QS (.sto n) M:=rfl
noncomputable def ZtU (QS:Src->Sto->Prop) (M:Sto) (d:D):Prop:=wR d (kQ QS .enu M)
noncomputable def kEn (QS:Src->Sto->Prop) (ds:List D) (M:Sto):Prop:=w1 ds (ZtU QS M)
theorem Zvl:wO (iEn fs ρ M) QS E=wO (fs ρ M) (kEn QS) E:=Zu4
noncomputable def ZtV (QS:Src->Sto->Prop) (M:Sto) (y:D) (n:Nat):Prop:=wR y (kQ QS (.zip n) M)
noncomputable def ZtW (QS:Src->Sto->Prop) (M:Sto) (x y:D):Prop:=wR x (ZtV QS M y)
noncomputable def kZp (QS:Src->Sto->Prop) (ds:List D) (M:Sto):Prop:=w2 ds (ZtW QS M)
theorem Zvm:wO (iZp fs ρ M) QS E=wO (fs ρ M) (kZp QS) E:=Zu5
noncomputable def ZtX (QS:Src->Sto->Prop) (n:Nat) (M:Sto) (xs:List D):Prop:=QS (.rev n xs.length) M
noncomputable def ZtY (QS:Src->Sto->Prop) (M:Sto) (n:Nat):Prop:=wL M[n]? (ZtX QS n M)
noncomputable def ZtZ (QS:Src->Sto->Prop) (M:Sto) (d:D):Prop:=wR d (ZtY QS M)
noncomputable def kRv (QS:Src->Sto->Prop) (ds:List D) (M:Sto):Prop:=w1 ds (ZtZ QS M)
theorem Zvn:wO (iRv fs ρ M) QS E=wO (fs ρ M) (kRv QS) E:=Zu6
noncomputable def Zp1 (xs:List D) (M:Sto) (Q:D->Sto->Prop) (ys:List D):Prop:=xs.length + ys.length<=10000000/\Q (.ref M.length) (M ++ [.lst (xs ++ ys)])
noncomputable def Zt0 (m:Nat) (M:Sto) (Q:D->Sto->Prop) (xs:List D):Prop:=wL M[m]? (Zp1 xs M Q)
theorem ZsC:wO (dAdd (.ref n) (.ref m) M) Q E=wL M[n]? (Zt0 m M Q):=ZrQ
noncomputable def ZqW (i:Int) (M:Sto) (Q:D->Sto->Prop) (xs:List D):Prop:=((-9223372036854775808<=i/\i < 9223372036854775808)/\xs.length * i.toNat<=100000)/\Q (.ref M.length) (M ++ [.lst (List.replicate i.toNat xs).flatten])
theorem ZsD:wO (ZuJ (.ref n) (.int i) M) Q E=wL M[n]? (ZqW i M Q):=by
 show wO (match M[n]? with | some (.lst xs)=>if (-9223372036854775808<=i/\i < 9223372036854775808)/\xs.length * i.toNat<=100000 then Out.ok (.ref M.length) (M ++ [.lst (List.replicate i.toNat xs).flatten]) else .bad | none=> .bad) Q E=_
 cases e1:M[n]? with
 |none=>rfl
 |some o=>
  cases o with
  |lst xs=>
   show wO (if (-9223372036854775808<=i/\i < 9223372036854775808)/\xs.length * i.toNat<=100000 then Out.ok (.ref M.length) (M ++ [.lst (List.replicate i.toNat xs).flatten]) else .bad) Q E=ZqW i M Q xs
   unfold ZqW
   by_cases h:(-9223372036854775808<=i/\i < 9223372036854775808)/\xs.length * i.toNat<=100000
   ·rw[if_pos h];simp only[eq_true h,true_and];rfl
   ·rw[if_neg h];simp only[eq_false h,false_and];rfl
noncomputable def kEq (Q:D->Sto->Prop) (M:Sto) (b:Bool):Prop:=Q (.bl b) M
noncomputable def kNe (Q:D->Sto->Prop) (M:Sto) (b:Bool):Prop:=Q (.bl (!b)) M
theorem Zvo:wO (dEq x y M) Q E=wG (eqF 12 M x y) (kEq Q M):=ZuX
theorem Zvp:wO (dNe x y M) Q E=wG (eqF 12 M x y) (kNe Q M):=ZuY
theorem Zvq:wO (dIs x y M) Q E=wG (isP x y) (kEq Q M):=ZuZ
theorem ZsE:wO (dIsNot x y M) Q E=wG (isP x y) (kNe Q M):=ZrR
theorem ZsF:wO (Ztv x y M) Q E=wG (inE x y M) (kEq Q M):=by unfold Ztv;cases inE x y M<;>rfl
theorem Zkv:wO (Zik x y M) Q E=wG (inE x y M) (kNe Q M):=by unfold Zik;cases inE x y M<;>rfl
theorem ZsG:wO (dIx (.tup xs) (.int i) M) Q E=wG (atI xs i) (kQ Q id M):=ZrS
theorem ZsH:wO (dIx (.rol xs) (.int i) M) Q E=wG (atI xs i) (kQ Q id M):=ZrT
noncomputable def kIx (i:Int) (Q:D->Sto->Prop) (M:Sto) (xs:List D):Prop:=wG (atI xs i) (kQ Q id M)
theorem ZsI:wO (dIx (.ref n) (.int i) M) Q E=wL M[n]? (kIx i Q M):=ZrU
noncomputable def Zt1 (Q:D->Sto->Prop) (M:Sto) (xs:List D):Prop:=Q (.int xs.length) M
theorem Zp2:wO (bLen [.ref n] M) Q E=wL M[n]? (Zt1 Q M):=Zpd
noncomputable def kLi (Q:D->Sto->Prop) (M:Sto) (xs:List D):Prop:=Q (.ref M.length) (M ++ [.lst xs])
theorem ZmM:wO (bList [.ref n] M) Q E=wL M[n]? (kLi Q M):=ZmA
noncomputable def Zt2 (Q:D->Sto->Prop) (M:Sto) (bs:List Bool):Prop:=Q (.bl (bs.all id)) M
noncomputable def kAl (Q:D->Sto->Prop) (M:Sto) (xs:List D):Prop:=wG (ZcA xs) (Zt2 Q M)
theorem ZsJ:wO (Ztr [.ref n] M) Q E=wL M[n]? (kAl Q M):=ZrY
noncomputable def Zt3 (g:List Int->Option Int) (Q:D->Sto->Prop) (M:Sto) (ns:List Int):Prop:=wG (g ns) (kQ Q .int M)
noncomputable def Zt4 (g:List Int->Option Int) (Q:D->Sto->Prop) (M:Sto) (xs:List D):Prop:=wG (ZbR xs) (Zt3 g Q M)
theorem Zp3 {gi:List Int->Option Int}:wO (ZgZ gi [.ref n] M) Q E=wL M[n]? (Zt4 gi Q M):=Zpi
noncomputable def kMt (g:Me) (fs:Av) (ρ:Ro) (Q:D->Sto->Prop) (E:Str->Sto->Prop) (x:D) (M:Sto):Prop:=Zmc x M=true/\wO (fs ρ M) (kU (g x) Q E) E
theorem Zvr {me:Me} {fo:Ev}:wO (Zjw me fo fs ρ M) Q E=wO (fo ρ M) (kMt me fs ρ Q E) E:=Zu0
noncomputable def Zt5 (n:Nat) (d:D) (Q:D->Sto->Prop) (M:Sto) (xs:List D):Prop:=xs.length < 10000000/\Q .non (M.set n (.lst (xs ++ [d])))
theorem ZsK:wO (mApp (.ref n) [d] M) Q E=wL M[n]? (Zt5 n d Q M):=ZrZ
noncomputable def Zt6 (n:Nat) (Q:D->Sto->Prop) (M:Sto) (xs:List D):Prop:=Q .non (M.set n (.lst []))
theorem ZsL:wO (Ztu (.ref n) [] M) Q E=wL M[n]? (Zt6 n Q M):=Zr0
noncomputable def Zp4 (n:Nat) (xs:List D) (Q:D->Sto->Prop) (M:Sto) (ys:List D):Prop:=xs.length + ys.length<=10000000/\Q .non (M.set n (.lst (xs ++ ys)))
noncomputable def Zt7 (n m:Nat) (Q:D->Sto->Prop) (M:Sto) (xs:List D):Prop:=wL M[m]? (Zp4 n xs Q M)
theorem ZsM:wO (mExt (.ref n) [.ref m] M) Q E=wL M[n]? (Zt7 n m Q M):=Zr1
noncomputable def ZmN (Q:D->Sto->Prop) (M:Sto) (bs:List Bool):Prop:=wG (bs.findIdx? id) (kQ Q (fun (j:Nat)=> .int j) M)
noncomputable def Zt8 (d:D) (Q:D->Sto->Prop) (M:Sto) (xs:List D):Prop:=wG (eqs M d xs) (ZmN Q M)
theorem ZsN:wO (mIdx (.ref n) [d] M) Q E=wL M[n]? (Zt8 d Q M):=by
 show wO (match M[n]? with | some (.lst xs)=>(match eqs M d xs with | some bs=>(match bs.findIdx? id with | some j=>Out.ok (.int (j:Nat)) M | none=> .bad) | none=> .bad) | none=> .bad) Q E=_
 cases e1:M[n]? with
 |none=>rfl
 |some o=>
  cases o with
  |lst xs=>
   show wO (match eqs M d xs with | some bs=>(match bs.findIdx? id with | some j=>Out.ok (.int (j:Nat)) M | none=> .bad) | none=> .bad) Q E=wG (eqs M d xs) (ZmN Q M)
   cases eqs M d xs with
   |none=>rfl
   |some bs=>
    show wO (match bs.findIdx? id with | some j=>Out.ok (.int (j:Nat)) M | none=> .bad) Q E=wG (bs.findIdx? id) _
    cases bs.findIdx? id<;>rfl
noncomputable def kCn (Q:D->Sto->Prop) (M:Sto) (bs:List Bool):Prop:=Q (.int (bs.countP id:Nat)) M
noncomputable def Zt9 (d:D) (Q:D->Sto->Prop) (M:Sto) (xs:List D):Prop:=wG (eqs M d xs) (kCn Q M)
theorem Zp5:wO (ZuG (.ref n) [d] M) Q E=wL M[n]? (Zt9 d Q M):=by
 show wO (match M[n]? with | some (.lst xs)=>(match eqs M d xs with | some bs=>Out.ok (.int (bs.countP id:Nat)) M | none=> .bad) | none=> .bad) Q E=_
 cases e1:M[n]? with
 |none=>rfl
 |some o=>
  cases o with
  |lst xs=>
   show wO (match eqs M d xs with | some bs=>Out.ok (.int (bs.countP id:Nat)) M | none=> .bad) Q E=wG (eqs M d xs) (kCn Q M)
   cases eqs M d xs<;>rfl
noncomputable def Zua (l u:Option Int) (Q:D->Sto->Prop) (M:Sto) (xs:List D):Prop:=Q (.ref M.length) (M ++ [.lst (ZfJ xs l u)])
noncomputable def Zub (x:D) (l:Option Int) (Q:D->Sto->Prop) (E:Str->Sto->Prop) (u:Option Int) (M:Sto):Prop:=wO (slR x l u M) Q E
noncomputable def Zuc (x:D) (hi:Ro->Sto->Out (Option Int)) (ρ:Ro) (Q:D->Sto->Prop) (E:Str->Sto->Prop) (l:Option Int) (M:Sto):Prop:=wO (hi ρ M) (Zub x l Q E) E
noncomputable def Zud (lo hi:Ro->Sto->Out (Option Int)) (ρ:Ro) (Q:D->Sto->Prop) (E:Str->Sto->Prop) (x:D) (M:Sto):Prop:=wO (lo ρ M) (Zuc x hi ρ Q E) E
theorem Zvs {lo hi:Ro->Sto->Out (Option Int)}:wO (eSl f lo hi ρ M) Q E=wO (f ρ M) (Zud lo hi ρ Q E) E:=Zr2
theorem ZsO {l u':Option Int}:wO (slR (.ref n) l u' M) Q E=wL M[n]? (Zua l u' Q M):=Zr3
theorem ZsP {QI:Option Int->Sto->Prop}:wO (oNo ρ M) QI E=QI none M:=rfl
noncomputable def Zue (Q:Option Int->Sto->Prop) (x:D) (M:Sto):Prop:=wI x (kQ Q some M)
theorem ZsQ {QI:Option Int->Sto->Prop}:wO (oSo f ρ M) QI E=wO (f ρ M) (Zue QI) E:=Zr4
noncomputable def oRv (x:D) (M1:Sto):Out D:=match x with | .tup xs=> .ok (.tup xs.reverse) M1 | .ref n=>(match M1[n]? with | some (.lst xs)=> .ok (.ref M1.length) (M1 ++ [.lst xs.reverse]) | none=> .bad) | .rol xs=> .ok (.ref M1.length) (M1 ++ [.lst xs.reverse]) | _=> .bad
theorem Zvt:wO (eRv f ρ M) Q E=wO (f ρ M) (kU oRv Q E) E:=by unfold eRv;exact ZD
noncomputable def ZsR (Q:D->Sto->Prop) (M:Sto) (xs:List D):Prop:=Q (.ref M.length) (M ++ [.lst xs.reverse])
theorem ZsS:wO (oRv (.ref n) M) Q E=wL M[n]? (ZsR Q M):=by show wO (match M[n]? with | some (.lst xs)=>Out.ok (.ref M.length) (M ++ [.lst xs.reverse]) | none=> .bad) Q E=_;cases M[n]? with | none=>rfl | some o=>cases o with | lst xs=>rfl
theorem ZsT:wO (oRv (.tup xs) M) Q E=Q (.tup xs.reverse) M:=rfl
noncomputable def Zuf (tab:List (Str × Bool)) (x:D) (M:Sto):Out D:=match x with | .err c _=>(match tab.lookup c with | some b=> .ok (.bl b) M | none=> .bad) | _=> .bad
theorem ZsU {tab:List (Str × Bool)}:wO (Zts tab f ρ M) Q E=wO (f ρ M) (kU (Zuf tab) Q E) E:=by unfold Zts;exact ZD
theorem Zp6 {tab:List (Str × Bool)} {c:Str}:wO (Zuf tab (.err c xs) M) Q E=wG (tab.lookup c) (kEq Q M):=by show wO (match tab.lookup c with | some b=>Out.ok (.bl b) M | none=> .bad) Q E=_;cases tab.lookup c<;>rfl
noncomputable def kWh (bd:Sv) (ρ:Ro) (I:Ro->Sto->Prop) (N:Ro->Sto->Prop) (R:D->Sto->Prop) (B C:Ro->Sto->Prop) (E:Str->Sto->Prop) (k:Bool) (M:Sto):Prop:=Br k (wS (bd ρ M) I R N I E) (N ρ M)
theorem ZmO {c:Tv} (I:Nat->Ro->Sto->Prop) (st: ∀ n ρ M,I n ρ M->wO (c ρ M) (kWh bd ρ (fun ρ2 M2=> ∃ m,m < n/\I m ρ2 M2) N R B C E) E) (n:Nat) (ρ:Ro) (M:Sto) (h:I n ρ M):wS (sWh c bd ρ M) N R B C E:=Zkk I st n ρ M h
theorem Zp7 {I:Ro->Sto->Prop} {p:Prop} [Decidable p] (h1: ¬ p->wS (bd ρ M) I R N I E) (h2:p->N ρ M):kWh bd ρ I N R B C E (!decide p) M:=brN h1 h2
theorem ZsV {I:Ro->Sto->Prop} {p:Prop} [Decidable p] (h1:p->wS (bd ρ M) I R N I E) (h2: ¬ p->N ρ M):kWh bd ρ I N R B C E (decide p) M:=brD h1 h2
theorem ZqX {src:Src} {fr:List Nat} (Inv:Ro->Prop) (F:Nat->D) (hl:xs.length < 10000000) (hcnt:xs.length<=cnt src M) (h0:Inv (roB k fr ρ)) (hs: ∀ (L:Sto) (i:Nat),i<=xs.length->nxt src i (M ++ L)=some xs[i]?)
  (st: ∀ (i:Nat) (h:i < xs.length) (ρ:Ro) (L:Sto),Inv ρ->wG (tg xs[i] ρ) fun r=>Inv r/\wO (f r (M ++ L)) (fun y M2=>y=F i/\M2=M ++ L) (fun _ _=>False)) (hq:Q (.ref M.length) (M ++ [.lst ((List.range xs.length).map F)])):
  kCo tg (fun _ M=> .ok true M) f k fr ρ Q src M:=ZmJ (Q:=fun M2=>Q (.ref M.length) M2) Inv F hl hcnt h0 hs st hq
theorem Zvu {fr:List Nat} (Inv:Ro->Prop) (F:Nat->D) (hl:n < 10000000) (h0:Inv (roB k fr ρ))
  (st: ∀ (i:Nat) (h:i < n) (ρ:Ro) (L:Sto),Inv ρ->wG (tg (.int i) ρ) fun r=>Inv r/\wO (f r (M ++ L)) (fun y M2=>y=F i/\M2=M ++ L) (fun _ _=>False)) (hq:Q (.ref M.length) (M ++ [.lst ((List.range n).map F)])):
  kCo tg (fun _ M=> .ok true M) f k fr ρ Q (.pur (Zby 0 n)) M:=by
 refine ZqX (xs:=Zby 0 n) Inv F (by rw[ZfR];exact hl) (by simp[cnt]) h0 (fun L i hi=>rfl) (fun i hi ρ L hI=> ?_) (by rw[ZfR];exact hq)
 rw[ZmK]
 have:=st i (by rw[ZfR] at hi;exact hi) ρ L hI
 rw[show (0:Int) + (i:Nat)=i by omega]
 exact this
theorem Zp8 {fr:List Nat} (Inv:Ro->Prop) (F:Nat->D) (hM:M[n]?=some (.lst xs)) (hl:xs.length < 10000000) (h0:Inv (roB k fr ρ))
  (st: ∀ (i:Nat) (h:i < xs.length) (ρ:Ro) (L:Sto),Inv ρ->wG (tg xs[i] ρ) fun r=>Inv r/\wO (f r (M ++ L)) (fun y M2=>y=F i/\M2=M ++ L) (fun _ _=>False)) (hq:Q (.ref M.length) (M ++ [.lst ((List.range xs.length).map F)])):
  kCo tg (fun _ M=> .ok true M) f k fr ρ Q (.sto n) M:=
 ZqX (xs:=xs) Inv F hl (by rw[ZfQ hM];exact Nat.le_refl _) h0 (fun L i hi=>by rw[Zfa];rw[List.getElem?_append_left (ZB hM)];exact hM) st hq
end
end DL
end
namespace DL
open PySem PySem.Spec L2
section
variable {Q:D->Sto->Prop} {E:Str->Sto->Prop} {M:Sto} {n:Nat}
theorem ZsW:wO (bLR [.ref n] M) Q E=wL M[n]? (ZsR Q M):=by
 show wO (match M[n]? with | some (.lst xs)=>Out.ok (.ref M.length) (M ++ [.lst xs.reverse]) | none=> .bad) Q E=_
 cases M[n]? with
 |none=>rfl
 |some o=>cases o with | lst xs=>rfl
end
end DL
section
namespace DL
noncomputable abbrev Pt:=Int × Int
noncomputable def X (p q:Pt):Int:=p.1 * q.2 - p.2 * q.1
section
variable {rs:List Pt} {i j:Int} {k n:Nat} {p:Pt}
theorem Zbo {α:Type} {l:List α} {n:Nat} {d:α} (h:n < l.length):l.getD n d=l[n]:=by simp[List.getElem?_eq_getElem h]
theorem Zbc (h:0<=i/\i < rs.length):cy rs i=rs.getD i.toNat (0,0):=by
 unfold cy
 rw[Int.emod_eq_of_lt h.1 h.2]
theorem ZaG {m:Nat} (h:m≠0):(i % m).toNat < m/\0<=i % m:=by
 have:=Int.emod_lt_of_pos i (show (0:Int) < m by omega)
 have:=Int.emod_nonneg i (show (m:Int)≠0 by omega)
 omega
theorem Zla (h:rs≠[]):cy rs i∈rs:=by
 have hl:rs.length≠0:=by simpa using h
 unfold cy
 rw[Zbo (ZaG hl).1]
 exact List.getElem_mem _
theorem Zdp {f:Pt->Pt} (h:rs≠[]):cy (rs.map f) i=f (cy rs i):=by
 have hl:rs.length≠0:=by simpa using h
 unfold cy
 rw[List.length_map,Zbo (by rw[List.length_map];exact (ZaG hl).1),Zbo (ZaG hl).1,List.getElem_map]
theorem ZbD (hk:k<=rs.length):cy (rs.drop k ++ rs.take k) i=cy rs (i + k):=by
 by_cases h:rs.length=0
 ·have:rs=[]:=by simpa using h
  subst this
  simp[cy]
 have hL:(rs.drop k ++ rs.take k).length=rs.length:=by simp;omega
 have e1:cy (rs.drop k ++ rs.take k) i=cy (rs.drop k ++ rs.take k) (i % rs.length):=by
  conv=>rhs;rw[<- hL,ZcE]
 have e2:cy rs (i + k)=cy rs (i % rs.length + k):=by
  unfold cy
  rw[Int.emod_add_emod]
 rw[e1,e2]
 obtain ⟨a,b⟩:=ZaG (i:=i) h
 generalize hm:i % (rs.length:Int)=m at *
 have hm2:m < rs.length:=by omega
 rw[Zbc (by rw[hL];omega)]
 by_cases c:m + k < rs.length
 ·rw[Zbc (by omega)]
  rw[List.getD_eq_getElem?_getD,List.getD_eq_getElem?_getD,List.getElem?_append_left (by simp;omega),List.getElem?_drop]
  congr 2
  omega
 ·rw[<- Zdo,Zbc (by omega)]
  rw[List.getD_eq_getElem?_getD,List.getD_eq_getElem?_getD,List.getElem?_append_right (by simp;omega),List.getElem?_take_of_lt (by simp;omega)]
  congr 2
  simp
  omega
noncomputable def ins (rs:List Pt) (k:Nat) (p:Pt):List Pt:=rs.take (k + 1) ++ p :: rs.drop (k + 1)
theorem ZfS (hk:k < rs.length):(ins rs k p).length=rs.length + 1:=by simp[ins];omega
theorem Zlb (hk:k < rs.length) (h0:0<=j) (h1:j<=rs.length + 1):cy (ins rs k p) j=if j<=k then cy rs j else if j=k + 1 then p else cy rs (j - 1):=by
 have hL:=ZfS (p:=p) hk
 by_cases e:j=rs.length + 1
 ·subst e
  rw[if_neg (by omega),if_neg (by omega)]
  have e1:cy (ins rs k p) (rs.length + 1)=cy (ins rs k p) 0:=by
   have:=Zdo (rs:=ins rs k p) (i:=(rs.length:Int) + 1)
   rw[hL] at this
   rw[<- this]
   congr 1
   omega
  have e2:cy rs ((rs.length:Int) + 1 - 1)=cy rs 0:=by
   rw[<- Zdo]
   congr 1
   omega
  rw[e1,e2,Zbc (by rw[hL];omega),Zbc (by omega)]
  unfold ins
  rw[List.getD_eq_getElem?_getD,List.getD_eq_getElem?_getD,List.getElem?_append_left (by simp;omega),List.getElem?_take_of_lt (by simp)]
 ·have hj:j < rs.length + 1:=by omega
  rw[Zbc (by rw[hL];omega)]
  unfold ins
  rw[List.getD_eq_getElem?_getD]
  by_cases c1:j<=k
  ·rw[if_pos c1,Zbc (by omega),List.getD_eq_getElem?_getD,List.getElem?_append_left (by simp;omega),List.getElem?_take_of_lt (by omega)]
  ·rw[if_neg c1,List.getElem?_append_right (by simp;omega)]
   have hl:(rs.take (k + 1)).length=k + 1:=by simp;omega
   rw[hl]
   by_cases c2:j=k + 1
   ·rw[if_pos c2]
    have:j.toNat - (k + 1)=0:=by omega
    rw[this]
    rfl
   ·rw[if_neg c2,Zbc (by omega),List.getD_eq_getElem?_getD]
    obtain ⟨z,hz⟩: ∃ z,j.toNat - (k + 1)=z + 1:=⟨j.toNat - (k + 1) - 1,by omega⟩
    rw[hz,List.getElem?_cons_succ,List.getElem?_drop]
    congr 2
    omega
theorem Zdq {P:Pt->Pt->Prop} (hn:rs.length≠0) (h: ∀ i:Int,0<=i->i < rs.length->P (cy rs i) (cy rs (i + 1))) (i:Int):P (cy rs i) (cy rs (i + 1)):=by
 have e1:cy rs i=cy rs (i % rs.length):=ZcE.symm
 have e2:cy rs (i + 1)=cy rs (i % rs.length + 1):=by
  unfold cy
  rw[Int.emod_add_emod]
 rw[e1,e2]
 obtain ⟨a,b⟩:=ZaG (i:=i) hn
 exact h _ b (by omega)
noncomputable def cc (f:Pt->Pt->Nat):List Pt->Nat
 |a :: b :: r=>f a b + cc f (b :: r)
 |_=>0
noncomputable def cyc (f:Pt->Pt->Nat) (rs:List Pt):Nat:=cc f (rs ++ rs.take 1)
theorem ZbU {f:Pt->Pt->Nat}: ∀ (L:List Pt) (a:Pt) (R:List Pt),cc f (L ++ a :: R)=cc f (L ++ [a]) + cc f (a :: R)
 | [],a,R=>by simp[cc]
 | [b],a,R=>by simp[cc]
 |b :: c :: L,a,R=>by
  have:=ZbU (f:=f) (c :: L) a R
  simp only[List.cons_append,cc] at this ⊢
  omega
theorem Zlc {f:Pt->Pt->Nat} {g:Pt->Pt}: ∀ (L:List Pt),cc f (L.map g)=cc (fun a b=>f (g a) (g b)) L
 | []=>rfl
 | [_]=>rfl
 |a :: b :: L=>by
  have:=Zlc (f:=f) (g:=g) (b :: L)
  simp only[List.map_cons,cc] at this ⊢
  omega
theorem Zld {f:Pt->Pt->Nat}: ∀ (L:List Pt),cc f L.reverse=cc (fun a b=>f b a) L
 | []=>rfl
 | [_]=>rfl
 |a :: b :: L=>by
  have:=Zld (f:=f) (b :: L)
  rw[List.reverse_cons,List.reverse_cons,List.append_assoc,List.singleton_append,ZbU]
  rw[List.reverse_cons] at this
  simp only[cc] at this ⊢
  omega
theorem ZaL {f:Pt->Pt->Nat} {a:Pt} {r:List Pt}:cyc f (a :: r)=cc f (a :: (r ++ [a])):=by simp[cyc]
theorem ZbE {f:Pt->Pt->Nat} (A B:List Pt):cyc f (A ++ B)=cyc f (B ++ A):=by
 cases A with
 |nil=>simp
 |cons a A=>
  cases B with
  |nil=>simp
  |cons b B=>
   rw[List.cons_append,ZaL,List.cons_append,ZaL]
   have e1:a :: (A ++ b :: B ++ [a])=(a :: A) ++ b :: (B ++ [a]):=by simp
   have e2:b :: (B ++ a :: A ++ [b])=(b :: B) ++ a :: (A ++ [b]):=by simp
   rw[e1,e2,ZbU (a :: A) b,ZbU (b :: B) a]
   simp only[List.cons_append]
   omega
theorem ZbF {f:Pt->Pt->Nat} {g:Pt->Pt} (L:List Pt):cyc f (L.map g)=cyc (fun a b=>f (g a) (g b)) L:=by
 unfold cyc
 rw[<- List.map_take,<- List.map_append,Zlc]
theorem ZfT {f:Pt->Pt->Nat} (L:List Pt):cyc f L.reverse=cyc (fun a b=>f b a) L:=by
 cases L with
 |nil=>rfl
 |cons a L=>
  rw[List.reverse_cons,ZbE,List.singleton_append,ZaL,ZaL,<- Zld]
  congr 1
  simp
noncomputable def in1 (w a b:Pt):Nat:=if 0<=X a w/\0 < X w b then 1 else 0
noncomputable def in2 (w a b:Pt):Nat:=if 0 < X a w/\0<=X w b then 1 else 0
noncomputable def Fan (rs:List Pt):Prop:= ∀ w:Pt,w≠(0,0)->cyc (in1 w) rs=1/\cyc (in2 w) rs=1
theorem Zp9 {a b w:Pt}:X w (a.1 + b.1,a.2 + b.2)=X w a + X w b/\X (a.1 + b.1,a.2 + b.2) w=X a w + X b w:=by unfold X;constructor<;>grind
theorem ZdK {p q:Pt}:X p q=0 - X q p:=by unfold X;grind
theorem ZmP {a b w:Pt}:in1 w a b=in1 w a (a.1 + b.1,a.2 + b.2) + in1 w (a.1 + b.1,a.2 + b.2) b:=by
 have s:=Zp9 (a:=a) (b:=b) (w:=w)
 have e1:=ZdK (p:=w) (q:=a)
 have e2:=ZdK (p:=b) (q:=w)
 unfold in1
 rw[s.1,s.2,e1,e2]
 generalize X a w=p
 generalize X w b=q
 repeat' split
 all_goals omega
theorem ZmQ {a b w:Pt}:in2 w a b=in2 w a (a.1 + b.1,a.2 + b.2) + in2 w (a.1 + b.1,a.2 + b.2) b:=by
 have s:=Zp9 (a:=a) (b:=b) (w:=w)
 have e1:=ZdK (p:=w) (q:=a)
 have e2:=ZdK (p:=b) (q:=w)
 unfold in2
 rw[s.1,s.2,e1,e2]
 generalize X a w=p
 generalize X w b=q
 repeat' split
 all_goals omega
theorem ZiS {L R:List Pt} {a:Pt}:cy (L ++ a :: R) L.length=a:=by
 rw[Zbc (by simp;omega)]
 simp
theorem ZmR {L R:List Pt} {a b:Pt}:cy (L ++ a :: b :: R) (L.length + 1)=b:=by
 rw[Zbc (by simp;omega)]
 rw[show ((L.length:Int) + 1).toNat=L.length + 1 by omega]
 simp
theorem ZfU {r:List Pt} {a:Pt}:cy (a :: r) (r.length + 1)=a:=by
 have:=Zdo (rs:=a :: r) (i:=(r.length:Int) + 1)
 rw[<- this,List.length_cons,show (r.length:Int) + 1 - ((r.length + 1:Nat):Int)=0 by omega,Zbc (by simp)]
 rfl
theorem ZiT {f:Pt->Pt->Nat} (hk:k < rs.length) (hf:f (cy rs k) (cy rs (k + 1))=f (cy rs k) p + f p (cy rs (k + 1))):cyc f (ins rs k p)=cyc f rs:=by
 obtain ⟨L,a,R,e,hl⟩: ∃ L a R,rs=L ++ a :: R/\L.length=k:=⟨rs.take k,rs[k],rs.drop (k + 1),by rw[List.getElem_cons_drop,List.take_append_drop],by simp;omega⟩
 have ei:ins rs k p=L ++ a :: p :: R:=by
  unfold ins
  rw[e,<- hl,List.take_append,List.drop_append,List.take_of_length_le (by omega),List.drop_eq_nil_of_le (by omega)]
  simp
 have ca:cy rs k=a:=by rw[e,<- hl];exact ZiS
 cases R with
 |cons b R=>
  have cb:cy rs (k + 1)=b:=by rw[e,<- hl];exact ZmR
  rw[ca,cb] at hf
  rw[ei,e,ZbE,ZbE L]
  simp only[List.cons_append,ZaL,cc]
  omega
 |nil=>
  cases L with
  |nil=>
   have cb:cy rs (k + 1)=a:=by
    rw[e,<- hl]
    exact ZfU (r:=[]) (a:=a)
   rw[ca,cb] at hf
   rw[ei,e]
   simp[cyc,cc]
   omega
  |cons b L=>
   have cb:cy rs (k + 1)=b:=by
    rw[e,<- hl]
    have:=ZfU (r:=L ++ [a]) (a:=b)
    simp only[List.length_append,List.length_cons,List.length_nil] at this ⊢
    exact this
   rw[ca,cb] at hf
   rw[ei,e]
   simp only[List.cons_append,ZaL]
   have e1:b :: (L ++ [a,p] ++ [b])=(b :: L) ++ a :: [p,b]:=by simp
   have e2:b :: (L ++ [a] ++ [b])=(b :: L) ++ a :: [b]:=by simp
   rw[e1,e2,ZbU,ZbU (b :: L) a [b]]
   simp only[cc]
   omega
theorem Fan.rot (h:Fan rs):Fan (rs.drop k ++ rs.take k):=fun w hw=>by
 rw[ZbE,ZbE (rs.drop k),List.take_append_drop]
 exact h w hw
theorem Fan.ins (h:Fan rs) (hk:k < rs.length):Fan (ins rs k ((cy rs k).1 + (cy rs (k + 1)).1,(cy rs k).2 + (cy rs (k + 1)).2)):=fun w hw=>by
 rw[ZiT hk ZmP,ZiT hk ZmQ]
 exact h w hw
theorem Zle {f:Pt->Pt} {s:Int} (hs:s=1\/s= -1) (hf: ∀ p q,X (f p) (f q)=s * X p q) (w:Pt) (hw:w≠(0,0)): ∃ w':Pt,w'≠(0,0)/\ ∀ a,X (f a) w=s * X a w':=by
 have d:=hf (1,0) (0,1)
 have d1:X (f (1,0)) (f (0,1))=s:=by rw[d];simp[X]
 have lin: ∀ a,(f a).1=a.1 * (f (1,0)).1 + a.2 * (f (0,1)).1/\(f a).2=a.1 * (f (1,0)).2 + a.2 * (f (0,1)).2:=by
  intro a
  have h1:=hf a (1,0)
  have h2:=hf a (0,1)
  generalize f a=u at *
  generalize f (1,0)=e1 at *
  generalize f (0,1)=e2 at *
  unfold X at *
  rcases hs with rfl | rfl<;>constructor<;>grind
 refine ⟨(X w (f (0,1)) * s,X (f (1,0)) w * s),?_,?_⟩
 ·intro z
  apply hw
  have z1:=congrArg Prod.fst z
  have z2:=congrArg Prod.snd z
  simp only at z1 z2
  generalize f (1,0)=e1 at *
  generalize f (0,1)=e2 at *
  unfold X at *
  apply Prod.ext
  ·rcases hs with rfl | rfl<;>simp only[]<;>grind
  ·rcases hs with rfl | rfl<;>simp only[]<;>grind
 ·intro a
  obtain ⟨l1,l2⟩:=lin a
  unfold X
  rw[l1,l2]
  rcases hs with rfl | rfl<;>simp only[]<;>grind
theorem Fan.map (h:Fan rs) {f:Pt->Pt} (hf: ∀ p q,X (f p) (f q)=X p q):Fan (rs.map f):=fun w hw=>by
 obtain ⟨w',hw',e⟩:=Zle (s:=1) (.inl rfl) (fun p q=>by rw[hf,Int.one_mul]) w hw
 have e2: ∀ a,X w (f a)=X w' a:=fun a=>by rw[ZdK,e,ZdK (p:=w')];omega
 have c1: ∀ a b,in1 w (f a) (f b)=in1 w' a b:=fun a b=>by unfold in1;rw[e,e2,Int.one_mul]
 have c2: ∀ a b,in2 w (f a) (f b)=in2 w' a b:=fun a b=>by unfold in2;rw[e,e2,Int.one_mul]
 rw[ZbF,ZbF,show (fun a b=>in1 w (f a) (f b))=in1 w' from funext fun a=>funext fun b=>c1 a b,show (fun a b=>in2 w (f a) (f b))=in2 w' from funext fun a=>funext fun b=>c2 a b]
 exact h w' hw'
theorem Fan.flip (h:Fan rs) {f:Pt->Pt} (hf: ∀ p q,X (f p) (f q)= -1 * X p q):Fan (rs.map f).reverse:=fun w hw=>by
 obtain ⟨w',hw',e⟩:=Zle (s:= -1) (.inr rfl) hf w hw
 have e2: ∀ a,X w (f a)= -1 * X w' a:=fun a=>by rw[ZdK,e,ZdK (p:=w')];omega
 have c1: ∀ a b,in1 w (f b) (f a)=in2 w' a b:=fun a b=>by
  unfold in1 in2
  rw[e,e2,ZdK (p:=b)]
  have:=ZdK (p:=a) (q:=w')
  simp only[show (0<= -1 * (0 - X w' b)/\0 < -1 * X w' a)=(0 < X a w'/\0<=X w' b) from propext ⟨fun _=>by omega,fun _=>by omega⟩]
 have c2: ∀ a b,in2 w (f b) (f a)=in1 w' a b:=fun a b=>by
  unfold in1 in2
  rw[e,e2,ZdK (p:=b)]
  have:=ZdK (p:=a) (q:=w')
  simp only[show (0 < -1 * (0 - X w' b)/\0<= -1 * X w' a)=(0<=X a w'/\0 < X w' b) from propext ⟨fun _=>by omega,fun _=>by omega⟩]
 rw[ZfT,ZfT,ZbF,ZbF,show (fun a b=>in1 w (f b) (f a))=in2 w' from funext fun a=>funext fun b=>c1 a b,show (fun a b=>in2 w (f b) (f a))=in1 w' from funext fun a=>funext fun b=>c2 a b]
 exact ⟨(h w' hw').2,(h w' hw').1⟩
structure Smo (rs:List Pt):Prop where
 len:3<=rs.length
 one: ∀ i:Int,X (cy rs i) (cy rs (i + 1))=1
 fan:Fan rs
noncomputable def Nr (b:Int) (rs:List Pt):Prop:= ∀ p∈rs,(-b<=p.1/\p.1<=b)/\ -b<=p.2/\p.2<=b
theorem Smo.ne (h:Smo rs):rs≠[]:=by
 intro z
 have:=h.len
 rw[z] at this
 simp at this
theorem Nr.cy {b:Int} (h:Nr b rs) (hn:rs≠[]) (i:Int):(-b<=(cy rs i).1/\(cy rs i).1<=b)/\ -b<=(cy rs i).2/\(cy rs i).2<=b:=h _ (Zla hn)
theorem Smo.ins (h:Smo rs) (hk:k < rs.length):Smo (ins rs k ((cy rs k).1 + (cy rs (k + 1)).1,(cy rs k).2 + (cy rs (k + 1)).2)):=by
 have hL:=ZfS (p:=((cy rs k).1 + (cy rs (k + 1)).1,(cy rs k).2 + (cy rs (k + 1)).2)) hk
 refine ⟨by rw[hL];have:=h.len;omega,?_,h.fan.ins hk⟩
 refine Zdq (P:=fun a b=>X a b=1) (by omega) ?_
 intro i h0 h1
 rw[hL] at h1
 rw[Zlb hk h0 (by omega),Zlb hk (by omega) (by omega)]
 have ok:=h.one k
 by_cases c1:i + 1<=k
 ·rw[if_pos (by omega),if_pos c1];exact h.one i
 ·rw[if_neg c1]
  by_cases c2:i=k
  ·subst c2
   rw[if_pos (by omega),if_pos rfl]
   unfold X at *
   grind
  ·rw[if_neg (by omega: ¬ i<=(k:Int)),if_neg (by omega: ¬ i + 1=(k:Int) + 1)]
   by_cases c3:i=k + 1
   ·subst c3
    rw[if_pos rfl]
    have:(k:Int) + 1 + 1 - 1=k + 1:=by omega
    rw[this]
    unfold X at *
    grind
   ·rw[if_neg c3]
    have:=h.one (i - 1)
    have e:i - 1 + 1=i + 1 - 1:=by omega
    rw[e] at this
    exact this
theorem Smo.rot (h:Smo rs) (hk:k<=rs.length):Smo (rs.drop k ++ rs.take k):=by
 refine ⟨by have:=h.len;simp;omega,fun i=> ?_,h.fan.rot⟩
 rw[ZbD hk,ZbD hk]
 have:=h.one (i + k)
 have e:i + (k:Int) + 1=i + 1 + k:=by omega
 rw[e] at this
 exact this
theorem Smo.map (h:Smo rs) {f:Pt->Pt} (hf: ∀ p q,X (f p) (f q)=X p q):Smo (rs.map f):=by
 refine ⟨by have:=h.len;simp;omega,fun i=> ?_,h.fan.map hf⟩
 rw[Zdp h.ne,Zdp h.ne,hf]
 exact h.one i
theorem Nr.ins {b:Int} (h:Nr b rs) (hp:(-b<=p.1/\p.1<=b)/\ -b<=p.2/\p.2<=b):Nr b (ins rs k p):=by
 intro q hq
 rcases List.mem_append.mp hq with hq | hq
 ·exact h q (List.mem_of_mem_take hq)
 ·rcases List.mem_cons.mp hq with hq | hq
  ·subst hq;exact hp
  ·exact h q (List.mem_of_mem_drop hq)
theorem Nr.rot {b:Int} (h:Nr b rs):Nr b (rs.drop k ++ rs.take k):=by
 intro q hq
 rcases List.mem_append.mp hq with hq | hq
 ·exact h q (List.mem_of_mem_drop hq)
 ·exact h q (List.mem_of_mem_take hq)
end
end DL
end
section
namespace CC
open PySem PySem.Spec L2 DL
noncomputable def ZS:Sv:=(Zar (e2 dSub (e2 dMul (e2 dIx (Zh 0) (eC (.int 0))) (e2 dIx (Zh 1) (eC (.int 1)))) (e2 dMul (e2 dIx (Zh 0) (eC (.int 1))) (e2 dIx (Zh 1) (eC (.int 0))))))
noncomputable def F_crossed:List D->Sto->Out D:=fnF ZS 2 0
noncomputable def ZaT:Sv:=(Zar (e2 dIx (Zh 0) (e2 dMod (e2 dAdd (Zh 1) (eC (.int 1))) (Zl bLen (Zc (Zh 0) aNil)))))
noncomputable def F_following:List D->Sto->Out D:=fnF ZaT 2 0
noncomputable def Zac:Sv:=(sIf (tv (e2 dNe (Zl F_crossed (Zc (Zh 2) (Zc (Zl F_following (Zc (Zh 0) (Zc (Zh 1) aNil))) aNil))) (eC (.int 1)))) (Zar (Zh 1)) sNil)
noncomputable def ZaU:Sv:=(ZK (ZfK (gTp (gCs (gNm 1) (gCs (gNm 2) gNl))) (iEn (Zc (Zh 0) aNil)) Zac)
 (Zar (eC .non)))
noncomputable def F_unspanned:List D->Sto->Out D:=fnF ZaU 1 2
noncomputable def ZaC:Sv:=(ZK (ZQ (gNm 1) (Zl F_unspanned (Zc (Zh 0) aNil)))
 (sIf (tv (e2 dIsNot (Zh 1) (eC .non))) (ZcB (PySem.Str.ofString "NotSmooth") (Zc (eFs (ZfN (eC (.str (PySem.Str.ofString "ray "))) (ZfN (eFm (Zh 1)) (ZfN (eC (.str (PySem.Str.ofString " does not cross the next one in 1"))) jNil)))) aNil)) sNil))
noncomputable def F_ask_smooth:List D->Sto->Out D:=fnF ZaC 1 1
end CC
end
open PySem PySem.Spec L2 DL
set_option hygiene false
set_option compiler.extract_closed false
local macro_rules | `(tactic| simp! [$ls,*]) => `(tactic| simp (implicitDefEqProofs := false) (disch := omega) only [Zu7, y_c, y_v, ZpI, Zse, ZpJ, Zsf, Zsg, Zsh, ZpK, Zsj, ZpL, Zu8, Zu9, Zvb, Zsk, Zvc, Zsl, ZpM, Zsm, ZpN, Zvd, Zsn, Zve, ZpO, Zso, ZpP, Zsp, ZpQ, Zsq, Zsr, Zss, ZpR, ZpS, Zvf, Zvg, Zst, Zsu, ZpU, Zsv, Zsw, ZmL, ZpV, ZpW, Zsx, ZpX, ZpY, ZpZ, Zsy, Zp0, Zvi, Zvj, Zvk, Zsz, ZsA, ZsB, Zvl, Zvm, Zvn, ZsC, ZsD, Zvo, Zvp, Zvq, ZsE, ZsF, Zkv, ZsG, ZsH, ZsI, Zp2, ZmM, ZsJ, Zp3, Zvr, ZsK, ZsL, ZsM, ZsN, Zp5, Zvs, ZsO, ZsP, ZsQ, Zvt, ZsS, ZsT, ZsU, Zp6, kU, kQ, kB2, kB1, kA2, kA1, kTu, kLs, kTy, kIf, kTA, kTO, kTN, kSq, kDr, kSi, kAs, kAt, ZtD, kPa, ZtE, ZtF, ZtG, ZtH, ZtI, ZtJ, kPu, kRa, ZtK, ZtL, kR1, ZtM, ZtN, ZtO, kR2, kFo, kFs, kTr, ZtP, ZtQ, kS1, ZtR, ZtS, ZtT, kS2, ZtU, kEn, ZtV, ZtW, kZp, ZtX, ZtY, ZtZ, kRv, Zp1, Zt0, ZqW, kEq, kNe, kIx, Zt1, kLi, Zt2, kAl, Zt3, Zt4, kMt, Zt5, Zt6, Zp4, Zt7, ZmN, Zt8, kCn, Zt9, Zua, Zub, Zuc, Zud, Zue, ZsR, Zkn, Zko, ZmC, Zkr, Zks, Zkp, Zkq, ZmD, Zku, Zkt, ZmF, ZmE, Zps, decide_eq_true, decide_eq_false, wF1, wF2, wF3, wF4, Zo, Zo0, ZuM, ZuN, ZuO, ZuP, ZuQ, ZuR, ZuK, ZuL, ZrK, ZrL, ZrM, Zpb, ZrN, ZrO, ZrP, ZuT, ZuU, ZuV, ZuW, Zpc, Zpe, Zpf, ZrV, ZrW, ZrX, Zpg, Zph, ZmB, Zpj, Zpk, Zkl, Zsa, Zsb, Zsc, Zsd, id, roB, at0, at1, at2, at3, gTp, gCs, gNl, gNm, List.set_cons_zero, List.set_cons_succ, List.getElem?_cons_zero, List.getElem?_cons_succ, List.length_cons, List.length_nil, List.length_append, List.length_map, List.map_cons, List.map_nil, List.cons_append, List.nil_append, List.append_assoc, List.append_nil, List.replicate_succ, List.replicate_zero, Option.join_some, Option.isSome_some, Zer, Zkm, ZaK, Zk9, Zr5, Zpl, Zpm, Zz, ZbY, Zr6, Zu1, Zr7, Zpp, Zr9, Zpq, Zpr, Zpt, Zpu, Zpv, Zpw, Zpx, Zpy, Zpz, ZpA, ZpB, ZpC, ZpD, ZpE, true_and, and_true, Bool.not_true, Bool.not_false, decide_true, decide_false, Nat.reduceAdd, Nat.reduceLeDiff, Nat.reduceLT, Nat.add_zero, Nat.zero_add, Int.reducePow, Int.reduceToNat, Int.reduceNeg, Int.reduceMod, Int.reduceDiv, Int.reduceAdd, Int.reduceSub, Int.reduceMul, Int.cast_ofNat_Int, Int.reduceEq, Int.reduceLT, Int.reduceLE, $ls,*])
set_option hygiene true
section
namespace CC
open PySem PySem.Spec L2 DL
section
variable {Q:D->Sto->Prop} {E:Str->Sto->Prop} {M:Sto} {a b c d i:Int} {n:Nat} {rs:List Pt}
theorem ZaD (ha: -(18446744073709551616) < a/\a < 18446744073709551616) (hb: -(18446744073709551616) < b/\b < 18446744073709551616):wO (F_crossed [pr a b,pr c d] M) Q E=Q (.int (a * d - b * c)) M:=by
 simp![F_crossed,ZS]
theorem Zbp (h:M[n]?=some (.lst (prs rs))) (hi:0<=i/\i < rs.length):wO (F_following [.ref n,.int i] M) Q E=Q (pr (cy rs (i + 1)).1 (cy rs (i + 1)).2) M:=by
 have e:=ZaG (i:=i + 1) (m:=rs.length) (by omega)
 simp![F_following,ZaT,h,Ze9,ZcE]
theorem ZaH {rs:List Pt} {i:Nat} (h:i < (prs rs).length):(prs rs)[i]=pr (cy rs i).1 (cy rs i).2:=by
 have h':i < rs.length:=by rw[Zz] at h;exact h
 rw[ZcF h']
 simp[prs]
theorem Nr.big {b:Int} {rs:List Pt} (h:Nr b rs) (hb:b<=18446744073709551615) (hn:rs≠[]) (i:Int):(-(18446744073709551616) < (cy rs i).1/\(cy rs i).1 < 18446744073709551616)/\(-(18446744073709551616) < (cy rs i).2/\(cy rs i).2 < 18446744073709551616):=by
 have:=Nr.cy h hn i
 omega
theorem ZfV (h:M[n]?=some (.lst (prs rs))) (hs:Smo rs) (hb:Nr 18446744073709551615 rs) (k:Q .non M):wO (F_unspanned [.ref n] M) Q E:=by
 simp![F_unspanned,ZaU]
 refine ZiQ (fun i ρ M'=>M'=M/\ ∃ x y,ρ=[some (.ref n),x,y]) h ⟨rfl,_,_,rfl⟩ (fun i ρ M' hI=>by rw[hI.1];exact h) ?_ ?_
 ·rintro i ρ M' hi ⟨rfl,x,y,rfl⟩
  have b1:=Nr.big hb (by decide) hs.ne i
  have o1:=hs.one i
  have hi':i < rs.length:=by rw[Zz] at hi;exact hi
  rw[ZaH]
  simp![Zac,Zbp h,ZaD]
  unfold X at o1
  rw[o1]
  simp![Zo]
  exact ⟨_,_,rfl⟩
 ·rintro ρ M' ⟨rfl,x,y,rfl⟩
  simp![Zo]
  exact k
theorem Zfb (h:M[n]?=some (.lst (prs rs))) (hs:Smo rs) (hb:Nr 18446744073709551615 rs) (k:Q .non M):wO (F_ask_smooth [.ref n] M) Q E:=by
 simp![F_ask_smooth,ZaC]
 refine ZfV h hs hb ?_
 simp![Zo]
 exact k
theorem Zdr {w a b:Pt} {p q:Int} (h1:X a w=p) (h2:X w b=q):in1 w a b=if 0<=p/\0 < q then 1 else 0:=by unfold in1;rw[h1,h2]
theorem Zds {w a b:Pt} {p q:Int} (h1:X a w=p) (h2:X w b=q):in2 w a b=if 0 < p/\0<=q then 1 else 0:=by unfold in2;rw[h1,h2]
theorem Zvv:Fan [(1,0),(0,1),(-1,-1)]:=by
 rintro ⟨x,y⟩ hw
 have hw': ¬ (x=0/\y=0):=fun z=>hw (by rw[z.1,z.2])
 have a1:X (1,0) (x,y)=y:=by simp[X]
 have a2:X (0,1) (x,y)= -x:=by simp[X]
 have a3:X (-1,-1) (x,y)=x - y:=by simp[X];omega
 have b1:X (x,y) (0,1)=x:=by simp[X]
 have b2:X (x,y) (-1,-1)=y - x:=by simp[X];omega
 have b3:X (x,y) (1,0)= -y:=by simp[X]
 simp only[cyc,List.take_succ_cons,List.take_zero,List.cons_append,List.nil_append,cc]
 rw[Zdr a1 b1,Zdr a2 b2,Zdr a3 b3,Zds a1 b1,Zds a2 b2,Zds a3 b3]
 clear a1 a2 a3 b1 b2 b3 hw
 constructor
 all_goals
  repeat' split
  all_goals omega
theorem Zvw (f:Int):Fan [(1,0),(0,1),(-1,f),(0,-1)]:=by
 rintro ⟨x,y⟩ hw
 have hw': ¬ (x=0/\y=0):=fun z=>hw (by rw[z.1,z.2])
 have h0:x=0->x * f=0:=fun z=>by rw[z,Int.zero_mul]
 have a1:X (1,0) (x,y)=y:=by simp[X]
 have a2:X (0,1) (x,y)= -x:=by simp[X]
 have a3:X (-1,f) (x,y)= -y - x * f:=by unfold X;simp only;grind
 have a4:X (0,-1) (x,y)=x:=by simp[X]
 have b1:X (x,y) (0,1)=x:=by simp[X]
 have b2:X (x,y) (-1,f)=x * f + y:=by unfold X;simp only;grind
 have b3:X (x,y) (0,-1)= -x:=by simp[X]
 have b4:X (x,y) (1,0)= -y:=by simp[X]
 simp only[cyc,List.take_succ_cons,List.take_zero,List.cons_append,List.nil_append,cc]
 rw[Zdr a1 b1,Zdr a2 b2,Zdr a3 b3,Zdr a4 b4,Zds a1 b1,Zds a2 b2,Zds a3 b3,Zds a4 b4]
 clear a1 a2 a3 a4 b1 b2 b3 b4 hw
 generalize x * f=z at *
 constructor
 all_goals
  repeat' split
  all_goals omega
theorem ZsX:Smo [(1,0),(0,1),(-1,-1)]:=by
 refine ⟨by decide,Zdq (P:=fun a b=>X a b=1) (by decide) ?_,Zvv⟩
 intro i h0 h1
 have:i=0\/i=1\/i=2:=by simp at h1;omega
 rcases this with rfl | rfl | rfl<;>rfl
theorem Zvx (f:Int):Smo [(1,0),(0,1),(-1,f),(0,-1)]:=by
 refine ⟨by simp,Zdq (P:=fun a b=>X a b=1) (by simp) ?_,Zvw f⟩
 intro i h0 h1
 have:i=0\/i=1\/i=2\/i=3:=by simp at h1;omega
 rcases this with rfl | rfl | rfl | rfl<;>simp[X,cy]
end
end CC
end
section
namespace DL
noncomputable def T (rs:List Pt) (i:Int):Int:=0 - X (cy rs (i - 1)) (cy rs (i + 1))
noncomputable def ZbZ (rs:List Pt):List Int:=(List.range rs.length).map fun (i:Nat)=>T rs i
section
variable {rs:List Pt} {k:Nat} {p:Pt} {j:Int}
end
end DL
namespace CC
open PySem PySem.Spec L2 DL
section
variable {Q:D->Sto->Prop} {E:Str->Sto->Prop} {M:Sto} {a b c d i:Int} {n:Nat} {rs:List Pt}
end
end CC
end
section
namespace DL
noncomputable def del (rs:List Pt) (k:Nat):List Pt:=rs.take k ++ rs.drop (k + 1)
section
variable {rs:List Pt} {k:Nat} {p:Pt} {j:Int}
theorem Zlf (p q:Pt):X p q=0 - X q p:=by unfold X;grind
theorem Zdt (hk:k < rs.length):(del rs k).length=rs.length - 1:=by simp[del];omega
theorem ZgD (hk:k < rs.length) (h0:0<=j) (h1:j < rs.length - 1):cy (del rs k) j=if j < k then cy rs j else cy rs (j + 1):=by
 have hL:=Zdt hk
 rw[Zbc (by rw[hL];omega)]
 unfold del
 rw[List.getD_eq_getElem?_getD]
 by_cases c1:j < k
 ·rw[if_pos c1,Zbc (by omega),List.getD_eq_getElem?_getD,List.getElem?_append_left (by simp;omega),List.getElem?_take_of_lt (by omega)]
 ·have hl:(rs.take k).length=k:=by simp;omega
  rw[if_neg c1,Zbc (by omega),List.getD_eq_getElem?_getD,List.getElem?_append_right (by rw[hl];omega),hl,List.getElem?_drop]
  congr 2
  omega
theorem ZmS (hk:k < rs.length) (hn:3<=rs.length):cy (del rs k) (-1)=if (k:Int)=rs.length - 1 then cy rs (-2) else cy rs (-1):=by
 have hL:=Zdt hk
 have e:=Zdn (rs:=del rs k) (i:= -1)
 rw[hL] at e
 rw[<- e,ZgD hk (by omega) (by omega)]
 by_cases c:(k:Int)=rs.length - 1
 ·rw[if_pos (by omega),if_pos c,<- Zdn (rs:=rs) (i:= -2)]
  exact congrArg _ (by omega)
 ·rw[if_neg (by omega),if_neg c,<- Zdn (rs:=rs) (i:= -1)]
  exact congrArg _ (by omega)
theorem ZmT (hk:k < rs.length) (hn:3<=rs.length) (hj:j=rs.length - 1):cy (del rs k) j=if k=0 then cy rs (rs.length + 1) else cy rs rs.length:=by
 have hL:=Zdt hk
 have e:=Zdo (rs:=del rs k) (i:=j)
 rw[hL] at e
 rw[<- e,show j - ((rs.length - 1:Nat):Int)=0 by omega,ZgD hk (by omega) (by omega)]
 by_cases c:k=0
 ·rw[if_neg (by omega),if_pos c,<- Zdn (rs:=rs) (i:=0 + 1)]
  exact congrArg _ (by omega)
 ·rw[if_pos (by omega),if_neg c,<- Zdn (rs:=rs) (i:=0)]
  exact congrArg _ (by omega)
end
end DL
end
section
namespace DL
noncomputable def nm (p:Pt):Int:=p.1 * p.1 + p.2 * p.2
theorem ZiU {w a b:Pt} (h1:0<=X a w) (h2:0 < X w b):in1 w a b=1:=by unfold in1;rw[if_pos ⟨h1,h2⟩]
theorem Zqa {f:Pt->Pt->Nat} {L R:List Pt} {a b:Pt}:f a b<=cc f (L ++ a :: b :: R):=by
 rw[ZbU]
 simp only[cc]
 omega
theorem XX (p:Pt):X p p=0:=by unfold X;grind
end DL
namespace DL
section
variable {rs:List Pt} {k:Nat}
theorem ZmU {f:Pt->Pt->Nat} {a b p:Pt} {L R Y:List Pt} (e:R ++ L=b :: (Y ++ [a])) (hf:f a b=f a p + f p b):cyc f (L ++ R)=cyc f (L ++ p :: R):=by
 rw[ZbE L R,e,ZbE L,List.cons_append,e]
 simp only[ZaL,List.cons_append,cc]
 have e1:b :: (Y ++ [a] ++ [p])=(b :: Y) ++ a :: [p]:=by simp
 have e2:b :: (Y ++ [a] ++ [b])=(b :: Y) ++ a :: [b]:=by simp
 rw[e1,e2,ZbU (b :: Y) a [p],ZbU (b :: Y) a [b]]
 simp only[cc]
 omega
end
end DL
end
section
namespace CE
open PySem PySem.Spec L2 DL
noncomputable def ZS:Sv:=(Zar (e2 dSub (e2 dMul (e2 dIx (Zh 0) (eC (.int 0))) (e2 dIx (Zh 1) (eC (.int 1)))) (e2 dMul (e2 dIx (Zh 0) (eC (.int 1))) (e2 dIx (Zh 1) (eC (.int 0))))))
noncomputable def F_crossed:List D->Sto->Out D:=fnF ZS 2 0
noncomputable def ZaT:Sv:=(Zar (e2 dIx (Zh 0) (e2 dMod (e2 dAdd (Zh 1) (eC (.int 1))) (Zl bLen (Zc (Zh 0) aNil)))))
noncomputable def F_following:List D->Sto->Out D:=fnF ZaT 2 0
noncomputable def Zac:Sv:=(sIf (tv (e2 dNe (Zl F_crossed (Zc (Zh 2) (Zc (Zl F_following (Zc (Zh 0) (Zc (Zh 1) aNil))) aNil))) (eC (.int 1)))) (Zar (Zh 1)) sNil)
noncomputable def ZaU:Sv:=(ZK (ZfK (gTp (gCs (gNm 1) (gCs (gNm 2) gNl))) (iEn (Zc (Zh 0) aNil)) Zac)
 (Zar (eC .non)))
noncomputable def F_unspanned:List D->Sto->Out D:=fnF ZaU 1 2
noncomputable def ZaC:Sv:=(ZK (ZQ (gNm 1) (Zl F_unspanned (Zc (Zh 0) aNil)))
 (sIf (tv (e2 dIsNot (Zh 1) (eC .non))) (ZcB (PySem.Str.ofString "NotSmooth") (Zc (eFs (ZfN (eC (.str (PySem.Str.ofString "ray "))) (ZfN (eFm (Zh 1)) (ZfN (eC (.str (PySem.Str.ofString " does not cross the next one in 1"))) jNil)))) aNil)) sNil))
noncomputable def F_ask_smooth:List D->Sto->Out D:=fnF ZaC 1 1
noncomputable def Zdu:Sv:=(ZK (ZeT (Zl F_ask_smooth (Zc (Zh 0) aNil)))
 (Zar (Zbx (iR1 (Zc (Zl bLen (Zc (Zh 0) aNil)) aNil)) 1 [0] (gNm 0) (fun _ M=> .ok true M) (Zl F_crossed (Zc (Zl F_following (Zc (Zh 1) (Zc (Zh 0) aNil))) (Zc (e2 dIx (Zh 1) (e2 dSub (Zh 0) (eC (.int 1)))) aNil))))))
noncomputable def F_numbers:List D->Sto->Out D:=fnF Zdu 1 0
end CE
end
section
namespace CE
open PySem PySem.Spec L2 DL
theorem ZiV:F_crossed=CC.F_crossed:=rfl
theorem ZfW:F_following=CC.F_following:=rfl
theorem Zfc:F_ask_smooth=CC.F_ask_smooth:=rfl
section
variable {Q:D->Sto->Prop} {E:Str->Sto->Prop} {M:Sto} {a b c d i:Int} {n:Nat} {rs:List Pt}
theorem ZiW (h:M[n]?=some (.lst (prs rs))) (hs:Smo rs) (hl:rs.length<=1000000) (hb:Nr 18446744073709551615 rs) (q:Q (.ref M.length) (M ++ [.lst (nts (ZbZ rs))])):wO (F_numbers [.ref n] M) Q E:=by
 have hm:=ZB h
 have hn:=hs.len
 simp![F_numbers,Zdu,Zfc]
 refine CC.Zfb h hs hb ?_
 simp![h]
 refine ⟨by omega,?_⟩
 rw[show ((rs.length:Int)).toNat=rs.length by omega]
 refine Zvu (fun ρ=> ∃ x,ρ=[x,some (.ref n)]) (fun (i:Nat)=> .int (T rs i)) (by omega) ⟨_,rfl⟩ ?_ (by rw[ZiR];exact q)
 rintro i hi ρ L ⟨x,rfl⟩
 have b1:=CC.Nr.big hb (by decide) hs.ne (i + 1)
 have hL:(M ++ L)[n]?=some (.lst (prs rs)):=by rw[ZaK hm];exact h
 simp![ZfW,ZiV,CC.Zbp hL,h,Ze9,CC.ZaD]
 refine ⟨⟨_,rfl⟩,?_⟩
 unfold T
 rw[<- Zlf]
 rfl
end
end CE
end
section
namespace CF
open PySem PySem.Spec L2 DL CC
end CF
end
section
namespace CF
open PySem PySem.Spec L2 DL
section
variable {Q:D->Sto->Prop} {E:Str->Sto->Prop} {M:Sto} {a b c d i:Int} {n:Nat} {rs:List Pt}
theorem Nr.del {b:Int} {k:Nat} (h:Nr b rs):Nr b (del rs k):=fun p hp=>h p (by
 rcases List.mem_append.mp hp with z | z
 ·exact List.mem_of_mem_take z
 ·exact List.mem_of_mem_drop z)
end
end CF
end
section
namespace DL
open PySem PySem.Spec L2 DL
section
variable {M:Sto}
end
end DL
end
section
namespace CB
open PySem PySem.Spec L2 DL
noncomputable def ZS:Sv:=(Zar (e2 dSub (e2 dMul (e2 dIx (Zh 0) (eC (.int 0))) (e2 dIx (Zh 1) (eC (.int 1)))) (e2 dMul (e2 dIx (Zh 0) (eC (.int 1))) (e2 dIx (Zh 1) (eC (.int 0))))))
noncomputable def F_crossed:List D->Sto->Out D:=fnF ZS 2 0
noncomputable def ZbG:Sv:=(ZK (ZQ (gNm 5) (e2 dDiv (Zh 1) (Zh 2)))
 (ZK (Zh7 1 2 (Zc (Zh 2) (Zc (e2 dSub (Zh 1) (e2 dMul (Zh 5) (Zh 2))) aNil)))
 (Zh7 3 4 (Zc (Zh 4) (Zc (Zaq (Zc (e2 dSub (e2 dIx (Zh 3) (eC (.int 0))) (e2 dMul (Zh 5) (e2 dIx (Zh 4) (eC (.int 0))))) (Zc (e2 dSub (e2 dIx (Zh 3) (eC (.int 1))) (e2 dMul (Zh 5) (e2 dIx (Zh 4) (eC (.int 1))))) aNil))) aNil)))))
noncomputable def Zdv:Sv:=(ZK (ZQ (gTp (gCs (gNm 1) (gCs (gNm 2) gNl))) (Zh 0))
 (ZK (ZQ (gTp (gCs (gNm 3) (gCs (gNm 4) gNl))) (Zaq (Zc (Zaq (Zc (eC (.int 0)) (Zc (eC (.int 1)) aNil))) (Zc (Zaq (Zc (ZfE (eC (.int 1))) (Zc (eC (.int 0)) aNil))) aNil))))
 (ZK (sWh (tv (e2 dNe (Zh 2) (eC (.int 0)))) ZbG)
 (Zar (Zaq (Zc (e2 dMul (Zh 1) (e2 dIx (Zh 3) (eC (.int 0)))) (Zc (e2 dMul (Zh 1) (e2 dIx (Zh 3) (eC (.int 1)))) aNil)))))))
noncomputable def F_partner:List D->Sto->Out D:=fnF Zdv 1 5
noncomputable def Za4:Sv:=(ZK (ZQ (gNm 2) (Zl F_partner (Zc (Zh 0) aNil)))
 (ZK (ZQ (gNm 3) (e2 dDiv (Zl F_crossed (Zc (Zh 2) (Zc (Zh 1) aNil))) (Zl F_crossed (Zc (Zh 0) (Zc (Zh 1) aNil)))))
 (Zar (Zaq (Zc (e2 dSub (e2 dIx (Zh 2) (eC (.int 0))) (e2 dMul (Zh 3) (e2 dIx (Zh 0) (eC (.int 0))))) (Zc (e2 dSub (e2 dIx (Zh 2) (eC (.int 1))) (e2 dMul (Zh 3) (e2 dIx (Zh 0) (eC (.int 1))))) aNil))))))
noncomputable def F_first_behind:List D->Sto->Out D:=fnF Za4 2 2
noncomputable def Zbq:Sv:=(ZK (ZQ (gNm 3) (ZfE (e2 dDiv (ZfE (Zh 0)) (Zh 1))))
 (ZK (ZeT (Zjw mApp (Zh 2) (Zc (Zh 3) aNil)))
 (Zh7 0 1 (Zc (Zh 1) (Zc (e2 dSub (e2 dMul (Zh 3) (Zh 1)) (Zh 0)) aNil)))))
noncomputable def Zcr:Sv:=(ZK (ZQ (gNm 2) (ZcN aNil))
 (ZK (sWh (tv (e2 dNe (Zh 1) (eC (.int 0)))) Zbq)
 (Zar (Zh 2))))
noncomputable def F_expanded:List D->Sto->Out D:=fnF Zcr 2 2
noncomputable def ZmV:Sv:=(ZK (sIf (tv (e2 dLe (Zl F_crossed (Zc (Zh 0) (Zc (Zh 1) aNil))) (eC (.int 0)))) (ZcB (PySem.Str.ofString "NoWedge") (Zc (eC (.str (PySem.Str.ofString "the two rays of a wedge, crossed, come to more than 0"))) aNil)) sNil)
 (Zar (Zl F_expanded (Zc (Zl F_crossed (Zc (Zh 0) (Zc (Zh 1) aNil))) (Zc (Zl F_crossed (Zc (Zl F_first_behind (Zc (Zh 0) (Zc (Zh 1) aNil))) (Zc (Zh 1) aNil))) aNil)))))
noncomputable def F_row:List D->Sto->Out D:=fnF ZmV 2 0
noncomputable def ZbH:Sv:=(ZK (ZeT (Zjw mApp (Zh 3) (Zc (Zh 5) aNil)))
 (Zh7 4 5 (Zc (Zh 5) (Zc (Zaq (Zc (e2 dSub (e2 dMul (Zh 6) (e2 dIx (Zh 5) (eC (.int 0)))) (e2 dIx (Zh 4) (eC (.int 0)))) (Zc (e2 dSub (e2 dMul (Zh 6) (e2 dIx (Zh 5) (eC (.int 1)))) (e2 dIx (Zh 4) (eC (.int 1)))) aNil))) aNil))))
noncomputable def Zdw:Sv:=(ZK (ZQ (gNm 2) (Zl F_row (Zc (Zh 0) (Zc (Zh 1) aNil))))
 (ZK (ZQ (gNm 3) (ZcN aNil))
 (ZK (Zh7 4 5 (Zc (Zh 0) (Zc (Zl F_first_behind (Zc (Zh 0) (Zc (Zh 1) aNil))) aNil)))
 (ZK (Zl2 (gNm 6) (Zh 2) ZbH)
 (Zar (Zh 3))))))
noncomputable def F_between:List D->Sto->Out D:=fnF Zdw 2 5
noncomputable def Zb0:Sv:=(ZK (ZQ (gNm 2) (eC (.int 0)))
 (ZK (sIf (tv (e2 dLt (Zh 1) (Zl bLen (Zc (Zh 0) aNil)))) (ZQ (gNm 2) (e2 dIx (Zh 0) (Zh 1))) sNil)
 (ZK (ZQ (gNm 3) (e2 dMod (Zh 2) (e2 dMul (e2 dPow (eC (.int 10)) (eC (.int 60))) (e2 dPow (eC (.int 10)) (eC (.int 30))))))
 (Zar (ZcN (Zc (e2 dMul (Zh 3) (Zl bInt (Zc (e2 dGe (Zh 3) (e2 dPow (eC (.int 10)) (eC (.int 18)))) aNil))) (Zc (e2 dAdd (e2 dAdd (e2 dMod (Zh 2) (eC (.int 2147483647))) (e2 dMul (eC (.int 7919)) (Zh 1))) (eC (.int 1))) aNil)))))))
noncomputable def F_law_purse:List D->Sto->Out D:=fnF Zb0 2 2
noncomputable def Zcs:Sv:=(ZK (sIf (tv (e2 dGt (e2 dIx (Zh 0) (eC (.int 0))) (eC (.int 0)))) (ZK (ZQ (gNm 2) (e2 dMod (e2 dIx (Zh 0) (eC (.int 0))) (Zh 1)))
 (ZK (Znt (Zh 0) (eC (.int 0)) (e2 dDiv (e2 dIx (Zh 0) (eC (.int 0))) (Zh 1)))
 (Zar (Zh 2)))) sNil)
 (ZK (Znt (Zh 0) (eC (.int 1)) (e2 dMod (e2 dAdd (e2 dMul (e2 dIx (Zh 0) (eC (.int 1))) (eC (.int 48271))) (eC (.int 12345))) (eC (.int 2147483647))))
 (Zar (e2 dMod (e2 dDiv (e2 dMod (e2 dMul (e2 dIx (Zh 0) (eC (.int 1))) (eC (.int 69621))) (eC (.int 2147483629))) (eC (.int 5))) (Zh 1)))))
noncomputable def F_law_take:List D->Sto->Out D:=fnF Zcs 2 1
noncomputable def Zch:Sv:=(Zar (e2 dSub (e2 dMul (e2 dIx (Zh 0) (eC (.int 0))) (e2 dIx (Zh 1) (eC (.int 1)))) (e2 dMul (e2 dIx (Zh 0) (eC (.int 1))) (e2 dIx (Zh 1) (eC (.int 0))))))
noncomputable def F_law_crossed:List D->Sto->Out D:=fnF Zch 2 0
noncomputable def Za5:Sv:=(Zh7 1 2 (Zc (Zh 2) (Zc (e2 dMod (Zh 1) (Zh 2)) aNil)))
noncomputable def Zb1:Sv:=(ZK (Zh7 1 2 (Zc (Zl bAbs (Zc (e2 dIx (Zh 0) (eC (.int 0))) aNil)) (Zc (Zl bAbs (Zc (e2 dIx (Zh 0) (eC (.int 1))) aNil)) aNil)))
 (ZK (sWh (tv (e2 dGt (Zh 2) (eC (.int 0)))) Za5)
 (ZK (sIf (tv (e2 dEq (Zh 1) (eC (.int 0)))) (Zar (Zaq (Zc (eC (.int 1)) (Zc (eC (.int 0)) aNil)))) sNil)
 (Zar (Zaq (Zc (e2 dDiv (e2 dIx (Zh 0) (eC (.int 0))) (Zh 1)) (Zc (e2 dDiv (e2 dIx (Zh 0) (eC (.int 1))) (Zh 1)) aNil)))))))
noncomputable def F_law_short:List D->Sto->Out D:=fnF Zb1 1 2
end CB
end
section
namespace DL
theorem ZiX {a b:Int} (h:b≠0):(a - a.fdiv b * b).natAbs < b.natAbs:=by
 have e:a - a.fdiv b * b=a.fmod b:=by rw[Int.fmod_def,Int.mul_comm]
 rw[e]
 by_cases c:0 < b
 ·have h1:=Int.fmod_lt_of_pos a c
  have h2:0<=a.fmod b:=by rw[Int.fmod_eq_emod_of_nonneg _ (by omega)];exact Int.emod_nonneg _ h
  omega
 ·have e2:a.fmod b= -((-a).fmod (-b)):=by rw[Int.neg_fmod_neg];omega
  have h1:=Int.fmod_lt_of_pos (-a) (show 0 < -b by omega)
  have h2:0<=(-a).fmod (-b):=by rw[Int.fmod_eq_emod_of_nonneg _ (by omega)];exact Int.emod_nonneg _ (by omega)
  omega
theorem ZmW {a b:Int} (h:b≠0):(a.fdiv b).natAbs<=a.natAbs + 1:=by
 have h1:=ZiX (a:=a) h
 generalize hr:a - a.fdiv b * b=r at h1
 have h2:(a.fdiv b * b).natAbs<=a.natAbs + r.natAbs:=by omega
 rw[Int.natAbs_mul] at h2
 apply Classical.byContradiction
 intro c
 have h3:(a.natAbs + 2) * b.natAbs<=(a.fdiv b).natAbs * b.natAbs:=Nat.mul_le_mul_right _ (by omega)
 have h4:a.natAbs * 1<=a.natAbs * b.natAbs:=Nat.mul_le_mul_left _ (by omega)
 rw[Nat.add_mul] at h3
 omega
noncomputable def hj (t b:Int):List Int:=if h:0 < b then -((-t) / b) :: hj b (-((-t) / b) * b - t) else []
termination_by b.toNat
decreasing_by
 have h1:=Int.emod_nonneg (-t) (show b≠0 by omega)
 have h2:=Int.emod_lt_of_pos (-t) h
 have h3:=Int.emod_add_mul_ediv (-t) b
 rw[Int.neg_mul,Int.mul_comm]
 omega
theorem Zbr {t b:Int} (h:0 < b):0<= -((-t) / b) * b - t/\ -((-t) / b) * b - t < b:=by
 have h1:=Int.emod_nonneg (-t) (show b≠0 by omega)
 have h2:=Int.emod_lt_of_pos (-t) h
 have h3:=Int.emod_add_mul_ediv (-t) b
 rw[Int.neg_mul,Int.mul_comm]
 omega
theorem ZiY {t b:Int} (h:0 < b) (ht:b < t):2<= -((-t) / b):=by
 have:=(Zbr (t:=t) h).1
 apply Classical.byContradiction
 intro c
 have: -((-t) / b) * b<=1 * b:=Int.mul_le_mul_of_nonneg_right (by omega) (by omega)
 omega
theorem Zlg: ∀ (n:Nat) (t b:Int),b.toNat=n->(hj t b).length<=n:=by
 intro n
 induction n using Nat.strongRecOn with
 |ind n ih=>
  intro t b hb
  unfold hj
  by_cases h:0 < b
  ·rw[dif_pos h]
   have:=Zbr (t:=t) h
   have:=ih (-((-t) / b) * b - t).toNat (by omega) b _ rfl
   simp only[List.length_cons]
   omega
  ·rw[dif_neg h]
   simp
end DL
namespace CB
open PySem PySem.Spec L2 DL
section
variable {Q:D->Sto->Prop} {E:Str->Sto->Prop} {M:Sto} {a b c d i:Int} {n m:Nat} {u v w:Pt}
noncomputable abbrev Bd (b:Int) (p:Pt):Prop:=(-b<=p.1/\p.1<=b)/\ -b<=p.2/\p.2<=b
theorem Zqb {j:Int} (h:j≠0/\ -(18446744073709551616) < j/\j < 18446744073709551616):wO (dDiv (.int i) (.int j) M) Q E=Q (.int (i.fdiv j)) M:=by
 have:Za3 j:=by
  refine ⟨h.1,?_⟩
  have:j.natAbs.log2 < 65:=(Nat.log2_lt (by omega)).mpr (by omega)
  omega
 show wO (if Za3 j then _ else _) Q E=_
 rw[if_pos this];rfl
theorem ZiZ (hg:Int.gcd u.1 u.2=1) (hb:Bd 1000000 u) (q: ∀ w:Pt,X u w=1->Q (pr w.1 w.2) M):wO (F_partner [pr u.1 u.2] M) Q E:=by
 simp![F_partner,Zdv]
 refine ZmO (fun k ρ M'=>M'=M/\ ∃ (h l:Int) (f s:Pt) (x:Option D),ρ=[some (pr u.1 u.2),some (.int h),some (.int l),some (pr f.1 f.2),some (pr s.1 s.2),x]/\k=l.natAbs/\Int.gcd h l=1/\(-1000000<=h/\h<=1000000)/\(-1000000<=l/\l<=1000000)/\X u f=h/\X u s=l) ?_ u.2.natAbs _ _ ⟨rfl,u.1,u.2,(0,1),(-1,0),_,rfl,rfl,hg,hb.1,hb.2,by simp[X],by simp[X]⟩
 rintro k ρ M ⟨rfl,h,l,f,s,x,rfl,rfl,g,hh,hl,e1,e2⟩
 simp![Zo]
 refine Zp7 (fun hl0=> ?_) (fun hl0=> ?_)
 ·have f1:=ZiX (a:=h) hl0
  have f2:=ZmW (a:=h) hl0
  simp![ZbG,Zqb]
  refine ⟨(h - h.fdiv l * l).natAbs,f1,l,h - h.fdiv l * l,s,(f.1 - h.fdiv l * s.1,f.2 - h.fdiv l * s.2),_,rfl,rfl,?_,hl,by omega,e2,?_⟩
  ·rw[Int.gcd_sub_mul_right_right,Int.gcd_comm]
   exact g
  ·unfold X at *
   simp only
   grind
 ·subst hl0
  rw[Int.gcd_zero_right] at g
  simp![Zo]
  have:=q (h * f.1,h * f.2) (by
   have hh2:h * h=1:=by
    have:h=1\/h= -1:=by omega
    rcases this with z | z<;>rw[z]<;>rfl
   unfold X at *
   simp only
   grind)
  exact this
theorem ZaD (h:Bd 1000000 u\/Bd 1000000 v):wO (F_crossed [pr u.1 u.2,pr v.1 v.2] M) Q E=Q (.int (X u v)) M:=by
 rcases h with h | h
 ·simp![F_crossed,ZS]
  rfl
 ·simp![F_crossed,ZS]
  rfl
structure Wg (u v:Pt):Prop where
 gu:Int.gcd u.1 u.2=1
 gv:Int.gcd v.1 v.2=1
 bu:Bd 1000 u
 bv:Bd 1000 v
 pos:0 < X u v
theorem Wg.le (h:Wg u v):X u v<=2000000:=by
 obtain ⟨_,_,⟨⟨a1,a2⟩,a3,a4⟩,⟨⟨b1,b2⟩,b3,b4⟩,_⟩:=h
 have m: ∀ x y:Int,-1000<=x->x<=1000-> -1000<=y->y<=1000->(x * y).natAbs<=1000 * 1000:=by
  intro x y _ _ _ _
  rw[Int.natAbs_mul]
  exact Nat.mul_le_mul (by omega) (by omega)
 have p1:=m u.1 v.2 a1 a2 b3 b4
 have p2:=m u.2 v.1 a3 a4 b1 b2
 unfold X
 omega
theorem ZbV (h:Wg u v) (q: ∀ w:Pt,X u w=1->0<=X w v->X w v < X u v->Q (pr w.1 w.2) M):wO (F_first_behind [pr u.1 u.2,pr v.1 v.2] M) Q E:=by
 have bu:Bd 1000000 u:=by have:=h.bu;unfold Bd at *;omega
 have bv:Bd 1000000 v:=by have:=h.bv;unfold Bd at *;omega
 have hp:=h.pos
 have hl:=h.le
 simp![F_first_behind,Za4]
 refine ZiZ h.gu bu fun w e=> ?_
 simp![ZaD (u:=w) (v:=v) (.inr bv),ZaD (u:=u) (v:=v) (.inr bv)]
 have m1:=Int.emod_nonneg (X w v) (show X u v≠0 by omega)
 have m2:=Int.emod_lt_of_pos (X w v) hp
 have m3:=Int.emod_add_mul_ediv (X w v) (X u v)
 generalize X w v / X u v=k at *
 have e3:X (w.1 - k * u.1,w.2 - k * u.2) v=X w v % X u v:=by
  have:X (w.1 - k * u.1,w.2 - k * u.2) v=X w v - X u v * k:=by unfold X;simp only;grind
  omega
 exact q (w.1 - k * u.1,w.2 - k * u.2) (by unfold X at *;simp only;grind) (by omega) (by omega)
structure Fb (u v w:Pt):Prop where
 one:X u w=1
 lo:0<=X w v
 hi:X w v < X u v
theorem Fb.uniq {w w':Pt} (h:Fb u v w) (k:Fb u v w'):w=w':=by
 obtain ⟨h1,a1,a2⟩:=h
 obtain ⟨h2,b1,b2⟩:=k
 have e1:w'.1=X w' w * u.1 + w.1/\w'.2=X w' w * u.2 + w.2:=by unfold X at *;constructor<;>grind
 have e2:X w' v=X w' w * X u v + X w v:=by
  have:X w' v=X (X w' w * u.1 + w.1,X w' w * u.2 + w.2) v:=by rw[<- e1.1,<- e1.2]
  rw[this]
  unfold X
  simp only
  grind
 generalize X w' w=k at *
 have k0:k=0:=by
  apply Classical.byContradiction
  intro c
  by_cases p:1<=k
  ·have:1 * X u v<=k * X u v:=Int.mul_le_mul_of_nonneg_right p (by omega)
   omega
  ·have:k * X u v<=(-1) * X u v:=Int.mul_le_mul_of_nonneg_right (by omega) (by omega)
   omega
 rw[k0] at e1
 apply Prod.ext<;>omega
theorem Zqc (h:Wg u v): ∃ w,Fb u v w:=by
 obtain ⟨d,M',_,w,hw⟩:=ZiN (ZbV (M:=[]) (Q:=fun _ _=> ∃ w,Fb u v w) h fun w a b c=>⟨w,a,b,c⟩)
 exact ⟨w,hw⟩
theorem Zqd (h:Wg u v) (hw:Fb u v w):wO (F_first_behind [pr u.1 u.2,pr v.1 v.2] M) Q E=Q (pr w.1 w.2) M:=by
 obtain ⟨d,M',e,e1,e2⟩:=ZiN (ZbV (M:=M) (Q:=fun d M'=>d=pr w.1 w.2/\M'=M) h fun w' a b c=>⟨by rw[hw.uniq ⟨a,b,c⟩],rfl⟩)
 rw[e,e1,e2]
 rfl
theorem Zg6 {t b:Int} (hb:0<=b) (hl:b<=90000) (q:Q (.ref M.length) (M ++ [.lst (nts (hj t b))])):wO (F_expanded [.int t,.int b] M) Q E:=by
 simp![F_expanded,Zcr]
 refine ZmO (fun k ρ M'=> ∃ (t' b':Int) (xs:List Int) (x:Option D),ρ=[some (.int t'),some (.int b'),some (.ref M.length),x]/\M'=M ++ [.lst (nts xs)]/\0<=b'/\b'<=90000/\k=b'.toNat/\xs ++ hj t' b'=hj t b/\xs.length + b'.toNat<=90000) ?_ b.toNat _ _ ⟨t,b,[],_,rfl,rfl,hb,hl,rfl,rfl,by simp;omega⟩
 rintro k ρ M' ⟨t',b',xs,x,rfl,rfl,h0,h1,rfl,e,hx⟩
 simp![Zo]
 refine Zp7 (fun hl0=> ?_) (fun hl0=> ?_)
 ·have n1:=Zbr (t:=t') (show 0 < b' by omega)
  simp![Zbq]
  refine ⟨by omega,(-(-t' / b') * b' - t').toNat,by omega,_,_,xs ++ [-(-t' / b')],_,rfl,rfl,n1.1,by omega,rfl,?_,by simp;omega⟩
  rw[<- e]
  conv=>rhs;rw[hj,dif_pos (show 0 < b' by omega)]
  simp
 ·subst hl0
  simp![Zo]
  have:hj t' 0=[]:=by rw[hj,dif_neg (by omega)]
  rw[this,List.append_nil] at e
  rw[e]
  exact q
theorem ZsY (h:Wg u v) (hw:Fb u v w) (hl:X u v<=90000) (q:Q (.ref M.length) (M ++ [.lst (nts (hj (X u v) (X w v)))])):wO (F_row [pr u.1 u.2,pr v.1 v.2] M) Q E:=by
 have bv:Bd 1000000 v:=by have:=h.bv;unfold Bd at *;omega
 have hp:=h.pos
 simp![F_row,ZmV,ZaD (u:=u) (v:=v) (.inr bv),ZaD (u:=w) (v:=v) (.inr bv),Zqd h hw]
 exact Zg6 hw.lo (by have:=hw.hi;omega) q
noncomputable def btw:Pt->Pt->List Int->List Pt
 |_,_,[]=>[]
 |a,r,k :: ks=>r :: btw r (k * r.1 - a.1,k * r.2 - a.2) ks
theorem Zi0: ∀ (a r:Pt) (ks:List Int),(btw a r ks).length=ks.length
 |_,_,[]=>rfl
 |a,r,k :: ks=>by rw[btw,List.length_cons,Zi0,List.length_cons]
theorem Zkw: ∀ (n:Nat) (t b:Int),b.toNat=n->0<=b->b < t-> ∀ k∈hj t b,2<=k/\k<=t:=by
 intro n
 induction n using Nat.strongRecOn with
 |ind n ih=>
  intro t b hb h0 ht k hk
  unfold hj at hk
  by_cases h:0 < b
  ·rw[dif_pos h] at hk
   have nx:=Zbr (t:=t) h
   rcases List.mem_cons.mp hk with z | z
   ·rw[z]
    refine ⟨ZiY h ht,?_⟩
    apply Classical.byContradiction
    intro c
    have:(t + 1) * b<= -((-t) / b) * b:=Int.mul_le_mul_of_nonneg_right (by omega) (by omega)
    have:t * 1<=t * b:=Int.mul_le_mul_of_nonneg_left (by omega) (by omega)
    rw[Int.add_mul] at *
    omega
   ·have:=ih (-((-t) / b) * b - t).toNat (by omega) b _ rfl nx.1 nx.2 k z
    omega
  ·rw[dif_neg h] at hk
   simp at hk
theorem Zi1 (h:Wg u v) (hw:Fb u v w) (hl:X u v<=90000) (q:Q (.ref (M.length + 1)) (M ++ [.lst (nts (hj (X u v) (X w v))),.lst (prs (btw u w (hj (X u v) (X w v))))])):wO (F_between [pr u.1 u.2,pr v.1 v.2] M) Q E:=by
 simp![F_between,Zdw]
 refine ZsY h hw hl ?_
 have sm:=Zkw _ (X u v) (X w v) rfl hw.lo hw.hi
 have ln:=Zlg _ (X u v) (X w v) rfl
 have hi:=hw.hi
 generalize hj (X u v) (X w v)=ks at *
 simp![Zqd h hw]
 refine Zep (fun i ρ M'=> ∃ (a r:Pt) (pre suf:List Int) (dn:List Pt) (x:Option D),ρ=[some (pr u.1 u.2),some (pr v.1 v.2),some (.ref M.length),some (.ref (M.length + 1)),some (pr a.1 a.2),some (pr r.1 r.2),x]/\M'=M ++ [.lst (nts ks),.lst (prs dn)]/\ks=pre ++ suf/\pre.length=i/\btw u w ks=dn ++ btw a r suf/\dn.length=i) (n:=M.length) (xs:=nts ks) (by rw[Zer];rfl) ⟨u,w,[],ks,[],_,rfl,rfl,rfl,rfl,rfl,rfl⟩ (fun i ρ M' ⟨_,_,_,_,_,_,_,e,_⟩=>by rw[e,Zer];rfl) ?_ ?_
 ·rintro i ρ M' hi' ⟨a,r,pre,suf,dn,x,rfl,rfl,e1,e2,e3,e4⟩
  rw[ZbY] at hi'
  obtain ⟨k,suf,rfl⟩: ∃ k s,suf=k :: s:=by
   cases suf with
   |nil=>rw[e1] at hi';simp at hi';omega
   |cons k s=>exact ⟨k,s,rfl⟩
  have ek:(nts ks)[i]'(by rw[ZbY];exact hi')= .int k:=by
   subst e1 e2
   simp[nts]
  rw[ek]
  have hk:=sm k (by rw[e1];simp)
  simp![ZbH]
  refine ⟨by omega,r,(k * r.1 - a.1,k * r.2 - a.2),pre ++ [k],suf,dn ++ [(r.1,r.2)],_,rfl,rfl,by rw[e1];simp,by simp;omega,?_,by simp;omega⟩
  rw[e3,btw]
  simp
 ·rintro ρ M' ⟨a,r,pre,suf,dn,x,rfl,rfl,e1,e2,e3,e4⟩
  have:suf=[]:=by
   have:=congrArg List.length e1
   rw[ZbY] at e2
   simp at this
   cases suf with
   |nil=>rfl
   |cons _ _=>simp at this;omega
  subst this
  rw[btw,List.append_nil] at e3
  simp![Zo]
  rw[<- e3]
  exact q
end
end CB
end
section
namespace CB
open PySem PySem.Spec L2 DL
section
variable {Q:D->Sto->Prop} {E:Str->Sto->Prop} {M:Sto} {a b c d i:Int} {n m:Nat} {u v w:Pt}
theorem ZmX {ns:List Int} {k:Nat} (hk:k < 1000) (q: ∀ a b:Int,0<=a->Q (.ref M.length) (M ++ [.lst [.int a,.int b]])):wO (F_law_purse [.rol (ns.map D.int),.int k] M) Q E:=by
 have big:Z9 1000000000000000000000000000000000000000000000000000000000000 1000000000000000000000000000000:=ZgW 300 300 (by decide +kernel) (by decide +kernel) (by decide) (by decide)
 simp![F_law_purse,Zb0]
 refine brS (fun h1=> ?_) (fun h1=> ?_)
 ·have h2:k < ns.length:=by simpa using h1
  simp![Zkh h2,ZgC big]
  obtain ⟨l,hl,l0⟩: ∃ l:Int,ns[k] % 1000000000000000000000000000000000000000000000000000000000000000000000000000000000000000000=l/\0<=l:=⟨_,rfl,by omega⟩
  rw[hl]
  refine q _ _ ?_
  split<;>omega
 ·simp![ZgC big]
  exact q _ _ (by omega)
theorem Zad {t:Int} (hb:Bag n M) (ht:0 < t/\t < 18446744073709551616) (q: ∀ r M',0<=r->r < t->Gr n M M'->Q (.int r) M'):wO (F_law_take [.ref n,.int t] M) Q E:=by
 obtain ⟨a,b,ha,e⟩:=hb
 have hl:n < M.length:=ZB e
 have hs: ∀ x,(M.set n x)[n]?=some x:=fun x=>List.getElem?_set_self hl
 have gr: ∀ a' b',0<=a'->Gr n M (M.set n (.lst [.int a',.int b'])):=fun a' b' h=>⟨by simp,⟨a',b',h,hs _⟩,fun k hk _=>by rw[List.getElem?_set_ne (Ne.symm hk)]⟩
 have m1:=Int.emod_nonneg a (show t≠0 by omega)
 have m2:=Int.emod_lt_of_pos a ht.1
 simp![F_law_take,Zcs,e]
 refine brS (fun h1=> ?_) (fun h1=> ?_)
 ·simp![e,ix0]
  exact q _ _ m1 m2 (gr _ _ (Int.ediv_nonneg ha (by omega)))
 ·simp![e,ix1]
  exact q _ _ (Int.emod_nonneg _ (by omega)) (Int.emod_lt_of_pos _ ht.1) (gr _ _ ha)
theorem Zug (hu:Bd 200 u) (hv:Bd 200 v): -80000<=X u v/\X u v<=80000:=by
 obtain ⟨⟨a1,a2⟩,a3,a4⟩:=hu
 obtain ⟨⟨b1,b2⟩,b3,b4⟩:=hv
 have m: ∀ x y:Int,-200<=x->x<=200-> -200<=y->y<=200->(x * y).natAbs<=200 * 200:=by
  intro x y _ _ _ _
  rw[Int.natAbs_mul]
  exact Nat.mul_le_mul (by omega) (by omega)
 have p1:=m u.1 v.2 a1 a2 b3 b4
 have p2:=m u.2 v.1 a3 a4 b1 b2
 unfold X
 omega
theorem Zg7 (h:Bd 1000000 u\/Bd 1000000 v):wO (F_law_crossed [pr u.1 u.2,pr v.1 v.2] M) Q E=Q (.int (X u v)) M:=ZaD h
noncomputable def Ch:List Pt->Prop
 |a :: b :: r=>X a b=1/\Ch (b :: r)
 |_=>True
theorem ZsZ: ∀ (n:Nat) (t b:Int) (a r v:Pt),b.toNat=n->0<=b->b < t->X a r=1->X a v=t->X r v=b->Int.gcd v.1 v.2=1->Ch (a :: (btw a r (hj t b) ++ [v])):=by
 intro n
 induction n using Nat.strongRecOn with
 |ind n ih=>
  intro t b a r v hb h0 ht h1 h2 h3 gv
  unfold hj
  by_cases h:0 < b
  ·rw[dif_pos h]
   have nx:=Zbr (t:=t) h
   generalize hk: -((-t) / b)=k at *
   have q:=ih (k * b - t).toNat (by omega) b (k * b - t) r (k * r.1 - a.1,k * r.2 - a.2) v rfl nx.1 nx.2 (by unfold X at *;simp only;grind) h3 (by unfold X at *;simp only;grind) gv
   rw[btw]
   exact ⟨h1,q⟩
  ·rw[dif_neg h,btw]
   have b0:b=0:=by omega
   have e1:v.1=t * r.1/\v.2=t * r.2:=by unfold X at *;constructor<;>grind
   rw[e1.1,e1.2,Int.gcd_mul_left] at gv
   have t1:t.natAbs=1:=Nat.eq_one_of_mul_eq_one_right gv
   refine ⟨by rw[h2];omega,trivial⟩
theorem Zi2 (h:Wg u v) (hw:Fb u v w):Ch (u :: (btw u w (hj (X u v) (X w v)) ++ [v])):=ZsZ _ _ _ u w v rfl hw.lo hw.hi hw.one rfl rfl h.gv
noncomputable def Tr (a b d:Pt):Prop:= ∃ k:Int,2<=k/\a.1 + d.1=k * b.1/\a.2 + d.2=k * b.2
noncomputable def Cv:List Pt->Prop
 |a :: b :: d :: r=>Tr a b d/\Cv (b :: d :: r)
 |_=>True
theorem Zlh: ∀ (n:Nat) (t b:Int) (a r v:Pt),b.toNat=n->0<=b->b < t->X a r=1->X a v=t->X r v=b->Int.gcd v.1 v.2=1->Cv (a :: (btw a r (hj t b) ++ [v]))/\ ∃ rest,btw a r (hj t b) ++ [v]=r :: rest:=by
 intro n
 induction n using Nat.strongRecOn with
 |ind n ih=>
  intro t b a r v hb h0 ht h1 h2 h3 gv
  unfold hj
  by_cases h:0 < b
  ·rw[dif_pos h]
   have nx:=Zbr (t:=t) h
   have k2:=ZiY h ht
   generalize hk: -((-t) / b)=k at *
   obtain ⟨q,rest,e⟩:=ih (k * b - t).toNat (by omega) b (k * b - t) r (k * r.1 - a.1,k * r.2 - a.2) v rfl nx.1 nx.2 (by unfold X at *;simp only;grind) h3 (by unfold X at *;simp only;grind) gv
   rw[btw]
   refine ⟨?_,_,rfl⟩
   show Cv (a :: r :: (btw r (k * r.1 - a.1,k * r.2 - a.2) (hj b (k * b - t)) ++ [v]))
   rw[e] at q ⊢
   exact ⟨⟨k,k2,by simp only;omega,by simp only;omega⟩,q⟩
  ·rw[dif_neg h,btw]
   have b0:b=0:=by omega
   have e1:v.1=t * r.1/\v.2=t * r.2:=by unfold X at *;constructor<;>grind
   have gv':=gv
   rw[e1.1,e1.2,Int.gcd_mul_left] at gv'
   have t1:t.natAbs=1:=Nat.eq_one_of_mul_eq_one_right gv'
   have tt:t=1:=by omega
   rw[tt] at e1
   have:v=r:=by apply Prod.ext<;>omega
   rw[this]
   exact ⟨trivial,[],rfl⟩
theorem Zkx: ∀ (L:List Pt) {a b d:Pt} {R:List Pt},Cv (L ++ a :: b :: d :: R)->Tr a b d
 | [],_,_,_,_,h=>h.1
 | [x],_,_,_,_,h=>Zkx [] h.2
 | [x,y],_,_,_,_,h=>Zkx [y] h.2
 |x :: y :: z :: L,_,_,_,_,h=>Zkx (y :: z :: L) h.2
theorem Zqe: ∀ (l:List Pt),(∀ L a b d R,l=L ++ a :: b :: d :: R->Tr a b d)->Cv l
 | [],_=>trivial
 | [_],_=>trivial
 | [_,_],_=>trivial
 |a :: b :: d :: r,h=>⟨h [] a b d r rfl,Zqe (b :: d :: r) fun L x y z R e=>h (a :: L) x y z R (by rw[e];rfl)⟩
theorem Zqf {l:List Pt} (h:Cv l):Cv l.reverse:=by
 refine Zqe _ fun L a b d R e=> ?_
 have:l=R.reverse ++ d :: b :: a :: L.reverse:=by
  have:=congrArg List.reverse e
  rw[List.reverse_reverse] at this
  rw[this]
  simp
 rw[this] at h
 obtain ⟨k,k2,e1,e2⟩:=Zkx _ h
 exact ⟨k,k2,by omega,by omega⟩
noncomputable def dt (f p:Pt):Int:=f.1 * p.1 + f.2 * p.2
end
section
variable {u v w:Pt}
theorem Zs0: ∀ (n:Nat) (t b:Int) (a r v:Pt),b.toNat=n->0<=b->b < t->X r v=b->X a v=t-> ∀ x∈btw a r (hj t b),0<=X x v/\X x v<=t:=by
 intro n
 induction n using Nat.strongRecOn with
 |ind n ih=>
  intro t b a r v hb h0 ht h3 h2 x hx
  unfold hj at hx
  by_cases h:0 < b
  ·rw[dif_pos h] at hx
   have nx:=Zbr (t:=t) h
   generalize -((-t) / b)=k at *
   rw[btw] at hx
   rcases List.mem_cons.mp hx with z | z
   ·rw[z,h3];omega
   ·have:=ih (k * b - t).toNat (by omega) b (k * b - t) r (k * r.1 - a.1,k * r.2 - a.2) v rfl nx.1 nx.2 (by unfold X at *;simp only;grind) h3 x z
    omega
  ·rw[dif_neg h,btw] at hx
   simp at hx
theorem Zs1 {u:Pt}: ∀ (n:Nat) (t b:Int) (a r v:Pt),b.toNat=n->0<=b->b < t->X a r=1->X a v=t->X r v=b->Int.gcd v.1 v.2=1->0<=X u a->X u a<=X u r->X u r<=X u v/\ ∀ x∈btw a r (hj t b),0<=X u x/\X u x<=X u v:=by
 intro n
 induction n using Nat.strongRecOn with
 |ind n ih=>
  intro t b a r v hb h0 ht h1 h2 h3 gv p1 p2
  unfold hj
  by_cases h:0 < b
  ·rw[dif_pos h]
   have nx:=Zbr (t:=t) h
   have k2:=ZiY h ht
   generalize -((-t) / b)=k at *
   have e:X u (k * r.1 - a.1,k * r.2 - a.2)=k * X u r - X u a:=by unfold X;simp only;grind
   have m:2 * X u r<=k * X u r:=Int.mul_le_mul_of_nonneg_right k2 (by omega)
   obtain ⟨q1,q2⟩:=ih (k * b - t).toNat (by omega) b (k * b - t) r (k * r.1 - a.1,k * r.2 - a.2) v rfl nx.1 nx.2 (by unfold X at *;simp only;grind) h3 (by unfold X at *;simp only;grind) gv (by omega) (by omega)
   refine ⟨by omega,fun x hx=> ?_⟩
   rw[btw] at hx
   rcases List.mem_cons.mp hx with z | z
   ·rw[z];omega
   ·exact q2 x z
  ·rw[dif_neg h,btw]
   have b0:b=0:=by omega
   have e1:v.1=t * r.1/\v.2=t * r.2:=by unfold X at *;constructor<;>grind
   have gv':=gv
   rw[e1.1,e1.2,Int.gcd_mul_left] at gv'
   have t1:t.natAbs=1:=Nat.eq_one_of_mul_eq_one_right gv'
   have tt:t=1:=by omega
   rw[tt] at e1
   have:v=r:=by apply Prod.ext<;>omega
   rw[this]
   exact ⟨Int.le_refl _,fun x hx=>by simp at hx⟩
end
end CB
end
section
namespace CA
open PySem PySem.Spec L2 DL
end CA
end
section
namespace CA
open PySem PySem.Spec L2 DL
structure Tn (B a b c d:Int):Prop where
 fa: -B<=a/\a<=B
 fb: -B<=b/\b<=B
 fc: -B<=c/\c<=B
 fd: -B<=d/\d<=B
 det:a * d - b * c=1\/a * d - b * c= -1
theorem Zli {B C x y:Int} (hx: -B<=x/\x<=B) (hy: -C<=y/\y<=C): -(B * C)<=x * y/\x * y<=B * C:=by
 have h:(x * y).natAbs<=(B * C).natAbs:=by
  rw[Int.natAbs_mul,Int.natAbs_mul]
  exact Nat.mul_le_mul (by omega) (by omega)
 have:0<=B * C:=Int.mul_nonneg (by omega) (by omega)
 omega
section
variable {Q:D->Sto->Prop} {E:Str->Sto->Prop} {M:Sto} {a b c d i:Int} {n m:Nat} {rs:List Pt}
theorem ZgE (h:rs≠[]) (i:Int):cy rs.reverse i=cy rs (-1 - i):=by
 have hl:rs.length≠0:=by simpa using h
 have e1:cy rs.reverse i=cy rs.reverse (i % rs.length):=by
  conv=>rhs;rw[<- List.length_reverse (as:=rs),ZcE]
 have e2:cy rs (-1 - i)=cy rs (-1 - i % rs.length):=by
  unfold cy
  congr 2
  rw[Int.sub_emod,Int.sub_emod (-1) (i % rs.length),Int.emod_emod_of_dvd _ (Int.dvd_refl _)]
 rw[e1,e2]
 obtain ⟨a,b⟩:=ZaG (i:=i) hl
 generalize i % (rs.length:Int)=m at *
 rw[Zbc (by rw[List.length_reverse];omega),<- Zdn (rs:=rs),Zbc (by omega)]
 rw[List.getD_eq_getElem?_getD,List.getD_eq_getElem?_getD,List.getElem?_reverse (by omega)]
 congr 2
 omega
theorem ZmY (hl:3<=rs.length) (h: ∀ i:Int,X (cy rs i) (cy rs (i + 1))= -1) (hf:Fan rs.reverse):Smo rs.reverse:=by
 have ne:rs≠[]:=by intro z;rw[z] at hl;simp at hl
 refine ⟨by rw[List.length_reverse];exact hl,fun i=> ?_,hf⟩
 rw[ZgE ne,ZgE ne,Zlf]
 have:=h (-1 - (i + 1))
 rw[show -1 - (i + 1) + 1= -1 - i by omega] at this
 omega
theorem Gr.up {k:Nat} {M M1:Sto} {o:SO} (h:M[k]?=some o) (g:Gr n M M1) (hk:k≠n):M1[k]?=some o:=by
 rw[g.keep k hk (ZB h)]
 exact h
end
end CA
end
section
namespace CY
open PySem PySem.Spec L2 DL CA
end CY
end
section
namespace CY
open PySem PySem.Spec L2 DL
section
variable {Q:D->Sto->Prop} {E:Str->Sto->Prop} {M:Sto} {n m:Nat} {rs:List Pt}
theorem Gr.of {M M':Sto} (hb:Bag n M) (l:M.length<=M'.length) (g: ∀ k,k < M.length->M'[k]?=M[k]?):Gr n M M':=by
 refine ⟨l,?_,fun k _ hk=>g k hk⟩
 obtain ⟨a,b,h,e⟩:=id hb
 exact ⟨a,b,h,(g n hb.lt).trans e⟩
end
end CY
end
section
namespace CR
open PySem PySem.Spec L2 DL
end CR
end
section
namespace CR
open PySem PySem.Spec L2 DL
noncomputable abbrev rt (q:Rat):D:=pr q.num (q.den:Int)
section
variable {Q:D->Sto->Prop} {E:Str->Sto->Prop} {M:Sto} {k l:Nat} {p q:Rat}
end
end CR
end
section
namespace CH
open PySem PySem.Spec L2 DL CA CR
end CH
end
section
namespace CH
open PySem PySem.Spec L2 DL
open CR (rt)
section
variable {Q:D->Sto->Prop} {E:Str->Sto->Prop} {M:Sto} {n:Nat}
end
end CH
end
section
namespace CS
open PySem PySem.Spec L2 DL CC CR
end CS
end
section
namespace CS
open PySem PySem.Spec L2 DL
open CR (rt)
section
variable {Q:D->Sto->Prop} {E:Str->Sto->Prop} {M:Sto} {k l:Nat} {p q:Rat}
end
end CS
end
section
namespace CN
open PySem PySem.Spec L2 DL
open CE (F_numbers)
open CC (F_following)
end CN
end
section
namespace CN
open PySem PySem.Spec L2 DL
open CR (rt)
noncomputable def cq (hs:List Rat) (i:Int):Rat:=hs.getD (i % hs.length).toNat 0
section
variable {Q:D->Sto->Prop} {E:Str->Sto->Prop} {M:Sto} {k l:Nat} {p q:Rat} {n m:Nat} {rs:List Pt} {hs:List Rat} {i:Int}
end
end CN
end
section
namespace CN
open PySem PySem.Spec L2 DL
open CR (rt)
section
variable {Q:D->Sto->Prop} {E:Str->Sto->Prop} {M:Sto} {k l:Nat} {p q:Rat} {n m:Nat} {rs:List Pt} {hs:List Rat} {i:Int}
theorem plu (a b c d e f:Int) (h1:a * d - b * c=1) (h2:c * f - d * e=1):a + e=(a * f - b * e) * c/\b + f=(a * f - b * e) * d:=by
 constructor
 ·have:(a * f - b * e) * c=(c * f - d * e) * a + (a * d - b * c) * e:=by
   simp only[Int.sub_mul]
   rw[show a * f * c=c * f * a by ac_rfl,show b * e * c=b * c * e by ac_rfl,show d * e * a=a * d * e by ac_rfl]
   omega
  rw[this,h1,h2];omega
 ·have:(a * f - b * e) * d=(c * f - d * e) * b + (a * d - b * c) * f:=by
   simp only[Int.sub_mul]
   rw[show a * f * d=a * d * f by ac_rfl,show b * e * d=d * e * b by ac_rfl,show c * f * b=b * c * f by ac_rfl]
   omega
  rw[this,h1,h2];omega
theorem ZmZ (hs':Smo rs) (i:Int):(cy rs (i - 1)).1 + (cy rs (i + 1)).1= -(T rs i) * (cy rs i).1/\(cy rs (i - 1)).2 + (cy rs (i + 1)).2= -(T rs i) * (cy rs i).2:=by
 have h1:=hs'.one (i - 1)
 have h2:=hs'.one i
 rw[show i - 1 + 1=i by omega] at h1
 unfold X at h1 h2
 have:=plu _ _ _ _ _ _ h1 h2
 unfold T X
 rw[show -(0 - ((cy rs (i - 1)).1 * (cy rs (i + 1)).2 - (cy rs (i - 1)).2 * (cy rs (i + 1)).1))=(cy rs (i - 1)).1 * (cy rs (i + 1)).2 - (cy rs (i - 1)).2 * (cy rs (i + 1)).1 by omega]
 exact this
end
end CN
end
section
namespace CN
open PySem PySem.Spec L2 DL
open CR (rt)
noncomputable def sm (f:Int->Rat):Nat->Rat
 |0=>0
 |n + 1=>sm f n + f n
end CN
end
section
namespace CU
open PySem PySem.Spec L2 DL
open CC (F_ask_smooth)
end CU
end
section
namespace CU
open PySem PySem.Spec L2 DL
open CR (rt)
open CN CS
noncomputable def thr (rs:List Pt) (hs:List Rat):Rat × Rat:=(cq hs 0 * (cy rs 1).2 - cq hs 1 * (cy rs 0).2,cq hs 1 * (cy rs 0).1 - cq hs 0 * (cy rs 1).1)
noncomputable abbrev rp (m:Rat × Rat):D:= .tup [rt m.1,rt m.2]
section
variable {Q:D->Sto->Prop} {E:Str->Sto->Prop} {M:Sto} {k l:Nat} {p q:Rat} {n m o:Nat} {rs:List Pt} {hs xs ys:List Rat} {i:Int}
theorem Zky (h1:M[n]?=some (.lst (prs rs))) {ss:List Pt} (h2:M[m]?=some (.lst (prs ss))):eqF (k + 3) M (.ref n) (.ref m)=some (decide (rs=ss)):=by
 rw[Zr8 h1 h2,Zpo]
 by_cases e:rs=ss
 ·subst e;simp
 ·rw[decide_eq_false e]
  split<;>rfl
end
end CU
end
section
namespace CV
open PySem PySem.Spec L2 DL
open CR (rt)
open CN CU CS
noncomputable def Kp (M M':Sto):Prop:=M.length<=M'.length/\ ∀ j < M.length,M'[j]?=M[j]?
section
variable {M M' M1 M2:Sto} {o:SO} {j:Nat}
theorem Kp.get (k:Kp M M') (h:M[j]?=some o):M'[j]?=some o:=(k.2 _ (ZB h)).trans h
theorem Kp.refl:Kp M M:=⟨Nat.le_refl _,fun _ _=>rfl⟩
theorem Kp.trans (a:Kp M M1) (b:Kp M1 M2):Kp M M2:=⟨Nat.le_trans a.1 b.1,fun j h=>(b.2 j (Nat.lt_of_lt_of_le h a.1)).trans (a.2 j h)⟩
theorem Kp.app {L:Sto}:Kp M (M ++ L):=⟨by simp,fun j h=>ZaK h⟩
theorem Kp.set (a:Kp M M1) (h:M.length<=j):Kp M (M1.set j o):=⟨by rw[List.length_set];exact a.1,fun i hi=>by rw[List.getElem?_set_ne (by omega)];exact a.2 i hi⟩
theorem Kp.gr {n:Nat} (k:Kp M M') (b:Bag n M):Gr n M M':=CY.Gr.of b k.1 k.2
end
section
variable {Q:D->Sto->Prop} {E:Str->Sto->Prop} {M:Sto} {k l:Nat} {p q:Rat} {n m o:Nat} {rs:List Pt} {hs xs ys zs u v:List Rat} {i:Int} {f:Ev} {ρ:Ro} {mu mv N:Nat}
end
end CV
end
section
namespace CW
open PySem PySem.Spec L2 DL
open CE (F_numbers)
end CW
end
section
namespace CW
open PySem PySem.Spec L2 DL
open CV
noncomputable def fx (rs:List Pt):Nat:=((ZbZ rs).findIdx? (fun t=>decide (t= -1))).getD 0
section
variable {Q:D->Sto->Prop} {E:Str->Sto->Prop} {M:Sto} {n m:Nat} {rs:List Pt}
end
end CW
end
section
namespace CB
open PySem PySem.Spec L2 DL
theorem mid {a b p w:Pt} (h1:0 < X a p) (h2:0 < X p b) (h:0 < X a b):in1 w a b=in1 w a p + in1 w p b/\in2 w a b=in2 w a p + in2 w p b:=by
 have e:X a b * X p w=X p b * X a w - X a p * X w b:=by unfold X;grind
 have s:=ZdK (p:=w) (q:=p)
 have k1:0<=X a w->0<=X p b * X a w:=fun z=>Int.mul_nonneg (by omega) z
 have k2:0 < X a w->0 < X p b * X a w:=fun z=>Int.mul_pos h2 z
 have k3:X a w<=0->X p b * X a w<=0:=fun z=>Int.mul_nonpos_of_nonneg_of_nonpos (by omega) z
 have k3':X a w < 0->X p b * X a w < 0:=fun z=>Int.mul_neg_of_pos_of_neg h2 z
 have l1:0<=X w b->0<=X a p * X w b:=fun z=>Int.mul_nonneg (by omega) z
 have l2:0 < X w b->0 < X a p * X w b:=fun z=>Int.mul_pos h1 z
 have l3:X w b<=0->X a p * X w b<=0:=fun z=>Int.mul_nonpos_of_nonneg_of_nonpos (by omega) z
 have l3':X w b < 0->X a p * X w b < 0:=fun z=>Int.mul_neg_of_pos_of_neg h1 z
 have m1:0<=X p w->0<=X a b * X p w:=fun z=>Int.mul_nonneg (by omega) z
 have m2:0 < X p w->0 < X a b * X p w:=fun z=>Int.mul_pos h z
 have m3:X p w<=0->X a b * X p w<=0:=fun z=>Int.mul_nonpos_of_nonneg_of_nonpos (by omega) z
 have m3':X p w < 0->X a b * X p w < 0:=fun z=>Int.mul_neg_of_pos_of_neg h z
 unfold in1 in2
 rw[s]
 generalize X a b * X p w=z at *
 generalize X p b * X a w=y at *
 generalize X a p * X w b=x at *
 generalize X a w=aw at *
 generalize X w b=wb at *
 generalize X p w=pw at *
 constructor
 all_goals
  repeat' split
  all_goals omega
noncomputable def Add (f:Pt->Pt->Nat):Prop:= ∀ a b p,0 < X a p->0 < X p b->0 < X a b->f a b=f a p + f p b
theorem Zvy {w:Pt}:Add (in1 w):=fun _ _ _ h1 h2 h=>(mid h1 h2 h).1
theorem Zvz {w:Pt}:Add (in2 w):=fun _ _ _ h1 h2 h=>(mid h1 h2 h).2
theorem Zqg {f:Pt->Pt->Nat} (hf:Add f): ∀ (n:Nat) (t b:Int) (a r v:Pt),b.toNat=n->0<=b->b < t->X a r=1->X a v=t->X r v=b->cc f (a :: (btw a r (hj t b) ++ [v]))=f a v:=by
 intro n
 induction n using Nat.strongRecOn with
 |ind n ih=>
  intro t b a r v hb h0 ht h1 h2 h3
  unfold hj
  by_cases h:0 < b
  ·rw[dif_pos h]
   have nx:=Zbr (t:=t) h
   generalize hk: -((-t) / b)=k at *
   have q:=ih (k * b - t).toNat (by omega) b (k * b - t) r (k * r.1 - a.1,k * r.2 - a.2) v rfl nx.1 nx.2 (by unfold X at *;simp only;grind) h3 (by unfold X at *;simp only;grind)
   rw[btw,List.cons_append,cc,q]
   exact (hf a v r (by omega) (by omega) (by omega)).symm
  ·rw[dif_neg h,btw]
   simp[cc]
noncomputable def nx1 (a b:Pt):Nat:=if X a b=1 then 0 else 1
theorem Zqh: ∀ (l:List Pt),Ch l->cc nx1 l=0
 | [],_=>rfl
 | [_],_=>rfl
 |a :: b :: r,h=>by
  rw[cc,Zqh (b :: r) h.2]
  unfold nx1
  rw[if_pos h.1]
noncomputable def fbv (u v:Pt):Pt:= @dite _ (∃ w,Fb u v w) (Classical.propDecidable _) (fun h=>h.choose) (fun _=>(0,0))
theorem Zci {u v:Pt} (h:Wg u v):Fb u v (fbv u v):=by
 have e:=Zqc h
 unfold fbv
 rw[dif_pos e]
 exact e.choose_spec
noncomputable def seg (u v:Pt):List Pt:=u :: btw u (fbv u v) (hj (X u v) (X (fbv u v) v))
noncomputable def Zap:List Pt->List Pt
 |a :: b :: r=>seg a b ++ Zap (b :: r)
 |_=>[]
noncomputable def Wgs:List Pt->Prop
 |a :: b :: r=>Wg a b/\Wgs (b :: r)
 |_=>True
theorem Zlj {f:Pt->Pt->Nat} (hf:Add f) {u v:Pt} (h:Wg u v):cc f (seg u v ++ [v])=f u v:=by
 have k:=Zci h
 exact Zqg hf _ _ _ u _ v rfl k.lo k.hi k.one rfl rfl
theorem Zm0 {u v:Pt} (h:Wg u v):cc nx1 (seg u v ++ [v])=0:=Zqh _ (Zi2 h (Zci h))
theorem Zi3 {f g:Pt->Pt->Nat} (hs: ∀ u v,Wg u v->cc f (seg u v ++ [v])=g u v): ∀ (L:List Pt) (z:Pt),Wgs (L ++ [z])->cc f (Zap (L ++ [z]) ++ [z])=cc g (L ++ [z])/\ ∃ r,Zap (L ++ [z]) ++ [z]=(L ++ [z]).head (by simp) :: r
 | [],z,_=>by simp[Zap,cc]
 | [a],z,h=>by
  have:=hs a z h.1
  refine ⟨?_,?_⟩
  ·simp only[List.cons_append,List.nil_append,Zap,List.append_nil,cc]
   rw[this]
   omega
  ·simp[Zap,seg]
 |a :: b :: L,z,h=>by
  obtain ⟨i1,r,i2⟩:=Zi3 hs (b :: L) z h.2
  have:=hs a b h.1
  simp only[List.cons_append,List.head_cons] at i1 i2
  refine ⟨?_,?_⟩
  ·simp only[List.cons_append,Zap,List.append_assoc,cc]
   rw[i2,ZbU,this,<- i2,i1]
  ·simp only[List.cons_append,Zap,seg]
   exact ⟨_,rfl⟩
noncomputable def lrd (rs:List Pt):List Pt:=Zap (rs ++ rs.take 1)
theorem ZgF: ∀ (L:List Pt),L.length<=(Zap L).length + 1
 | []=>by simp
 | [_]=>by simp
 |a :: b :: r=>by
  have:=ZgF (b :: r)
  simp only[Zap,seg,List.length_append,List.length_cons] at *
  omega
theorem Zfd {a b:Pt} {r:List Pt}: ∃ s,Zap (a :: b :: r)=a :: s:=⟨_,rfl⟩
theorem ZfX {f g:Pt->Pt->Nat} (hs: ∀ u v,Wg u v->cc f (seg u v ++ [v])=g u v) {a:Pt} {r:List Pt} (hr:r≠[]) (h:Wgs (a :: r ++ [a])):cyc f (lrd (a :: r))=cyc g (a :: r):=by
 have k:=(Zi3 hs (a :: r) a h).1
 have e:lrd (a :: r)=Zap (a :: r ++ [a]):=by simp[lrd]
 obtain ⟨b,r',rfl⟩:=List.exists_cons_of_ne_nil hr
 obtain ⟨s,hs'⟩:=Zfd (a:=a) (b:=b) (r:=r' ++ [a])
 have e2:lrd (a :: b :: r')=a :: s:=by rw[e];simpa using hs'
 rw[e2,ZaL,ZaL]
 have:a :: (s ++ [a])=Zap (a :: b :: r' ++ [a]) ++ [a]:=by rw[<- e,e2];simp
 rw[this,k]
 simp
theorem Zs2 {rs:List Pt} (hl:rs≠[]) (h:cyc nx1 rs=0) (i:Int):X (cy rs i) (cy rs (i + 1))=1:=by
 have l0:rs.length≠0:=fun z=>hl (List.length_eq_zero_iff.mp z)
 refine Zdq (P:=fun a b=>X a b=1) l0 ?_ i
 intro i h0 h1
 obtain ⟨k,rfl⟩:=Int.eq_ofNat_of_zero_le h0
 have hk:k < rs.length:=by omega
 obtain ⟨L,a,R,e,hL⟩: ∃ L a R,rs=L ++ a :: R/\L.length=k:=⟨rs.take k,rs[k],rs.drop (k + 1),by rw[List.getElem_cons_drop,List.take_append_drop],by simp;omega⟩
 have ca:cy rs k=a:=by rw[e,<- hL];exact ZiS
 have z: ∀ b R',rs ++ rs.take 1=L ++ a :: b :: R'->X a b=1:=by
  intro b R' e2
  unfold cyc at h
  rw[e2] at h
  have:=Zqa (f:=nx1) (L:=L) (a:=a) (b:=b) (R:=R')
  have n0:nx1 a b=0:=by omega
  unfold nx1 at n0
  split at n0
  ·assumption
  ·omega
 rw[ca]
 cases R with
 |cons b R=>
  have cb:cy rs (k + 1)=b:=by rw[e,<- hL];exact ZmR
  rw[show ((k:Nat):Int) + 1=(k:Int) + 1 from rfl,cb]
  exact z b (R ++ rs.take 1) (by rw[e];simp)
 |nil=>
  obtain ⟨c,t,ht⟩:=List.exists_cons_of_ne_nil hl
  have cb:cy rs (k + 1)=c:=by
   have lt:=congrArg List.length ht
   have le:=congrArg List.length e
   simp at lt le
   have:=ZfU (r:=t) (a:=c)
   rw[ht]
   rw[show ((k:Nat):Int) + 1=(t.length:Int) + 1 by omega]
   exact this
  rw[cb]
  refine z c [] ?_
  have:rs.take 1=[c]:=by rw[ht];rfl
  rw[this,e]
  simp
theorem Zm1 {a:Pt} {r:List Pt} (h2:2<=r.length) (h:Wgs (a :: r ++ [a])) (hF:Fan (a :: r)):Smo (lrd (a :: r)):=by
 have hr:r≠[]:=by intro z;rw[z] at h2;simp at h2
 have ll:=ZgF (a :: r ++ [a])
 have e:lrd (a :: r)=Zap (a :: r ++ [a]):=by simp[lrd]
 have l3:3<=(lrd (a :: r)).length:=by rw[e];simp at ll ⊢;omega
 have ne:lrd (a :: r)≠[]:=by intro z;rw[z] at l3;simp at l3
 refine ⟨l3,?_,?_⟩
 ·refine Zs2 ne ?_
  rw[ZfX (f:=nx1) (g:=fun _ _=>0) (fun u v w=>Zm0 w) hr h]
  have: ∀ L:List Pt,cc (fun _ _=>0) L=0:=by
   intro L
   induction L with
   |nil=>rfl
   |cons x L ih=>
    cases L with
    |nil=>rfl
    |cons y L=>simp only[cc,ih]
  unfold cyc
  exact this _
 ·intro w hw
  rw[ZfX (fun u v z=>Zlj Zvy z) hr h,ZfX (fun u v z=>Zlj Zvz z) hr h]
  exact hF w hw
theorem Zqi {f:Pt}: ∀ (r:List Pt) (a b:Pt),Cv (a :: b :: r)->(∀ x∈a :: b :: r,0<=dt f x)->dt f a < dt f b-> ∀ x∈r,dt f b < dt f x
 | [],_,_,_,_,_=>by simp
 |d :: r,a,b,h,hp,hl=>by
  obtain ⟨k,k2,e1,e2⟩:=h.1
  have eq:dt f a + dt f d=k * dt f b:=by
   unfold dt
   have:f.1 * a.1 + f.2 * a.2 + (f.1 * d.1 + f.2 * d.2)=f.1 * (a.1 + d.1) + f.2 * (a.2 + d.2):=by grind
   rw[this,e1,e2]
   grind
  have h0:=hp b (by simp)
  have:2 * dt f b<=k * dt f b:=Int.mul_le_mul_of_nonneg_right k2 h0
  have lt:dt f b < dt f d:=by omega
  intro x hx
  rcases List.mem_cons.mp hx with rfl | hx
  ·exact lt
  ·have:=Zqi r b d h.2 (fun y hy=>hp y (by simp[hy])) lt x hx
   omega
theorem Zqj {f:Pt} {c:Int}: ∀ (l:List Pt) (a z:Pt),Cv (a :: (l ++ [z]))->(∀ x∈a :: (l ++ [z]),0<=dt f x)->dt f a<=c->dt f z<=c-> ∀ x∈l,dt f x<=c
 | [],_,_,_,_,_,_=>by simp
 |b :: l,a,z,h,hp,ha,hz=>by
  by_cases k:dt f b<=c
  ·intro x hx
   rcases List.mem_cons.mp hx with rfl | hx
   ·exact k
   ·refine Zqj l b z ?_ (fun y hy=>hp y (by simp at hy ⊢;simp[hy])) k hz x hx
    cases l with
    |nil=>exact h.2
    |cons d l=>exact h.2
  ·have:=Zqi (l ++ [z]) a b h (fun y hy=>hp y (by simpa using hy)) (by omega) z (by simp)
   omega
theorem Zm2 {u v w:Pt} (h:Wg u v) (hw:Fb u v w) {B:Int} (hB:0<=B) (hu:Bd B u) (hv:Bd B v): ∀ x∈btw u w (hj (X u v) (X w v)),Bd B x:=by
 intro x hx
 have a1:=fun x hx=>Zs0 _ _ _ u w v rfl hw.lo hw.hi rfl rfl x hx
 have uu:X u u=0:=by unfold X;grind
 have vv:X v v=0:=by unfold X;grind
 have a2:=(Zs1 (u:=u) _ _ _ u w v rfl hw.lo hw.hi hw.one rfl rfl h.gv (by omega) (by have:=hw.one;omega)).2
 have cv:=(Zlh _ _ _ u w v rfl hw.lo hw.hi hw.one rfl rfl h.gv).1
 have hp:=h.pos
 have df: ∀ y:Pt,dt (v.2 - u.2,u.1 - v.1) y=X y v + X u y:=by intro y;unfold dt X;simp only;grind
 have le:=Zqj (f:=(v.2 - u.2,u.1 - v.1)) (c:=X u v) _ u v cv (by
  intro y hy
  rw[df]
  rcases List.mem_cons.mp hy with rfl | hy
  ·omega
  ·rcases List.mem_append.mp hy with hy | hy
   ·have:=a1 y hy;have:=a2 y hy;omega
   ·simp at hy;subst hy;omega) (by rw[df];omega) (by rw[df];omega) x hx
 rw[df] at le
 have b1:=a1 x hx
 have b2:=a2 x hx
 have e1:X u v * x.1=X x v * u.1 + X u x * v.1:=by unfold X;grind
 have e2:X u v * x.2=X x v * u.2 + X u x * v.2:=by unfold X;grind
 have mb: ∀ y z:Int,-B<=y->y<=B-> -B<=z->z<=B-> -(X u v * B)<=X x v * y + X u x * z/\X x v * y + X u x * z<=X u v * B:=by
  intro y z y0 y1 z0 z1
  have q1:X x v * y<=X x v * B:=Int.mul_le_mul_of_nonneg_left y1 b1.1
  have q2:X u x * z<=X u x * B:=Int.mul_le_mul_of_nonneg_left z1 b2.1
  have q3:X x v * -B<=X x v * y:=Int.mul_le_mul_of_nonneg_left y0 b1.1
  have q4:X u x * -B<=X u x * z:=Int.mul_le_mul_of_nonneg_left z0 b2.1
  have q5:(X x v + X u x) * B<=X u v * B:=Int.mul_le_mul_of_nonneg_right le hB
  rw[Int.add_mul] at q5
  rw[Int.mul_neg] at q3 q4
  omega
 have fin: ∀ y:Int,-(X u v * B)<=X u v * y->X u v * y<=X u v * B-> -B<=y/\y<=B:=by
  intro y h1 h2
  refine ⟨?_,Int.le_of_mul_le_mul_left h2 hp⟩
  rw[<- Int.mul_neg] at h1
  exact Int.le_of_mul_le_mul_left h1 hp
 obtain ⟨⟨u1,u2⟩,u3,u4⟩:=hu
 obtain ⟨⟨v1,v2⟩,v3,v4⟩:=hv
 have m1:=mb u.1 v.1 u1 u2 v1 v2
 have m2:=mb u.2 v.2 u3 u4 v3 v4
 rw[<- e1] at m1
 rw[<- e2] at m2
 exact ⟨fin _ m1.1 m1.2,fin _ m2.1 m2.2⟩
theorem ZfY {B:Int} (hB:0<=B): ∀ (L:List Pt),Wgs L->(∀ x∈L,Bd B x)-> ∀ x∈Zap L,Bd B x
 | [],_,_=>by simp[Zap]
 | [_],_,_=>by simp[Zap]
 |a :: b :: r,h,hb=>by
  intro x hx
  simp only[Zap,seg] at hx
  rcases List.mem_append.mp hx with hx | hx
  ·rcases List.mem_cons.mp hx with rfl | hx
   ·exact hb x (by simp)
   ·exact Zm2 h.1 (Zci h.1) hB (hb a (by simp)) (hb b (by simp)) x hx
  ·exact ZfY hB (b :: r) h.2 (fun y hy=>hb y (by simp at hy ⊢;simp[hy])) x hx
end CB
end
section
namespace CL
open PySem PySem.Spec L2 DL
open CC (F_following)
open CB (F_between)
noncomputable def ZaI:Sv:=(ZK (ZeT (Zjw mApp (Zh 1) (Zc (Zh 3) aNil)))
 (ZeT (Zjw mExt (Zh 1) (Zc (Zl F_between (Zc (Zh 3) (Zc (Zl F_following (Zc (Zh 0) (Zc (Zh 2) aNil))) aNil))) aNil))))
noncomputable def Zbs:Sv:=(ZK (ZQ (gNm 1) (ZcN aNil))
 (ZK (ZfK (gTp (gCs (gNm 2) (gCs (gNm 3) gNl))) (iEn (Zc (Zh 0) aNil)) ZaI)
 (Zar (Zh 1))))
noncomputable def F_least_round:List D->Sto->Out D:=fnF Zbs 1 3
end CL
end
section
namespace CL
open PySem PySem.Spec L2 DL
open CV CB
theorem Zdx: ∀ (L:List Pt) (a b:Pt),Zap (L ++ [a,b])=Zap (L ++ [a]) ++ seg a b
 | [],a,b=>by simp[Zap]
 | [x],a,b=>by simp[Zap]
 |x :: y :: L,a,b=>by
  have:=Zdx (y :: L) a b
  simp only[List.cons_append,Zap,List.append_assoc] at this ⊢
  rw[this]
theorem Zi4: ∀ (L:List Pt) {a b:Pt} {R:List Pt},Wgs (L ++ a :: b :: R)->Wg a b
 | [],_,_,_,h=>h.1
 | [x],_,_,_,h=>h.2.1
 |x :: y :: L,_,_,_,h=>Zi4 (y :: L) h.2
theorem Zi5 {u v:Pt} (h:Wg u v) (hl:X u v<=90000):(seg u v).length<=90001:=by
 have k:=Zci h
 unfold seg
 rw[List.length_cons,Zi0]
 have:=Zlg _ (X u v) (X (fbv u v) v) rfl
 have:=k.hi
 have:=k.lo
 omega
theorem ZfZ: ∀ (L:List Pt),Wgs L->(∀ A a b R,L=A ++ a :: b :: R->X a b<=90000)->(Zap L).length<=90001 * L.length
 | [],_,_=>by simp[Zap]
 | [_],_,_=>by simp[Zap]
 |a :: b :: r,h,hx=>by
  have i:=ZfZ (b :: r) h.2 fun A x y R e=>hx (a :: A) x y R (by rw[e];rfl)
  have s:=Zi5 h.1 (hx [] a b r rfl)
  simp only[Zap,List.length_append,List.length_cons] at *
  omega
section
variable {Q:D->Sto->Prop} {E:Str->Sto->Prop} {M:Sto} {n:Nat}
theorem Zi6 {rs:List Pt} (h:M[n]?=some (.lst (prs rs))) (hne:rs≠[]) (hw:Wgs (rs ++ rs.take 1)) (hl:rs.length<=61) (hx: ∀ x∈rs,Bd 200 x) (q: ∀ M',Kp M M'->M'[M.length]?=some (.lst (prs (lrd rs)))->Q (.ref M.length) M'):wO (F_least_round [.ref n] M) Q E:=by
 have hn:=ZB h
 have l0:0 < rs.length:=List.length_pos_iff.mpr hne
 have xl: ∀ A x y R,rs ++ rs.take 1=A ++ x :: y :: R->X x y<=90000:=by
  intro A x y R e
  have m: ∀ z∈rs ++ rs.take 1,Bd 200 z:=fun z hz=>by
   rcases List.mem_append.mp hz with hz | hz
   ·exact hx z hz
   ·exact hx z (List.mem_of_mem_take hz)
  have:=Zug (m x (by rw[e];simp)) (m y (by rw[e];simp))
  omega
 have ga: ∀ i:Nat,i<=rs.length->(rs ++ rs.take 1)[i]?=some (cy rs i):=by
  intro i hi
  by_cases c:i < rs.length
  ·rw[List.getElem?_append_left c,Zbc (by omega),Zbo (by omega),List.getElem?_eq_getElem c]
   simp
  ·have:i=rs.length:=by omega
   subst this
   rw[List.getElem?_append_right (Nat.le_refl _),Nat.sub_self,<- Zdo,Int.sub_self,Zbc (by omega),Zbo (by omega)]
   rw[List.getElem?_take_of_lt (by decide),List.getElem?_eq_getElem (by omega)]
   simp
 have lch:(rs ++ rs.take 1).length=rs.length + 1:=by simp;omega
 have e:lrd rs=Zap (rs ++ rs.take 1):=rfl
 rw[e] at q
 generalize rs ++ rs.take 1=ch at *
 have cut: ∀ i:Nat,i < rs.length->ch.take (i + 2)=ch.take i ++ [cy rs i,cy rs (i + 1)]/\ch.take (i + 1)=ch.take i ++ [cy rs i]:=by
  intro i hi
  have g1:=ga i (by omega)
  have g2:=ga (i + 1) (by omega)
  constructor
  ·rw[List.take_add_one,List.take_add_one,g1,g2]
   simp
  ·rw[List.take_add_one,g1]
   simp
 simp![F_least_round,Zbs]
 have K1:Kp M (M ++ [SO.lst []]):=Kp.app
 have r1:(M ++ [SO.lst []])[M.length]?=some (.lst (prs (Zap (ch.take (0 + 1))))):=by
  rw[Zer]
  obtain ⟨c,cs,rfl⟩:=List.exists_cons_of_ne_nil (show ch≠[] by intro z;rw[z] at lch;simp at lch)
  simp[Zap,prs]
 generalize M ++ [SO.lst []]=M1 at *
 have h1:=K1.get h
 refine ZiQ (fun i ρ M'=>(∃ x2 x3,ρ=[some (.ref n),some (.ref M.length),x2,x3])/\Kp M M'/\M'[M.length]?=some (.lst (prs (Zap (ch.take (i + 1)))))) h1 ⟨⟨_,_,rfl⟩,K1,r1⟩ (fun i ρ M' hI=>hI.2.1.get h) ?_ ?_
 ·rintro i ρ M2 hi ⟨⟨x2,x3,rfl⟩,K2,r2⟩
  rw[CC.ZaH hi]
  rw[Zz] at hi
  obtain ⟨c1,c2⟩:=cut i hi
  have hch:ch=ch.take i ++ cy rs i :: cy rs (i + 1) :: ch.drop (i + 2):=by
   have:=List.take_append_drop (i + 2) ch
   rw[c1] at this
   simpa using this.symm
  have hW:Wg (cy rs i) (cy rs (i + 1)):=Zi4 (ch.take i) (R:=ch.drop (i + 2)) (by rw[<- hch];exact hw)
  have hX:X (cy rs i) (cy rs (i + 1))<=90000:=xl (ch.take i) _ _ (ch.drop (i + 2)) hch
  have sl:(Zap (ch.take (i + 1))).length<=90001 * 62:=by
   have w1:Wgs (ch.take (i + 1)):=by
    have: ∀ (L R:List Pt),Wgs (L ++ R)->Wgs L:=by
     intro L
     induction L with
     |nil=>intro R _;exact trivial
     |cons x L ih=>
      intro R h
      cases L with
      |nil=>exact trivial
      |cons y L=>exact ⟨h.1,ih R h.2⟩
    exact this _ (ch.drop (i + 1)) (by rw[List.take_append_drop];exact hw)
   have:=ZfZ _ w1 (fun A x y R e=>xl A x y (R ++ ch.drop (i + 1)) (by
    have t:=List.take_append_drop (i + 1) ch
    rw[e] at t
    exact t.symm.trans (by simp)))
   have l2:(ch.take (i + 1)).length<=62:=by rw[List.length_take];omega
   have:=Nat.mul_le_mul_left 90001 l2
   omega
  have lr2:=ZB r2
  have fol: ∀ {Q:D->Sto->Prop} {M':Sto},M'[n]?=some (.lst (prs rs))->wO (CC.F_following [.ref n,.int i] M') Q E=Q (pr (cy rs (i + 1)).1 (cy rs (i + 1)).2) M':=fun h'=>CC.Zbp h' (by omega)
  generalize hsg:Zap (ch.take (i + 1))=sg at *
  simp![ZaI,r2,Zz]
  refine ⟨by omega,?_⟩
  have K3:Kp M (M2.set M.length (SO.lst (prs (sg ++ [((cy rs i).1,(cy rs i).2)])))):=K2.set (Nat.le_refl _)
  have r3:(M2.set M.length (SO.lst (prs (sg ++ [((cy rs i).1,(cy rs i).2)]))))[M.length]?=some (.lst (prs (sg ++ [((cy rs i).1,(cy rs i).2)]))):=List.getElem?_set_self lr2
  generalize M2.set M.length (SO.lst (prs (sg ++ [((cy rs i).1,(cy rs i).2)])))=M3 at *
  have lr3:=ZB r3
  rw[fol (K3.get h)]
  simp![Zo]
  refine Zi1 hW (Zci hW) hX ?_
  have bl:(btw (cy rs i) (fbv (cy rs i) (cy rs (i + 1))) (hj (X (cy rs i) (cy rs (i + 1))) (X (fbv (cy rs i) (cy rs (i + 1))) (cy rs (i + 1))))).length<=90001:=by
   have:=Zi5 hW hX
   unfold seg at this
   rw[List.length_cons] at this
   omega
  simp![r3,Zz]
  refine ⟨by omega,⟨_,_,rfl⟩,(K3.trans Kp.app).set (Nat.le_refl _),?_⟩
  rw[List.getElem?_set_self (by simp;omega),show i + 1 + 1=i + 2 from rfl,c1,Zdx,<- c2,hsg]
  simp[seg]
 ·rintro ρ M2 ⟨⟨x2,x3,rfl⟩,K2,r2⟩
  simp![Zo]
  rw[Zz,List.take_of_length_le (by omega)] at r2
  exact q _ K2 r2
end
end CL
end
section
namespace TW
open DL
noncomputable def nx (b:Int) (p q:Pt):Pt:=(0 - b * q.1 - p.1,0 - b * q.2 - p.2)
noncomputable def ng (p:Pt):Pt:=(0 - p.1,0 - p.2)
noncomputable def run (p q:Pt):List Int->Pt × Pt
 | []=>(p,q)
 |b :: bs=>run q (nx b p q) bs
noncomputable def ew (p q:Pt):Nat:=in1 (1,0) p q + in1 (-1,0) p q
noncomputable def st (a:Pt):Int:=if 0 < a.2\/(a.2=0/\a.1 < 0) then 1 else 0
end TW
end
section
namespace TW
open DL
section
variable {rs:List Pt}
noncomputable def ZvA (rs:List Pt):Int->Nat->List Int
 |_,0=>[]
 |i,k + 1=>T rs (i + 1) :: ZvA rs (i + 1) k
noncomputable def sf (f:Pt->Pt->Nat) (rs:List Pt):Int->Nat->Nat
 |_,0=>0
 |i,k + 1=>f (cy rs i) (cy rs (i + 1)) + sf f rs (i + 1) k
theorem Zs3 {f:Pt->Pt->Nat} (hn:rs≠[]): ∀ (k i:Nat),i + k=rs.length->cc f ((rs ++ rs.take 1).drop i)=sf f rs i k:=by
 have l0:0 < rs.length:=List.length_pos_iff.mpr hn
 have ga: ∀ i:Nat,i<=rs.length->(rs ++ rs.take 1)[i]?=some (cy rs i):=by
  intro i hi
  by_cases c:i < rs.length
  ·rw[List.getElem?_append_left c,Zbc (by omega),Zbo (by omega),List.getElem?_eq_getElem c]
   simp
  ·have:i=rs.length:=by omega
   subst this
   rw[List.getElem?_append_right (Nat.le_refl _),Nat.sub_self,<- Zdo,Int.sub_self,Zbc (by omega),Zbo (by omega)]
   rw[List.getElem?_take_of_lt (by decide),List.getElem?_eq_getElem (by omega)]
   simp
 have lch:(rs ++ rs.take 1).length=rs.length + 1:=by simp;omega
 have dr: ∀ i:Nat,i<=rs.length->(rs ++ rs.take 1).drop i=cy rs i :: (rs ++ rs.take 1).drop (i + 1):=by
  intro i hi
  rw[List.drop_eq_getElem_cons (by omega)]
  have:=ga i hi
  rw[List.getElem?_eq_getElem (by omega)] at this
  rw[Option.some.inj this]
 intro k
 induction k with
 |zero=>
  intro i hi
  rw[dr i (by omega),List.drop_eq_nil_of_le (by omega)]
  rfl
 |succ k ih=>
  intro i hi
  have:=ih (i + 1) (by omega)
  rw[dr i (by omega)]
  rw[dr (i + 1) (by omega)] at this ⊢
  rw[cc,this,sf]
  rfl
theorem Zi7 {f:Pt->Pt->Nat} (hn:rs≠[]):cyc f rs=sf f rs 0 rs.length:=by
 have:=Zs3 (f:=f) hn rs.length 0 (by omega)
 exact this
end
end TW
end
section
end
section
namespace CT
open PySem PySem.Spec L2 DL
end CT
end
section
namespace CT
open PySem PySem.Spec L2 DL
open CV TW
noncomputable def rl0 (p q:Pt):List Int->List Pt
 | []=>[]
 |b :: bs=>p :: rl0 q (nx b p q) bs
noncomputable def rl (p q:Pt) (bs:List Int):List Pt:=rl0 p q bs ++ [(run p q bs).1,(run p q bs).2]
noncomputable def Sm (L:List Int):Prop:= ∀ b∈L,-(1152921504606846976)<=b/\b<=1152921504606846976
section
variable {Q:D->Sto->Prop} {E:Str->Sto->Prop} {M:Sto} {n m:Nat} {L:List Int}
noncomputable def Zqk (L:List Int):Prop:= ∀ b∈L,-1000000<=b/\b<=1000000
theorem Zqk.sm (h:Zqk L):Sm L:=fun b hb=>by have:=h b hb;omega
noncomputable def Cl (L:List Int):Prop:=run (1,0) (0,1) L=((1,0),(0,1))
noncomputable instance (L:List Int):Decidable (Cl L):=by unfold Cl;infer_instance
end
end CT
end
section
namespace CT
open PySem PySem.Spec L2 DL
open CV
open TW (nx)
section
variable {Q:D->Sto->Prop} {E:Str->Sto->Prop} {M:Sto} {n m:Nat} {L:List Int}
end
end CT
end
section
namespace DL
open CB (mid Wg Wgs Bd)
section
variable {rs:List Pt} {k:Nat}
theorem Zkz {f:Pt->Pt->Nat} (hl:rs≠[]) (h:cyc f rs=0) (i:Int):f (cy rs i) (cy rs (i + 1))=0:=by
 have l0:rs.length≠0:=fun z=>hl (List.length_eq_zero_iff.mp z)
 refine Zdq (P:=fun a b=>f a b=0) l0 ?_ i
 intro i h0 h1
 rw[TW.Zi7 hl] at h
 have: ∀ (k:Nat) (j:Int),TW.sf f rs j k=0-> ∀ m:Nat,m < k->f (cy rs (j + m)) (cy rs (j + m + 1))=0:=by
  intro k
  induction k with
  |zero=>intro j _ m hm;omega
  |succ k ih=>
   intro j h m hm
   rw[TW.sf] at h
   cases m with
   |zero=>
    rw[show j + ((0:Nat):Int)=j by omega]
    omega
   |succ m=>
    have:=ih (j + 1) (by omega) m (by omega)
    rw[show j + ((m + 1:Nat):Int)=j + 1 + m by omega]
    exact this
 have:=this rs.length 0 h i.toNat (by omega)
 rw[show (0:Int) + (i.toNat:Nat)=i by omega] at this
 exact this
theorem Zf0 {f:Pt->Pt->Nat} (hl:rs≠[]) (h: ∀ i:Int,f (cy rs i) (cy rs (i + 1))=0):cyc f rs=0:=by
 rw[TW.Zi7 hl]
 have: ∀ (k:Nat) (j:Int),TW.sf f rs j k=0:=by
  intro k
  induction k with
  |zero=>intro j;rfl
  |succ k ih=>intro j;rw[TW.sf,h,ih]
 exact this _ _
theorem Zf1 {f:Pt->Pt->Nat} (hk:k < rs.length) (h3:3<=rs.length) (hf:f (cy rs (k - 1)) (cy rs (k + 1))=f (cy rs (k - 1)) (cy rs k) + f (cy rs k) (cy rs (k + 1))):cyc f (del rs k)=cyc f rs:=by
 obtain ⟨L,p,R,e,hl⟩: ∃ L a R,rs=L ++ a :: R/\L.length=k:=⟨rs.take k,rs[k],rs.drop (k + 1),by rw[List.getElem_cons_drop,List.take_append_drop],by simp;omega⟩
 have ed:DL.del rs k=L ++ R:=by
  unfold DL.del
  rw[e,<- hl,List.take_append,List.drop_append,List.take_of_length_le (by omega),List.drop_eq_nil_of_le (by omega)]
  simp
 have lr:(R ++ L).length=rs.length - 1:=by rw[e];simp;omega
 obtain ⟨b,Y,a,hY⟩: ∃ b Y a,R ++ L=b :: (Y ++ [a]):=by
  match hRL:R ++ L,lr with
  | [],lr=>simp at lr;omega
  |b :: r,lr=>
   have:r≠[]:=by intro z;rw[z] at lr;simp at lr;omega
   exact ⟨b,r.dropLast,r.getLast this,by rw[List.dropLast_concat_getLast]⟩
 have er:rs.drop k ++ rs.take k=p :: (R ++ L):=by
  rw[e,<- hl,List.take_append,List.drop_append,List.take_of_length_le (by omega),List.drop_eq_nil_of_le (by omega)]
  simp
 have c0:cy rs k=p:=by rw[e,<- hl];exact ZiS
 have cb:cy rs (k + 1)=b:=by
  have:=ZbD (rs:=rs) (k:=k) (i:=1) (by omega)
  rw[er,hY] at this
  rw[show (k:Int) + 1=1 + k by omega,<- this]
  exact ZmR (L:=[]) (a:=p) (b:=b)
 have ca:cy rs (k - 1)=a:=by
  have:=ZbD (rs:=rs) (k:=k) (i:= -1) (by omega)
  rw[er,hY] at this
  rw[show (k:Int) - 1= -1 + k by omega,<- this,<- Zdn]
  have:=ZiS (L:=p :: b :: Y) (a:=a) (R:=[])
  rw[show (-1:Int) + ((p :: b :: (Y ++ [a])).length:Nat)=((p :: b :: Y).length:Nat) by simp;omega]
  simpa using this
 rw[c0,ca,cb] at hf
 rw[ed,ZmU (p:=p) hY hf,<- e]
noncomputable def nxp (a b:Pt):Nat:=if 0 < X a b then 0 else 1
theorem Zql {a b:Pt} (h:nxp a b=0):0 < X a b:=by
 unfold nxp at h
 split at h
 ·assumption
 ·omega
theorem ZgG {a b:Pt} (h:0 < X a b):nxp a b=0:=by unfold nxp;rw[if_pos h]
structure Rn (rs:List Pt):Prop where
 len:3<=rs.length
 ps:cyc nxp rs=0
 gc: ∀ p∈rs,Int.gcd p.1 p.2=1
 fan:Fan rs
theorem Rn.ne (h:Rn rs):rs≠[]:=by
 intro z
 have:=h.len
 rw[z] at this
 simp at this
theorem Rn.pos (h:Rn rs) (i:Int):0 < X (cy rs i) (cy rs (i + 1)):=Zql (Zkz h.ne h.ps i)
theorem Zs4 {a b:Pt} (h:X a b=1):Int.gcd a.1 a.2=1/\Int.gcd b.1 b.2=1:=by
 unfold X at h
 constructor
 ·have d1:((Int.gcd a.1 a.2:Nat):Int) ∣ a.1 * b.2 - a.2 * b.1:=Int.dvd_sub (Int.dvd_mul_of_dvd_left (Int.gcd_dvd_left _ _)) (Int.dvd_mul_of_dvd_left (Int.gcd_dvd_right _ _))
  rw[h] at d1
  exact Nat.eq_one_of_dvd_one (Int.natCast_dvd_natCast.mp d1)
 ·have d1:((Int.gcd b.1 b.2:Nat):Int) ∣ a.1 * b.2 - a.2 * b.1:=Int.dvd_sub (Int.dvd_mul_of_dvd_right (Int.gcd_dvd_right _ _)) (Int.dvd_mul_of_dvd_right (Int.gcd_dvd_left _ _))
  rw[h] at d1
  exact Nat.eq_one_of_dvd_one (Int.natCast_dvd_natCast.mp d1)
theorem Zlk {p:Pt} (h:p∈rs): ∃ i:Int,p=cy rs i:=by
 obtain ⟨L,R,rfl⟩:=List.append_of_mem h
 exact ⟨L.length,ZiS.symm⟩
theorem Smo.rn (h:Smo rs):Rn rs:=by
 refine ⟨h.len,Zf0 h.ne fun i=>ZgG (by rw[h.one i];decide),fun p hp=> ?_,h.fan⟩
 obtain ⟨i,rfl⟩:=Zlk hp
 exact (Zs4 (h.one i)).1
theorem Rn.del (h:Rn rs) (hk:k < rs.length) (h4:4<=rs.length) (hx:0 < X (cy rs (k - 1)) (cy rs (k + 1))):Rn (DL.del rs k):=by
 have p1:=h.pos (k - 1)
 rw[show (k:Int) - 1 + 1=k by omega] at p1
 have p2:=h.pos k
 refine ⟨by rw[Zdt hk];omega,?_,?_,?_⟩
 ·rw[Zf1 hk (by omega) (by rw[ZgG hx,ZgG p1,ZgG p2])]
  exact h.ps
 ·intro p hp
  unfold DL.del at hp
  rcases List.mem_append.mp hp with hp | hp
  ·exact h.gc p (List.mem_of_mem_take hp)
  ·exact h.gc p (List.mem_of_mem_drop hp)
 ·intro v hv
  rw[Zf1 hk (by omega) (mid p1 p2 hx).1,Zf1 hk (by omega) (mid p1 p2 hx).2]
  exact h.fan v hv
theorem Rn.wgs (h:Rn rs) (hb:Nr 200 rs):Wgs (rs ++ rs.take 1):=by
 have key: ∀ (L:List Pt),(∀ A a b R,L=A ++ a :: b :: R->0 < X a b)->(∀ p∈L,Int.gcd p.1 p.2=1/\Bd 1000 p)->Wgs L:=by
  intro L
  induction L with
  |nil=>intro _ _;exact trivial
  |cons a L ih=>
   intro hp hg
   cases L with
   |nil=>exact trivial
   |cons b L=>
    refine ⟨⟨(hg a (by simp)).1,(hg b (by simp)).1,(hg a (by simp)).2,(hg b (by simp)).2,hp [] a b L rfl⟩,ih (fun A x y R e=>hp (a :: A) x y R (by rw[e];rfl)) fun p hp'=>hg p (by simp at hp' ⊢;simp[hp'])⟩
 refine key _ ?_ ?_
 ·intro A a b R e
  have hz:=h.ps
  unfold cyc at hz
  rw[e] at hz
  have:=Zqa (f:=nxp) (L:=A) (a:=a) (b:=b) (R:=R)
  exact Zql (by omega)
 ·intro p hp
  have hp':p∈rs:=by
   rcases List.mem_append.mp hp with hp | hp
   ·exact hp
   ·exact List.mem_of_mem_take hp
  have:=hb p hp'
  exact ⟨h.gc p hp',by unfold Bd;omega⟩
theorem Rn.least (h:Rn rs) (hb:Nr 200 rs):Smo (CB.lrd rs):=by
 obtain ⟨a,r,rfl⟩:=List.exists_cons_of_ne_nil h.ne
 exact CB.Zm1 (by have:=h.len;simp at this;omega) (by have:=h.wgs hb;simpa using this) h.fan
end
end DL
end
section
end
section
namespace DL
open TW
open CT (rl0 Cl)
section
variable {rs us:List Pt}
theorem Zqm {f:Pt->Pt->Nat}: ∀ (k:Nat) (j:Int) (m:Nat),m < k->f (cy rs (j + m)) (cy rs (j + m + 1))<=sf f rs j k
 |0,_,_,h=>absurd h (Nat.not_lt_zero _)
 |k + 1,j,0,_=>by rw[sf];simp
 |k + 1,j,m + 1,h=>by
  have:=Zqm (f:=f) k (j + 1) m (by omega)
  rw[sf,show j + ((m + 1:Nat):Int)=j + 1 + m by omega]
  omega
theorem Zll {f:Pt->Pt->Nat}: ∀ (k:Nat) (j:Int) (m l:Nat),m < l->l < k->f (cy rs (j + m)) (cy rs (j + m + 1)) + f (cy rs (j + l)) (cy rs (j + l + 1))<=sf f rs j k
 |0,_,_,_,_,h=>absurd h (Nat.not_lt_zero _)
 |k + 1,j,0,l + 1,_,h=>by
  have:=Zqm (f:=f) (rs:=rs) k (j + 1) l (by omega)
  rw[sf,show j + ((l + 1:Nat):Int)=j + 1 + l by omega]
  simp
  omega
 |k + 1,j,m + 1,l + 1,h1,h=>by
  have:=Zll (f:=f) k (j + 1) m l (by omega) (by omega)
  rw[sf,show j + ((m + 1:Nat):Int)=j + 1 + m by omega,show j + ((l + 1:Nat):Int)=j + 1 + l by omega]
  omega
theorem Rn.lt_ne (h:Rn rs) {i j:Nat} (hij:i < j) (hj:j < rs.length):cy rs i≠cy rs j:=by
 intro e
 have p1:=h.pos i
 have p2:=h.pos j
 have w0:cy rs i≠(0,0):=by
  intro z
  rw[z] at p1
  unfold X at p1
  simp at p1
 have:=(h.fan (cy rs i) w0).1
 rw[Zi7 h.ne] at this
 have g:=Zll (f:=in1 (cy rs i)) (rs:=rs) rs.length 0 i j hij hj
 rw[show (0:Int) + i=i by omega,show (0:Int) + j=j by omega] at g
 rw[ZiU (by rw[XX];omega) p1,ZiU (by rw[e,XX];omega) (by rw[e];exact p2)] at g
 omega
theorem Rn.inj (h:Rn rs) {i j:Nat} (hi:i < rs.length) (hj:j < rs.length) (e:cy rs i=cy rs j):i=j:=by
 rcases Nat.lt_trichotomy i j with c | c | c
 ·exact absurd e (h.lt_ne c hj)
 ·exact c
 ·exact absurd e.symm (h.lt_ne c hi)
theorem Zb2:(List.range us.length).map (fun (j:Nat)=>cy us j)=us:=by
 apply List.ext_getElem
 ·simp
 ·intro i h1 h2
  simp[ZcF h2]
noncomputable abbrev sw (p:Pt):Pt:=(p.2,p.1)
theorem Zuh {p q:Pt}:X (sw p) (sw q)= -1 * X p q:=by unfold X sw;simp only;grind
theorem Zm3 (h:Smo rs) (i:Int):cy (rs.drop 1 ++ rs.take 1).reverse i=cy rs (0 - i):=by
 have h3:=h.len
 rw[CA.ZgE (fun z=>by have:=congrArg List.length z;simp at this;omega),ZbD (by omega)]
 congr 1
 simp only[Int.natCast_one,show ((1:Nat):Int)=1 from rfl]
 omega
end
end DL
end
section
namespace CB
open DL
section
variable {u v w:Pt}
noncomputable def kl:List Pt->List Int
 |a :: b :: d :: r=>X a d :: kl (b :: d :: r)
 |_=>[]
theorem Xvv (p:Pt):X p p=0:=by unfold X;grind
theorem Zs5: ∀ (r:List Pt) (a b:Pt) (v:Pt),Ch (a :: b :: r)->Cv (a :: b :: r)->(b :: r).getLast (by simp)=v->0<=X b v/\X b v < X a v
 | [],a,b,v,h,_,e=>by
  have:b=v:=e
  subst this
  rw[Xvv,h.1]
  omega
 |c :: r,a,b,v,h,k,e=>by
  have ih:=Zs5 r b c v h.2 k.2 (by rw[<- e];simp[List.getLast_cons])
  obtain ⟨m,m2,e1,e2⟩:=k.1
  have ex:X a v + X c v=m * X b v:=by unfold X;grind
  have:2 * X b v<=m * X b v:=Int.mul_le_mul_of_nonneg_right m2 (by omega)
  omega
theorem Zm4 {t b k c:Int} (hb:0 < b) (h0:0<=c) (h1:c < b) (e:t + c=k * b): -((-t) / b)=k:=by
 have: -t=c + b * (-k):=by grind
 rw[this,Int.add_mul_ediv_left _ _ (by omega),Int.ediv_eq_zero_of_lt h0 h1]
 omega
theorem only: ∀ (ws:List Pt) (u v w:Pt),Ch (u :: (ws ++ [v]))->Cv (u :: (ws ++ [v]))->Fb u v w->ws=btw u w (hj (X u v) (X w v))/\kl (u :: (ws ++ [v]))=hj (X u v) (X w v)
 | [],u,v,w,h,k,f=>by
  have h1:X u v=1:=h.1
  have l:=f.lo
  have l2:=f.hi
  have w0:X w v=0:=by omega
  rw[w0]
  unfold hj
  rw[dif_neg (by decide)]
  exact ⟨rfl,rfl⟩
 |x :: ws,u,v,w,h,k,f=>by
  have hl:(x :: (ws ++ [v])).getLast (by simp)=v:=by simp[List.getLast_cons]
  have d:=Zs5 (ws ++ [v]) u x v h k hl
  have fx:Fb u v x:=⟨h.1,d.1,d.2⟩
  have ew:=fx.uniq f
  subst ew
  obtain ⟨y,R,eR⟩: ∃ y R,ws ++ [v]=y :: R:=by
   cases ws with
   |nil=>exact ⟨v,[],rfl⟩
   |cons y R=>exact ⟨y,R ++ [v],rfl⟩
  have h':Ch (x :: y :: R):=by rw[<- eR];exact h.2
  have kk:Cv (u :: x :: y :: R):=by rw[<- eR];exact k
  have hl2:(y :: R).getLast (by simp)=v:=by
   have:(ws ++ [v]).getLast (by simp)=v:=by simp
   simpa [eR] using this
  have d2:=Zs5 R x y v h' kk.2 hl2
  obtain ⟨m,m2,e1,e2⟩:=kk.1
  have ex:X u v + X y v=m * X x v:=by unfold X;grind
  have hc:=Zm4 (by omega) d2.1 d2.2 ex
  have ey:(m * x.1 - u.1,m * x.2 - u.2)=y:=by apply Prod.ext<;>simp only<;>omega
  have m3:X u y=m:=by
   have:=h.1
   rw[<- ey]
   unfold X at *
   simp only
   grind
  have fy:Fb x v y:=⟨h'.1,d2.1,d2.2⟩
  have ih:=only ws x v y (by rw[eR];exact h') (by rw[eR];exact kk.2) fy
  have ej:hj (X u v) (X x v)=m :: hj (X x v) (X y v):=by
   rw[hj,dif_pos (by omega),hc]
   congr 2
   omega
  rw[ej]
  constructor
  ·rw[btw,ey,<- ih.1]
  ·show kl (u :: x :: (ws ++ [v]))=_
   rw[eR,kl,m3,<- eR,ih.2]
theorem Zi8: ∀ (L:List Pt) (a b d:Pt),kl (L ++ [a,b,d])=kl (L ++ [a,b]) ++ [X a d]
 | [],a,b,d=>rfl
 | [x],a,b,d=>rfl
 | [x,y],a,b,d=>rfl
 |x :: y :: z :: L,a,b,d=>by
  show X x z :: kl (y :: z :: L ++ [a,b,d])=X x z :: kl (y :: z :: L ++ [a,b]) ++ [X a d]
  rw[Zi8 (y :: z :: L) a b d]
  rfl
theorem Zlm {g:Pt->Pt} (hg: ∀ p q,X (g p) (g q)= -1 * X p q): ∀ L:List Pt,kl (L.map g).reverse=(kl L).reverse
 | []=>rfl
 | [_]=>rfl
 | [_,_]=>rfl
 |a :: b :: d :: r=>by
  have ih:=Zlm hg (b :: d :: r)
  have e:((a :: b :: d :: r).map g).reverse=(r.map g).reverse ++ [g d,g b,g a]:=by simp
  have e2:((b :: d :: r).map g).reverse=(r.map g).reverse ++ [g d,g b]:=by simp
  rw[e,Zi8,<- e2,ih,kl,List.reverse_cons,hg,ZdK]
  congr 2
  omega
theorem Zqn: ∀ (l:List Pt),(∀ L a b R,l=L ++ a :: b :: R->X a b=1)->Ch l
 | [],_=>trivial
 | [_],_=>trivial
 |a :: b :: r,h=>⟨h [] a b r rfl,Zqn (b :: r) fun L x y R e=>h (a :: L) x y R (by rw[e];rfl)⟩
theorem Zm5: ∀ (L:List Pt) {a b:Pt} {R:List Pt},Ch (L ++ a :: b :: R)->X a b=1
 | [],_,_,_,h=>h.1
 | [x],_,_,_,h=>Zm5 [] h.2
 |x :: y :: L,_,_,_,h=>Zm5 (y :: L) h.2
theorem Zqo {g:Pt->Pt} (hg: ∀ p q,X (g p) (g q)= -1 * X p q) {L:List Pt} (h:Ch L):Ch (L.map g).reverse:=by
 refine Zqn _ fun A a b R e=> ?_
 have e':=congrArg List.reverse e
 rw[List.reverse_reverse] at e'
 have e2:(A ++ a :: b :: R).reverse=R.reverse ++ b :: a :: A.reverse:=by simp
 rw[e2] at e'
 obtain ⟨L1,L2,rfl,m1,m2⟩:=List.map_eq_append_iff.mp e'
 obtain ⟨x,L3,rfl,m3,m4⟩:=List.map_eq_cons_iff.mp m2
 obtain ⟨y,L4,rfl,m5,m6⟩:=List.map_eq_cons_iff.mp m4
 have:=Zm5 L1 h
 rw[<- m3,<- m5,hg,ZdK]
 omega
theorem Zln {g:Pt->Pt} (ga: ∀ p q r:Pt,∀ k:Int,p.1 + q.1=k * r.1->p.2 + q.2=k * r.2->(g p).1 + (g q).1=k * (g r).1/\(g p).2 + (g q).2=k * (g r).2): ∀ L:List Pt,Cv L->Cv (L.map g)
 | [],_=>trivial
 | [_],_=>trivial
 | [_,_],_=>trivial
 |a :: b :: d :: r,h=>by
  obtain ⟨k,k2,e1,e2⟩:=h.1
  exact ⟨⟨k,k2,(ga a d b k e1 e2).1,(ga a d b k e1 e2).2⟩,Zln ga (b :: d :: r) h.2⟩
end
end CB
end
section
namespace CD
open PySem PySem.Spec L2 DL
open CB (F_law_take)
open CC (F_ask_smooth)
end CD
end
section
namespace CD
open PySem PySem.Spec L2 DL
open CV
open CB (Bd)
open CA (Tn)
open CR (rt)
section
variable {Q:D->Sto->Prop} {E:Str->Sto->Prop} {M:Sto} {n m p:Nat} {rs:List Pt} {a b c d:Int} {ρ:Ro} {k:Nat} {xs:List D} {tg:Tg} {f:Ev}
theorem Zqp {fr:List Nat} (I:Ro->Prop) (F:Nat->D) (hM:M[n]?=some (.lst xs)) (hl:xs.length < 10000000) (h0:I (roB k fr ρ))
  (st: ∀ (i:Nat) (h:i < xs.length) (ρ:Ro) (M':Sto),Kp M M'->I ρ->wG (tg xs[i] ρ) fun r=>I r/\wO (f r M') (fun y M2=>y=F i/\Kp M' M2) (fun _ _=>False))
  (hq: ∀ M',Kp M M'->M'[M.length]?=some (.lst ((List.range xs.length).map F))->Q (.ref M.length) M'):
  kCo tg (fun _ M=> .ok true M) f k fr ρ Q (.sto n) M:=by
 refine Zk8 (xs:=xs) (Q:=fun M2=>Q (.ref M.length) M2) (fun i ρ M'=>I ρ/\Kp M M'/\M'[M.length]?=some (.lst ((List.range i).map F))) _ 0 _ _ (by simp) (by rw[ZfQ hM];omega) ⟨h0,Kp.app,by simp⟩ (fun i ρ M' hi hI=>by rw[Zfa];exact hI.2.1.get hM) ?_ (fun ρ M' hI=>hq M' hI.2.1 hI.2.2)
 rintro i ρ M' hi ⟨hI,K,r⟩
 have s:=st i hi ρ M' K hI
 cases e:tg xs[i] ρ with
 |none=>rw[e] at s;exact s.elim
 |some r'=>
  rw[e] at s
  obtain ⟨hr,s⟩:=s
  show Br true _ _
  rw[ZqV]
  refine Zeo s (fun y M2 ⟨h1,h2⟩=> ?_) (fun _ _ z=>z)
  subst h1
  rw[h2.get r]
  have hl2:=ZB (h2.get r)
  refine ⟨by simp;omega,hr,(K.trans h2).set (Nat.le_refl _),?_⟩
  rw[List.getElem?_set_self hl2,List.range_succ,List.map_append]
  rfl
theorem Zfe {L:List Int} (h:L≠[]): ∃ mx,L.max?=some mx/\ ∀ x∈L,x<=mx:=by
 cases e:L.max? with
 |none=>exact absurd (List.max?_eq_none_iff.mp e) h
 |some mx=>exact ⟨mx,rfl,fun x hx=>(List.max?_eq_some_iff.mp e).2 x hx⟩
theorem Zbd: ∀ {L:List Int},ZbR (nts L)=some L
 | []=>rfl
 |x :: L=>by
  have:=Zbd (L:=L)
  show (match ZbR (nts L) with | some ns=>some (x :: ns) | none=>none)=_
  rw[this]
noncomputable abbrev tb (a b c d:Int):SO:= .lst [.int a,.int b,.int c,.int d]
theorem Zlo {B mm:Int} (t:Tn B a b c d) (hm: -7<=mm/\mm<=7):Tn (8 * B) (a + mm * c) (b + mm * d) c d/\Tn (8 * B) a b (c + mm * a) (d + mm * b):=by
 obtain ⟨ta,tb',tc,td,te⟩:=t
 have m1:=CA.Zli (B:=7) hm ta
 have m2:=CA.Zli (B:=7) hm tb'
 have m3:=CA.Zli (B:=7) hm tc
 have m4:=CA.Zli (B:=7) hm td
 have d1:(a + mm * c) * d - (b + mm * d) * c=a * d - b * c:=by grind
 have d2:a * (d + mm * b) - b * (c + mm * a)=a * d - b * c:=by grind
 exact ⟨⟨by omega,by omega,by omega,by omega,by rw[d1];exact te⟩,⟨by omega,by omega,by omega,by omega,by rw[d2];exact te⟩⟩
end
end CD
end
section
namespace CD
open PySem PySem.Spec L2 DL
open CV
open CB (Bd)
open CA (Tn)
open CR (rt)
noncomputable def gg (a b c d:Int) (p:Pt):Pt:=(a * p.1 + b * p.2,c * p.1 + d * p.2)
theorem Zg8 {a b c d:Int} (u v:Pt):X (gg a b c d u) (gg a b c d v)=(a * d - b * c) * X u v:=by unfold X gg;simp only;grind
noncomputable def sg {α:Type} (neg:Bool) (k:Nat) (L:List α):List α:=(if neg then L.reverse else L).drop k ++ (if neg then L.reverse else L).take k
theorem Zff {α:Type} {neg:Bool} {k:Nat} {L:List α}:(sg neg k L).length=L.length:=by
 unfold sg
 rw[List.length_append,List.length_drop,List.length_take]
 cases neg<;>simp<;>omega
section
variable {Q:D->Sto->Prop} {E:Str->Sto->Prop} {M:Sto} {n m p:Nat} {rs:List Pt} {a b c d:Int} {ρ:Ro} {k:Nat} {xs:List D} {tg:Tg} {f:Ev}
end
end CD
end
section
end
section
end
section
end
section
end
section
end
section
end
section
end
section
end
section
end
section
namespace CQ
open PySem PySem.Spec L2 DL
open CB (F_law_take F_law_crossed F_law_short)
noncomputable def Za6:Sv:=(Zar (Zl (ZgZ List.max?) (Zc (Zbx (iSq (Zh 0)) 1 [] (gNm 0) (fun _ M=> .ok true M) (Zl bMax (Zc (Zl bAbs (Zc (e2 dIx (Zh 0) (eC (.int 0))) aNil)) (Zc (Zl bAbs (Zc (e2 dIx (Zh 0) (eC (.int 1))) aNil)) aNil)))) aNil)))
noncomputable def F_law_greatest:List D->Sto->Out D:=fnF Za6 1 0
noncomputable def ZbI:Sv:=(ZK (ZQ (gNm 3) (e2 dMod (e2 dAdd (Zh 1) (Zh 2)) (Zl bLen (Zc (Zh 0) aNil))))
 (ZK (ZQ (gNm 4) (e2 dIx (Zh 0) (e2 dMod (e2 dAdd (Zh 3) (eC (.int 1))) (Zl bLen (Zc (Zh 0) aNil)))))
 (ZK (ZQ (gNm 5) (Zaq (Zc (e2 dAdd (e2 dIx (e2 dIx (Zh 0) (Zh 3)) (eC (.int 0))) (e2 dIx (Zh 4) (eC (.int 0)))) (Zc (e2 dAdd (e2 dIx (e2 dIx (Zh 0) (Zh 3)) (eC (.int 1))) (e2 dIx (Zh 4) (eC (.int 1)))) aNil))))
 (sIf (tv (e2 dLt (Zl bMax (Zc (Zl bAbs (Zc (e2 dIx (Zh 5) (eC (.int 0))) aNil)) (Zc (Zl bAbs (Zc (e2 dIx (Zh 5) (eC (.int 1))) aNil)) aNil))) (eC (.int 60)))) (Zar (e2 dAdd (e2 dAdd (eSl (Zh 0) oNo (oSo (e2 dAdd (Zh 3) (eC (.int 1))))) (ZcN (Zc (Zh 5) aNil))) (eSl (Zh 0) (oSo (e2 dAdd (Zh 3) (eC (.int 1)))) oNo))) sNil))))
noncomputable def Zdy:Sv:=(ZK (Zcc (gNm 2) (Zc (Zl bLen (Zc (Zh 0) aNil)) aNil) ZbI)
 (Zar (Zh 0)))
noncomputable def F_law_put:List D->Sto->Out D:=fnF Zdy 2 4
noncomputable def Zbt:Sv:=(ZK (ZQ (gNm 3) (Zbx (iSq (Zh 0)) 2 [1,2] (gTp (gCs (gNm 0) (gCs (gNm 1) gNl))) (fun _ M=> .ok true M) (e2 dIx (ZcN (Zc (Zaq (Zc (e2 dAdd (Zh 0) (e2 dMul (Zh 2) (Zh 1))) (Zc (Zh 1) aNil))) (Zc (Zaq (Zc (Zh 0) (Zc (e2 dAdd (Zh 1) (e2 dMul (Zh 2) (Zh 0))) aNil))) aNil))) (Zh 3))))
 (ZK (sIf (tv (e2 dGt (Zl F_law_greatest (Zc (Zh 3) aNil)) (eC (.int 200)))) (Zar (Zh 0)) sNil)
 (Zar (Zh 3))))
noncomputable def F_law_sheared:List D->Sto->Out D:=fnF Zbt 3 1
noncomputable def ZaV:Sv:=(ZQ (gNm 3) (Zl F_law_put (Zc (Zh 3) (Zc (Zl F_law_take (Zc (Zh 0) (Zc (Zl bLen (Zc (Zh 3) aNil)) aNil))) aNil))))
noncomputable def ZaW:Sv:=(ZK (ZQ (gNm 7) (e2 dSub (Zl F_law_take (Zc (Zh 0) (Zc (Zh 6) aNil))) (e2 dDiv (Zh 6) (eC (.int 2)))))
 (ZQ (gNm 3) (Zl F_law_sheared (Zc (Zh 3) (Zc (Zh 7) (Zc (Zl F_law_take (Zc (Zh 0) (Zc (eC (.int 2)) aNil))) aNil))))))
noncomputable def ZbJ:Sv:=(ZK (ZQ (gNm 2) (Zl F_law_take (Zc (Zh 0) (Zc (eC (.int 7)) aNil))))
 (ZK (ZQ (gNm 3) (e2 dIx (ZcN (Zc (ZcN (Zc (Zaq (Zc (eC (.int 1)) (Zc (eC (.int 0)) aNil))) (Zc (Zaq (Zc (eC (.int 0)) (Zc (eC (.int 1)) aNil))) (Zc (Zaq (Zc (ZfE (eC (.int 1))) (Zc (ZfE (eC (.int 1))) aNil))) aNil)))) (Zc (ZcN (Zc (Zaq (Zc (eC (.int 1)) (Zc (eC (.int 0)) aNil))) (Zc (Zaq (Zc (eC (.int 0)) (Zc (eC (.int 1)) aNil))) (Zc (Zaq (Zc (ZfE (eC (.int 1))) (Zc (e2 dSub (Zh 2) (eC (.int 1))) aNil))) (Zc (Zaq (Zc (eC (.int 0)) (Zc (ZfE (eC (.int 1))) aNil))) aNil))))) aNil))) (Zl bInt (Zc (e2 dGt (Zh 2) (eC (.int 0))) aNil))))
 (ZK (ZQ (gNm 4) (e2 dIx (ZcN (Zc (e2 dAdd (eC (.int 3)) (Zl F_law_take (Zc (Zh 0) (Zc (e2 dSub (Zh 1) (eC (.int 2))) aNil)))) (Zc (Zh 1) aNil))) (Zl bInt (Zc (e2 dEq (Zl F_law_take (Zc (Zh 0) (Zc (eC (.int 6)) aNil))) (eC (.int 3))) aNil))))
 (ZK (Zcc (gNm 5) (Zc (e2 dSub (Zh 4) (Zl bLen (Zc (Zh 3) aNil))) aNil) ZaV)
 (ZK (ZQ (gNm 6) (e2 dIx (ZcN (Zc (eC (.int 3)) (Zc (eC (.int 41)) aNil))) (Zl bInt (Zc (e2 dEq (Zl F_law_take (Zc (Zh 0) (Zc (eC (.int 8)) aNil))) (eC (.int 5))) aNil))))
 (ZK (Zcc (gNm 5) (Zc (Zl F_law_take (Zc (Zh 0) (Zc (eC (.int 4)) aNil))) aNil) ZaW)
 (ZK (sIf (tv (e2 dEq (Zl F_law_take (Zc (Zh 0) (Zc (eC (.int 4)) aNil))) (eC (.int 0)))) (ZQ (gNm 3) (Zbx (iRv (Zc (Zh 3) aNil)) 2 [] (gTp (gCs (gNm 0) (gCs (gNm 1) gNl))) (fun _ M=> .ok true M) (Zaq (Zc (Zh 1) (Zc (Zh 0) aNil))))) sNil)
 (ZK (ZQ (gNm 8) (Zl F_law_take (Zc (Zh 0) (Zc (Zl bLen (Zc (Zh 3) aNil)) aNil))))
 (Zar (e2 dAdd (eSl (Zh 3) (oSo (Zh 8)) oNo) (eSl (Zh 3) oNo (oSo (Zh 8)))))))))))))
noncomputable def F_law_smooth:List D->Sto->Out D:=fnF ZbJ 2 7
noncomputable def Za7:Sv:=(ZK (ZQ (gNm 10) (Zjw mIdx (Zh 2) (Zc (Zh 9) aNil)))
 (ZK (ZQ (gNm 11) (e2 dAdd (eSl (Zh 2) oNo (oSo (Zh 10))) (eSl (Zh 2) (oSo (e2 dAdd (Zh 10) (eC (.int 1)))) oNo)))
 (sIf (ZjS (tv (e2 dGt (Zl bLen (Zc (Zh 11) aNil)) (eC (.int 2)))) (tv (e2 dEq (Zl F_law_take (Zc (Zh 0) (Zc (eC (.int 3)) aNil))) (eC (.int 0))))) (sIf (tv (e2 dGt (Zl F_law_crossed (Zc (e2 dIx (Zh 11) (e2 dSub (Zh 10) (eC (.int 1)))) (Zc (e2 dIx (Zh 11) (e2 dMod (Zh 10) (Zl bLen (Zc (Zh 11) aNil)))) aNil))) (eC (.int 0)))) (ZQ (gNm 2) (Zh 11)) sNil) sNil)))
noncomputable def Zb3:Sv:=(ZK (ZQ (gNm 2) (Zl F_law_smooth (Zc (Zh 0) (Zc (Zh 1) aNil))))
 (ZK (ZQ (gNm 3) (e2 dIx (ZcN (Zc (eC (.int 5)) (Zc (eC (.int 40)) aNil))) (Zl bInt (Zc (e2 dEq (Zl F_law_take (Zc (Zh 0) (Zc (eC (.int 8)) aNil))) (eC (.int 5))) aNil))))
 (ZK (ZQ (gTp (gCs (gNm 4) (gCs (gNm 5) gNl))) (Zaq (Zc (e2 dAdd (eC (.int 1)) (Zl F_law_take (Zc (Zh 0) (Zc (Zh 3) aNil)))) (Zc (e2 dAdd (eC (.int 1)) (Zl F_law_take (Zc (Zh 0) (Zc (eC (.int 5)) aNil)))) aNil))))
 (ZK (ZQ (gNm 6) (e2 dSub (Zl F_law_take (Zc (Zh 0) (Zc (eC (.int 3)) aNil))) (eC (.int 1))))
 (ZK (ZQ (gNm 7) (e2 dMul (e2 dSub (Zl F_law_take (Zc (Zh 0) (Zc (eC (.int 3)) aNil))) (eC (.int 1))) (Zl bInt (Zc (e2 dGt (e2 dMul (Zh 4) (Zh 5)) (eC (.int 1))) aNil))))
 (ZK (ZQ (gNm 8) (Zbx (iSq (Zh 2)) 2 [4,5,6,7] (gTp (gCs (gNm 0) (gCs (gNm 1) gNl))) (fun _ M=> .ok true M) (Zl F_law_short (Zc (Zaq (Zc (e2 dAdd (e2 dMul (Zh 2) (Zh 0)) (e2 dMul (Zh 4) (Zh 1))) (Zc (e2 dAdd (e2 dMul (Zh 5) (Zh 0)) (e2 dMul (Zh 3) (Zh 1))) aNil))) aNil))))
 (ZK (sIf (tv (e2 dLe (Zl F_law_greatest (Zc (Zh 8) aNil)) (eC (.int 200)))) (ZQ (gNm 2) (Zh 8)) sNil)
 (ZK (Zl2 (gNm 9) (Zl bList (Zc (Zh 2) aNil)) Za7)
 (Zar (Zh 2))))))))))
noncomputable def F_law_round:List D->Sto->Out D:=fnF Zb3 2 10
noncomputable def Za8:Sv:=(ZK (ZQ (gNm 3) (e2 dSub (Zl F_law_take (Zc (Zh 0) (Zc (eC (.int 5)) aNil))) (eC (.int 2))))
 (sIf (tv (e2 dEq (Zl F_law_take (Zc (Zh 0) (Zc (eC (.int 2)) aNil))) (eC (.int 0)))) (ZQ (gNm 1) (ZcN (Zc (e2 dAdd (e2 dIx (Zh 1) (eC (.int 0))) (e2 dMul (Zh 3) (e2 dIx (Zh 1) (eC (.int 2))))) (Zc (e2 dAdd (e2 dIx (Zh 1) (eC (.int 1))) (e2 dMul (Zh 3) (e2 dIx (Zh 1) (eC (.int 3))))) (Zc (e2 dIx (Zh 1) (eC (.int 2))) (Zc (e2 dIx (Zh 1) (eC (.int 3))) aNil)))))) (ZQ (gNm 1) (ZcN (Zc (e2 dIx (Zh 1) (eC (.int 0))) (Zc (e2 dIx (Zh 1) (eC (.int 1))) (Zc (e2 dAdd (e2 dIx (Zh 1) (eC (.int 2))) (e2 dMul (Zh 3) (e2 dIx (Zh 1) (eC (.int 0))))) (Zc (e2 dAdd (e2 dIx (Zh 1) (eC (.int 3))) (e2 dMul (Zh 3) (e2 dIx (Zh 1) (eC (.int 1))))) aNil))))))))
noncomputable def Zb4:Sv:=(ZK (ZQ (gNm 1) (ZcN (Zc (eC (.int 1)) (Zc (eC (.int 0)) (Zc (eC (.int 0)) (Zc (eC (.int 1)) aNil))))))
 (ZK (Zcc (gNm 2) (Zc (Zl F_law_take (Zc (Zh 0) (Zc (eC (.int 4)) aNil))) aNil) Za8)
 (ZK (sIf (tv (e2 dEq (Zl F_law_take (Zc (Zh 0) (Zc (eC (.int 2)) aNil))) (eC (.int 0)))) (ZQ (gNm 1) (ZcN (Zc (e2 dIx (Zh 1) (eC (.int 2))) (Zc (e2 dIx (Zh 1) (eC (.int 3))) (Zc (e2 dIx (Zh 1) (eC (.int 0))) (Zc (e2 dIx (Zh 1) (eC (.int 1))) aNil)))))) sNil)
 (Zar (Zh 1)))))
noncomputable def F_law_table:List D->Sto->Out D:=fnF Zb4 1 3
noncomputable def Zcj:Sv:=(Zar (Zaq (Zc (e2 dAdd (e2 dMul (e2 dIx (Zh 0) (eC (.int 0))) (e2 dIx (Zh 1) (eC (.int 0)))) (e2 dMul (e2 dIx (Zh 0) (eC (.int 1))) (e2 dIx (Zh 1) (eC (.int 1))))) (Zc (e2 dAdd (e2 dMul (e2 dIx (Zh 0) (eC (.int 2))) (e2 dIx (Zh 1) (eC (.int 0)))) (e2 dMul (e2 dIx (Zh 0) (eC (.int 3))) (e2 dIx (Zh 1) (eC (.int 1))))) aNil))))
noncomputable def F_law_led:List D->Sto->Out D:=fnF Zcj 2 0
noncomputable def Zct:Sv:=(ZK (ZQ (gNm 2) (Zl F_law_table (Zc (Zh 0) aNil)))
 (ZK (sIf (tv (e2 dGt (Zl F_law_greatest (Zc (Zbx (iSq (Zh 1)) 1 [2] (gNm 0) (fun _ M=> .ok true M) (Zl F_law_led (Zc (Zh 1) (Zc (Zh 0) aNil)))) aNil)) (eC (.int 200)))) (ZQ (gNm 2) (ZcN (Zc (eC (.int 0)) (Zc (eC (.int 1)) (Zc (eC (.int 1)) (Zc (eC (.int 0)) aNil)))))) sNil)
 (ZK (ZQ (gNm 3) (Zbx (iSq (Zh 1)) 1 [2] (gNm 0) (fun _ M=> .ok true M) (Zl F_law_led (Zc (Zh 1) (Zc (Zh 0) aNil)))))
 (ZK (sIf (tv (e2 dLt (e2 dSub (e2 dMul (e2 dIx (Zh 2) (eC (.int 0))) (e2 dIx (Zh 2) (eC (.int 3)))) (e2 dMul (e2 dIx (Zh 2) (eC (.int 1))) (e2 dIx (Zh 2) (eC (.int 2))))) (eC (.int 0)))) (ZQ (gNm 3) (Zl bLR (Zc (Zh 3) aNil))) sNil)
 (ZK (ZQ (gNm 4) (Zl F_law_take (Zc (Zh 0) (Zc (Zl bLen (Zc (Zh 3) aNil)) aNil))))
 (Zar (e2 dAdd (eSl (Zh 3) (oSo (Zh 4)) oNo) (eSl (Zh 3) oNo (oSo (Zh 4))))))))))
noncomputable def F_law_copy:List D->Sto->Out D:=fnF Zct 2 3
end CQ
end
section
namespace CQ
open PySem PySem.Spec L2 DL
open CV
open CB (Bd)
open CA (Tn)
open CD (gg Zg8 sg Zff tb Zqp Zfe Zbd)
section
variable {Q:D->Sto->Prop} {E:Str->Sto->Prop} {M:Sto} {n m p:Nat} {rs:List Pt} {a b c d:Int}
theorem Zcu (h:M[n]?=some (.lst (prs rs))) (ne:rs≠[]) (hl:rs.length<=1000) (q: ∀ mx M',Kp M M'->(∀ b:Int,mx<=b->Nr b rs)->Q (.int mx) M'):wO (F_law_greatest [.ref n] M) Q E:=by
 have hn:=ZB h
 simp![F_law_greatest,Za6]
 refine Zp8 (fun ρ=> ∃ x,ρ=[x]) (fun (i:Nat)=>D.int (max (cy rs i).1.natAbs (cy rs i).2.natAbs:Int)) h (by rw[Zz];omega) ⟨_,rfl⟩ ?_ ?_
 ·rintro i hi ρ L ⟨x,rfl⟩
  rw[CC.ZaH]
  simp![Zo]
  exact ⟨_,rfl⟩
 rw[Zz,ZiR]
 obtain ⟨mx,hmx,hle⟩:=Zfe (L:=(List.range rs.length).map fun (i:Nat)=>(max (cy rs i).1.natAbs (cy rs i).2.natAbs:Int)) (fun z=>by
  have:=congrArg List.length z
  rw[List.length_map,List.length_range] at this
  exact ne (List.eq_nil_of_length_eq_zero this))
 simp![Zbd,hmx]
 refine q _ _ Kp.app fun b hb x hx=> ?_
 obtain ⟨i,hi,rfl⟩:=List.getElem_of_mem hx
 have:=hle _ (List.mem_map.mpr ⟨i,List.mem_range.mpr hi,rfl⟩)
 simp only[ZcF hi] at this
 omega
theorem Zs6 {at':Nat} (h:M[n]?=some (.lst (prs rs))) (hs:Smo rs) (hb:Nr 60 rs) (hl:rs.length<=1000) (ha:at' < rs.length)
  (q: ∀ ss m M',Smo ss->Nr 60 ss->ss.length<=rs.length + 1->(m=n\/M.length<=m)->Kp M M'->M'[m]?=some (.lst (prs ss))->Q (.ref m) M'):wO (F_law_put [.ref n,.int at'] M) Q E:=by
 have hn:=ZB h
 have ne:=hs.ne
 have sl:=hs.len
 simp![F_law_put,Zdy,h]
 refine ⟨by omega,?_⟩
 rw[show ((rs.length:Int)).toNat=rs.length by omega]
 refine Ze6 (fun i ρ M'=>M'=M/\ ∃ x2 x3 x4 x5,ρ=[some (.ref n),some (.int at'),x2,x3,x4,x5]) ⟨rfl,_,_,_,_,rfl⟩ ?_ ?_
 ·rintro k ρ M hk ⟨rfl,x2,x3,x4,x5,rfl⟩
  rw[show (0:Int) + (k:Int)=k by omega]
  obtain ⟨j,hj,jl⟩: ∃ j:Nat,((at':Int) + k) % rs.length=j/\j < rs.length:=by
   have:=ZaG (i:=(at':Int) + k) (m:=rs.length) (by omega)
   exact ⟨_,(Int.toNat_of_nonneg this.2).symm,this.1⟩
  have e1:=ZaG (i:=(j:Int) + 1) (m:=rs.length) (by omega)
  have b1:=Nr.cy hb ne j
  have b2:=Nr.cy hb ne (j + 1)
  simp![ZbI,h,hj,Ze9,ZcE]
  refine brS (fun z=> ?_) (fun z=> ?_)
  ·have le:((j:Int) + 1).toNat=j + 1:=by omega
   simp![h,le]
   refine ⟨by rw[List.length_take];omega,by rw[List.length_take,List.length_drop];omega,?_⟩
   refine q (ins rs j ((cy rs j).1 + (cy rs (j + 1)).1,(cy rs j).2 + (cy rs (j + 1)).2)) _ _ (hs.ins jl) (Nr.ins hb (by simp only;omega)) (by rw[ZfS jl];omega) (.inr (by omega)) Kp.app (by rw[Zkm];simp[ins])
  ·simp![Zo]
   exact ⟨_,_,_,_,rfl⟩
 ·rintro ρ M ⟨rfl,x2,x3,x4,x5,rfl⟩
  simp![Zo]
  exact q rs n M hs hb (by omega) (.inl rfl) Kp.refl h
theorem Zi9 {k w:Int} (h:M[n]?=some (.lst (prs rs))) (hs:Smo rs) (hb:Nr 200 rs) (hl:rs.length<=1000) (hk: -20<=k/\k<=20) (hw:0<=w/\w < 2)
  (q: ∀ ss m M',Smo ss->Nr 200 ss->ss.length=rs.length->(m=n\/M.length<=m)->Kp M M'->M'[m]?=some (.lst (prs ss))->Q (.ref m) M'):wO (F_law_sheared [.ref n,.int k,.int w] M) Q E:=by
 have hn:=ZB h
 have ne:=hs.ne
 have sl:=hs.len
 obtain ⟨f,hf,fX⟩: ∃ f:Pt->Pt,f=(fun p=>if w=0 then (p.1 + k * p.2,p.2) else (p.1,p.2 + k * p.1))/\ ∀ p q,X (f p) (f q)=X p q:=by
  refine ⟨_,rfl,fun p q=> ?_⟩
  unfold X
  split<;>simp only<;>grind
 simp![F_law_sheared,Zbt]
 refine Zqp (fun ρ=> ∃ x y,ρ=[x,y,some (.int k),some (.int w)]) (fun (i:Nat)=>pr (f (cy rs i)).1 (f (cy rs i)).2) h (by rw[Zz];omega) ⟨_,_,rfl⟩ ?_ ?_
 ·rintro i hi ρ M' K ⟨x,y,rfl⟩
  rw[Zz] at hi
  have b1:=Nr.cy hb ne i
  have hw':w=0\/w=1:=by omega
  rw[CC.ZaH]
  rcases hw' with rfl | rfl
  ·simp![Zo]
   rw[hf]
   exact ⟨⟨_,_,rfl⟩,rfl,Kp.app⟩
  ·simp![Zo]
   rw[hf]
   exact ⟨⟨_,_,rfl⟩,rfl,Kp.app⟩
 intro M1 K1 r1
 have en:((List.range (prs rs).length).map fun (i:Nat)=>pr (f (cy rs i)).1 (f (cy rs i)).2)=prs (rs.map f):=by
  rw[Zz]
  conv=>rhs;rw[<- Zb2 (us:=rs)]
  unfold prs
  rw[List.map_map,List.map_map]
  rfl
 rw[en] at r1
 have l1:=ZB r1
 have s1:Smo (rs.map f):=hs.map fX
 simp![Zo]
 refine Zcu r1 s1.ne (by rw[List.length_map];exact hl) fun mx M2 K2 hmx=> ?_
 simp![Zo]
 refine brS (fun z=> ?_) (fun z=> ?_)
 ·simp![Zo]
  exact q rs n M2 hs hb rfl (.inl rfl) (K1.trans K2) ((K1.trans K2).get h)
 ·simp![Zo]
  exact q _ _ M2 s1 (hmx 200 (by omega)) (List.length_map _) (.inr (Nat.le_refl _)) (K1.trans K2) (K2.get r1)
end
end CQ
end
section
namespace CQ
open PySem PySem.Spec L2 DL
open CV
open CB (Bd)
open CA (Tn)
open CD (gg Zg8 sg Zff tb Zqp Zfe Zbd)
section
variable {Q:D->Sto->Prop} {E:Str->Sto->Prop} {M:Sto} {n m p:Nat} {rs:List Pt} {a b c d:Int}
theorem Zs7 {M1:Sto} {f:Int} (f0:0<=f) (f1:f < 7): ∃ p ss,atI [D.ref M1.length,D.ref (M1.length + 1)] (if decide (0 < f)=true then 1 else 0)=some (.ref p)/\Smo ss/\Nr 60 ss/\ss.length<=4/\(M1 ++ [SO.lst [D.tup [D.int 1,D.int 0],D.tup [D.int 0,D.int 1],D.tup [D.int (-1),D.int (-1)]],SO.lst [D.tup [D.int 1,D.int 0],D.tup [D.int 0,D.int 1],D.tup [D.int (-1),D.int (f - 1)],D.tup [D.int 0,D.int (-1)]],SO.lst [D.ref M1.length,D.ref (M1.length + 1)]])[p]?=some (.lst (prs ss))/\M1.length<=p:=by
  by_cases z:0 < f
  ·refine ⟨M1.length + 1,[(1,0),(0,1),(-1,f - 1),(0,-1)],by rw[if_pos (decide_eq_true z)];rfl,CC.Zvx (f - 1),?_,by simp,by rw[Zkm];rfl,by omega⟩
   intro x hx
   simp at hx
   rcases hx with rfl | rfl | rfl | rfl<;>simp<;>omega
  ·refine ⟨M1.length,[(1,0),(0,1),(-1,-1)],by rw[if_neg (by simpa using z)];rfl,CC.ZsX,?_,by simp,by rw[Zer];rfl,by omega⟩
   intro x hx
   simp at hx
   rcases hx with rfl | rfl | rfl<;>simp
theorem swp {rs:List Pt} (hs:Smo rs):Smo (rs.map sw).reverse:=by
 refine CA.ZmY (by rw[List.length_map];exact hs.len) (fun i=> ?_) (hs.fan.flip fun p q=>Zuh)
 rw[Zdp hs.ne,Zdp hs.ne,Zuh,hs.one];rfl
theorem Zqq {B:Int} {rs:List Pt} (hs:Nr B rs):Nr B (rs.map sw).reverse:=by
 intro x hx
 obtain ⟨p,hp,rfl⟩:=List.mem_map.mp (List.mem_reverse.mp hx)
 have:=hs p hp
 unfold sw
 simp only
 omega
theorem ZkA {most:Int} (hm:4<=most/\most<=40) (hb:Bag n M) (q: ∀ ss m M',Smo ss->Nr 200 ss->ss.length<=44->M.length<=m->M'[m]?=some (.lst (prs ss))->Gr n M M'->Q (.ref m) M'):wO (F_law_smooth [.ref n,.int most] M) Q E:=by
 have hn:=hb.lt
 simp![F_law_smooth,ZbJ]
 refine CB.Zad hb (by decide) fun f M1 f0 f1 g1=> ?_
 have hn1:=g1.bag.lt
 have B1:=g1.bag
 simp![Zo]
 obtain ⟨p,ss,hp,s1,s2,s3,s4,s5⟩:=Zs7 (M1:=M1) f0 f1
 have B2:=B1.app [SO.lst [D.tup [D.int 1,D.int 0],D.tup [D.int 0,D.int 1],D.tup [D.int (-1),D.int (-1)]],SO.lst [D.tup [D.int 1,D.int 0],D.tup [D.int 0,D.int 1],D.tup [D.int (-1),D.int (f - 1)],D.tup [D.int 0,D.int (-1)]],SO.lst [D.ref M1.length,D.ref (M1.length + 1)]]
 have G2:Gr n M1 (M1 ++ [SO.lst [D.tup [D.int 1,D.int 0],D.tup [D.int 0,D.int 1],D.tup [D.int (-1),D.int (-1)]],SO.lst [D.tup [D.int 1,D.int 0],D.tup [D.int 0,D.int 1],D.tup [D.int (-1),D.int (f - 1)],D.tup [D.int 0,D.int (-1)]],SO.lst [D.ref M1.length,D.ref (M1.length + 1)]]):=Gr.app B1 _
 generalize M1 ++ [SO.lst [D.tup [D.int 1,D.int 0],D.tup [D.int 0,D.int 1],D.tup [D.int (-1),D.int (-1)]],SO.lst [D.tup [D.int 1,D.int 0],D.tup [D.int 0,D.int 1],D.tup [D.int (-1),D.int (f - 1)],D.tup [D.int 0,D.int (-1)]],SO.lst [D.ref M1.length,D.ref (M1.length + 1)]]=M2 at *
 have gl1:=g1.len
 simp![hp]
 refine CB.Zad B2 (by omega) fun t1 M3 t10 t11 g3=> ?_
 simp![Zo]
 refine CB.Zad (g3.bag.app _) (by decide) fun t2 M4 t20 t21 g4=> ?_
 have k4:=Gr.new g3.bag g4
 have r4:=CA.Gr.up (CA.Gr.up s4 g3 (by omega)) ((Gr.app g3.bag _).trans g4) (by omega)
 have G4:=((g1.trans G2).trans g3).trans ((Gr.app g3.bag _).trans g4)
 obtain ⟨many,hmany,m0⟩: ∃ many:Int,atI [D.int (3 + t1),D.int most] (if decide (t2=3)=true then 1 else 0)=some (.int many)/\(3<=many/\many<=most):=by
  by_cases z:t2=3
  ·exact ⟨most,by rw[if_pos (decide_eq_true z)];rfl,by omega⟩
  ·exact ⟨3 + t1,by rw[if_neg (by simpa using z)];rfl,by omega⟩
 simp![k4,hmany,r4]
 clear k4 hmany hp
 have s1l:=s1.len
 refine ⟨by omega,?_⟩
 obtain ⟨l0,hl0⟩: ∃ l0:Nat,l0=ss.length:=⟨_,rfl⟩
 refine Ze6 (fun i ρ M'=> ∃ ss p x5 x6 x7 x8,ρ=[some (.ref n),some (.int most),some (.int f),some (.ref p),some (.int many),x5,x6,x7,x8]/\Smo ss/\Nr 60 ss/\ss.length<=l0 + i/\M.length<=p/\M'[p]?=some (.lst (prs ss))/\Gr n M M') ⟨ss,p,_,_,_,_,rfl,s1,s2,by omega,by omega,r4,G4⟩ ?_ ?_
 ·rintro i ρ M5 hi ⟨ss,p,x5,x6,x7,x8,rfl,s1,s2,s3,s4,s5,G⟩
  have sl:=s1.len
  have bl:ss.length<=1000:=by omega
  clear hi hl0 m0 s1l t10 t11 t20 t21 f0 f1 r4 G4 hm
  simp![ZaV,s5]
  refine CB.Zad G.bag (by omega) fun t M6 t0 t1 g6=> ?_
  have s6:=CA.Gr.up s5 g6 (by omega)
  have G6:=G.trans g6
  obtain ⟨at',rfl⟩: ∃ k:Nat,t=k:=⟨t.toNat,by omega⟩
  simp![Zo]
  refine Zs6 s6 s1 s2 bl (by omega) fun ss' m M7 u1 u2 u3 u4 K7 r7=> ?_
  simp![Zo]
  have:=G6.len
  exact ⟨ss',m,_,_,_,_,rfl,u1,u2,by omega,by omega,r7,G6.trans (K7.gr G6.bag)⟩
 ·rintro ρ M5 ⟨ss,p,x5,x6,x7,x8,rfl,s1,s2,s3,s4,s5,G⟩
  have s3':ss.length<=44:=by omega
  clear s3 hl0 s1l m0 r4 G4 G2 B2 g1 B1 t10 t11 t20 t21 f0 f1 hm gl1
  simp![Zo]
  refine CB.Zad (G.bag.app _) (by decide) fun t1 M6 t10 t11 g6=> ?_
  have k6:=Gr.new G.bag g6
  have v6:=CA.Gr.up s5 ((Gr.app G.bag _).trans g6) (by omega)
  have G6:=G.trans ((Gr.app G.bag _).trans g6)
  obtain ⟨wd,hwd,w0⟩: ∃ wd:Int,atI [D.int 3,D.int 41] (if decide (t1=5)=true then 1 else 0)=some (.int wd)/\(wd=3\/wd=41):=by
   by_cases z:t1=5
   ·exact ⟨41,by rw[if_pos (decide_eq_true z)];rfl,.inr rfl⟩
   ·exact ⟨3,by rw[if_neg (by simpa using z)];rfl,.inl rfl⟩
  simp![k6,hwd]
  refine CB.Zad G6.bag (by decide) fun t2 M7 t20 t21 g7=> ?_
  have v7:=CA.Gr.up v6 g7 (by omega)
  have G7:=G6.trans g7
  simp![Zo]
  refine ⟨by omega,?_⟩
  refine Ze6 (fun i ρ M'=> ∃ ss p x5 x7 x8,ρ=[some (.ref n),some (.int most),some (.int f),some (.ref p),some (.int many),x5,some (.int wd),x7,x8]/\Smo ss/\Nr 200 ss/\ss.length<=44/\M.length<=p/\M'[p]?=some (.lst (prs ss))/\Gr n M M') ⟨ss,p,_,_,_,rfl,s1,fun x hx=>by have:=s2 x hx;omega,s3',s4,v7,G7⟩ ?_ ?_
  ·clear v7 v6 s5 s1 s2 s3' s4 k6 hwd t20 t21 t10 t11 G7 G6 g7 g6
   rintro i ρ M8 hi ⟨ss,p,x5,x7,x8,rfl,s1,s2,s3,s4,s5,G⟩
   simp![ZaW]
   refine CB.Zad G.bag (by omega) fun t M9 t0 t1 g9=> ?_
   have s9:=CA.Gr.up s5 g9 (by omega)
   have G9:=G.trans g9
   simp![Zo]
   refine CB.Zad G9.bag (by omega) fun w M10 w0 w1 g10=> ?_
   have s10:=CA.Gr.up s9 g10 (by omega)
   have G10:=G9.trans g10
   have hk: -20<=t - wd / 2/\t - wd / 2<=20:=by omega
   generalize t - wd / 2=kk at *
   simp![Zo]
   refine Zi9 s10 s1 s2 (by omega) hk (by omega) fun ss' m M11 u1 u2 u3 u4 K11 r11=> ?_
   simp![Zo]
   have:=G10.len
   exact ⟨ss',m,_,_,_,rfl,u1,u2,by omega,by omega,r11,G10.trans (K11.gr G10.bag)⟩
  ·clear v7 v6 s5 s1 s2 s3' s4 k6 hwd t20 t21 t10 t11 G7 G6 g7 g6 w0
   rintro ρ M8 ⟨ss,p,x5,x7,x8,rfl,s1,s2,s3,s4,s5,G⟩
   simp![Zo]
   refine CB.Zad G.bag (by omega) fun t M9 t0 t1 g9=> ?_
   have s9:=CA.Gr.up s5 g9 (by omega)
   have G9:=G.trans g9
   have h9:=ZB s9
   simp![Zo]
   refine ZpT (fun ρ M'=> ∃ ss p,ρ=[some (.ref n),some (.int most),some (.int f),some (.ref p),some (.int many),x5,some (.int wd),x7,x8]/\Smo ss/\Nr 200 ss/\ss.length<=44/\M.length<=p/\M'[p]?=some (.lst (prs ss))/\Gr n M M') ?_ ?_
   ·refine brS (fun z=> ?_) (fun z=> ?_)
    ·simp![s9]
     have rl:(prs ss).reverse.length=ss.length:=by rw[List.length_reverse,Zz]
     refine ZqX (xs:=(prs ss).reverse) (fun ρ=> ∃ x y,ρ=[x,y]) (fun (i:Nat)=>pr (cy (ss.map sw).reverse i).1 (cy (ss.map sw).reverse i).2) (by omega) (by simp[cnt,Zz]) ⟨_,_,rfl⟩ (fun L i hi=> ?_) ?_ ?_
     ·rw[<- Zz]
      exact ZpH (by rw[ZaK h9];exact s9) (by simpa using hi)
     ·rintro i hi ρ L ⟨x,y,rfl⟩
      rw[rl] at hi
      have e1:(prs ss).reverse=prs ss.reverse:=by unfold prs;rw[List.map_reverse]
      have e2:(ss.map sw).reverse=ss.reverse.map sw:=by rw[List.map_reverse]
      have e3:cy (ss.reverse.map sw) i=sw (cy ss.reverse i):=Zdp (by have:=s1.ne;simpa using this)
      simp only[e1,e2,e3,CC.ZaH]
      simp![Zo]
      exact ⟨_,_,rfl⟩
     have en:((List.range (prs ss).reverse.length).map fun (i:Nat)=>pr (cy (ss.map sw).reverse i).1 (cy (ss.map sw).reverse i).2)=prs (ss.map sw).reverse:=by
      rw[rl]
      conv=>rhs;rw[<- Zb2 (us:=(ss.map sw).reverse)]
      unfold prs
      rw[List.map_map,List.length_reverse,List.length_map]
      rfl
     rw[en]
     simp![Zo]
     have:=G9.len
     exact ⟨_,_,rfl,swp s1,Zqq s2,by rw[List.length_reverse,List.length_map];exact s3,by omega,by simp,G9.app2 _⟩
    ·simp![Zo]
     exact ⟨_,_,rfl,s1,s2,s3,s4,s9,G9⟩
   ·clear s9 h9 G9 g9 s5 s4 s3 s2 s1
    rintro _ M10 ⟨ss,p,rfl,s1,s2,s3,s4,s5,G⟩
    have sl:=s1.len
    simp![s5]
    refine CB.Zad G.bag (by omega) fun t M11 t0 t1 g11=> ?_
    have s11:=CA.Gr.up s5 g11 (by omega)
    have G11:=G.trans g11
    have h11:=ZB s11
    have:=G11.len
    obtain ⟨kk,rfl⟩: ∃ k:Nat,t=k:=⟨t.toNat,by omega⟩
    simp![s11]
    refine ⟨by rw[List.length_take,List.length_drop];omega,?_⟩
    exact q (ss.drop kk ++ ss.take kk) _ _ (s1.rot (by omega)) (Nr.rot s2) (by rw[List.length_append,List.length_drop,List.length_take];omega) (by omega) (by rw[Zkm];simp) (G11.app2 _)
end
end CQ
end
section
namespace CQ
open PySem PySem.Spec L2 DL
open CV
open CB (Bd)
open CA (Tn)
open CD (gg Zg8 sg Zff tb Zqp Zfe Zbd)
noncomputable def shp (p:Pt):Pt:=if Int.gcd p.1 p.2=0 then (1,0) else (p.1 / Int.gcd p.1 p.2,p.2 / Int.gcd p.1 p.2)
theorem Zm6 (p:Pt):Int.gcd (shp p).1 (shp p).2=1:=by
 unfold shp
 split
 ·rfl
 ·exact Int.gcd_ediv_gcd_ediv_gcd (by omega)
theorem Zdz {p:Pt} (h:p≠(0,0)): ∃ g:Int,0 < g/\p=(g * (shp p).1,g * (shp p).2):=by
 have ng:Int.gcd p.1 p.2≠0:=fun z=>h (by
  obtain ⟨h1,h2⟩:=Int.gcd_eq_zero_iff.mp z
  exact Prod.ext h1 h2)
 refine ⟨Int.gcd p.1 p.2,by omega,?_⟩
 unfold shp
 rw[if_neg ng]
 exact Prod.ext (Int.mul_ediv_cancel' (Int.gcd_dvd_left ..)).symm (Int.mul_ediv_cancel' (Int.gcd_dvd_right ..)).symm
theorem ZqY {k y:Int} (hk:0 < k):0 < k * y ↔ 0 < y:=by
 refine ⟨fun h=> ?_,fun h=>Int.mul_pos hk h⟩
 by_cases c:0 < y
 ·exact c
 ·have:=Int.mul_nonneg (a:=k) (b:=0 - y) (by omega) (by omega)
  rw[Int.mul_sub,Int.mul_zero] at this
  omega
theorem Zja {f g:Pt->Pt->Nat}: ∀ {L:List Pt},(∀ a∈L,∀ b∈L,f a b=g a b)->cc f L=cc g L
 | [],_=>rfl
 | [_],_=>rfl
 |a :: b :: r,h=>by
  have ih:=Zja (L:=b :: r) fun x hx y hy=>h x (List.mem_cons_of_mem _ hx) y (List.mem_cons_of_mem _ hy)
  show f a b + cc f (b :: r)=g a b + cc g (b :: r)
  rw[ih,h a (by simp) b (by simp)]
theorem ZcS {f g:Pt->Pt->Nat} {L:List Pt} (h: ∀ a∈L,∀ b∈L,f a b=g a b):cyc f L=cyc g L:=by
 refine Zja fun a ha b hb=>h a ?_ b ?_
 ·rcases List.mem_append.mp ha with ha | ha
  ·exact ha
  ·exact List.mem_of_mem_take ha
 ·rcases List.mem_append.mp hb with hb | hb
  ·exact hb
  ·exact List.mem_of_mem_take hb
theorem Rn.led {rs:List Pt} {a b c d:Int} (h:Rn rs) (hd:0 < a * d - b * c):Rn (rs.map fun p=>shp (gg a b c d p)):=by
 have nz: ∀ p∈rs,gg a b c d p≠(0,0):=fun p hp z=>by
  obtain ⟨i,rfl⟩:=Zlk hp
  have:=h.pos i
  have e:=Zg8 (a:=a) (b:=b) (c:=c) (d:=d) (cy rs i) (cy rs (i + 1))
  rw[z] at e
  have e0:X (0,0) (gg a b c d (cy rs (i + 1)))=0:=by unfold X;simp only;grind
  rw[e0] at e
  have:=Int.mul_pos hd this
  omega
 have xs: ∀ p∈rs,∀ q∈rs,∃ k:Int,0 < k/\k * X (shp (gg a b c d p)) (shp (gg a b c d q))=(a * d - b * c) * X p q:=fun p hp q hq=>by
  obtain ⟨k,hk,ek⟩:=Zdz (nz p hp)
  obtain ⟨l,hl,el⟩:=Zdz (nz q hq)
  refine ⟨k * l,Int.mul_pos hk hl,?_⟩
  rw[<- Zg8]
  generalize shp (gg a b c d p)=u at *
  generalize shp (gg a b c d q)=v at *
  rw[ek,el]
  unfold X
  simp only
  grind
 refine ⟨by rw[List.length_map];exact h.len,?_,?_,?_⟩
 ·rw[ZbF,ZcS (g:=nxp)]
  ·exact h.ps
  ·intro p hp q hq
   obtain ⟨k,hk,e⟩:=xs p hp q hq
   have:(0 < X (shp (gg a b c d p)) (shp (gg a b c d q)))=(0 < X p q):=by
    rw[<- propext (ZqY hk),e,propext (ZqY hd)]
   unfold nxp
   simp only[this]
 ·intro p hp
  obtain ⟨q,-,rfl⟩:=List.mem_map.mp hp
  exact Zm6 _
 ·intro w hw
  have key: ∀ q∈rs,∃ k:Int,0 < k/\k * X (shp (gg a b c d q)) w=X q (d * w.1 - b * w.2,a * w.2 - c * w.1):=fun q hq=>by
   obtain ⟨k,hk,ek⟩:=Zdz (nz q hq)
   refine ⟨k,hk,?_⟩
   generalize shp (gg a b c d q)=u at *
   have e1:=congrArg Prod.fst ek
   have e2:=congrArg Prod.snd ek
   unfold gg at e1 e2
   simp only at e1 e2
   unfold X
   simp only
   grind
  have hw':(d * w.1 - b * w.2,a * w.2 - c * w.1)≠(0,0):=fun z=>hw (by
   have z1:=congrArg Prod.fst z
   have z2:=congrArg Prod.snd z
   simp only at z1 z2
   have f1:(a * d - b * c) * w.1=0:=by grind
   have f2:(a * d - b * c) * w.2=0:=by grind
   have g1:=(Int.mul_eq_zero.mp f1).resolve_left (by omega)
   have g2:=(Int.mul_eq_zero.mp f2).resolve_left (by omega)
   exact Prod.ext g1 g2)
  have hf:=h.fan _ hw'
  generalize (d * w.1 - b * w.2,a * w.2 - c * w.1)=w' at *
  have sg: ∀ q∈rs,(0<=X (shp (gg a b c d q)) w)=(0<=X q w')/\(0 < X (shp (gg a b c d q)) w)=(0 < X q w')/\(0<=X w (shp (gg a b c d q)))=(0<=X w' q)/\(0 < X w (shp (gg a b c d q)))=(0 < X w' q):=fun q hq=>by
   obtain ⟨k,hk,e⟩:=key q hq
   have s1:=ZdK (p:=w) (q:=shp (gg a b c d q))
   have s2:=ZdK (p:=w') (q:=q)
   generalize X (shp (gg a b c d q)) w=y at *
   generalize X q w'=z at *
   rw[s1,s2,<- e]
   refine ⟨propext ⟨fun h=>Int.mul_nonneg (by omega) h,fun h=>Int.nonneg_of_mul_nonneg_right h hk⟩,(propext (ZqY hk)).symm,propext ⟨fun h=> ?_,fun h=> ?_⟩,propext ⟨fun h=> ?_,fun h=> ?_⟩⟩
   ·have:=Int.mul_nonneg (a:=k) (b:=0 - y) (by omega) h
    rw[Int.mul_sub,Int.mul_zero] at this
    exact this
   ·have:0<=k * (0 - y):=by rw[Int.mul_sub,Int.mul_zero];exact h
    exact Int.nonneg_of_mul_nonneg_right this hk
   ·have:=Int.mul_pos (a:=k) (b:=0 - y) hk h
    rw[Int.mul_sub,Int.mul_zero] at this
    exact this
   ·have:0 < k * (0 - y):=by rw[Int.mul_sub,Int.mul_zero];exact h
    exact (ZqY hk).mp this
  have h1:cyc (fun p q=>in1 w (shp (gg a b c d p)) (shp (gg a b c d q))) rs=cyc (in1 w') rs:=ZcS fun p hp q hq=>by
   unfold in1
   simp only[(sg p hp).1,(sg q hq).2.2.2]
  have h2:cyc (fun p q=>in2 w (shp (gg a b c d p)) (shp (gg a b c d q))) rs=cyc (in2 w') rs:=ZcS fun p hp q hq=>by
   unfold in2
   simp only[(sg p hp).2.1,(sg q hq).2.2.1]
  rw[ZbF,ZbF,h1,h2]
  exact hf
section
variable {Q:D->Sto->Prop} {E:Str->Sto->Prop} {M:Sto} {n m p:Nat} {rs:List Pt} {a b c d:Int}
theorem ZkB {x y:Int} (hx: -20000<=x/\x<=20000) (hy: -20000<=y/\y<=20000) (q:Q (pr (shp (x,y)).1 (shp (x,y)).2) M):wO (CB.F_law_short [pr x y] M) Q E:=by
 simp![CB.F_law_short,CB.Zb1]
 refine ZmO (fun k ρ M'=>M'=M/\ ∃ a b:Nat,ρ=[some (pr x y),some (.int a),some (.int b)]/\k=b/\Nat.gcd a b=Int.gcd x y/\a<=20000/\b<=20000) ?_ y.natAbs _ _ ⟨rfl,x.natAbs,y.natAbs,rfl,rfl,rfl,by omega,by omega⟩
 rintro k ρ M ⟨rfl,a,b,rfl,rfl,g,ha,hk'⟩
 simp![Zo]
 refine ZsV (fun h=> ?_) (fun h=> ?_)
 ·simp![CB.Za5]
  have hb:0 < k:=by omega
  have hm:=Nat.mod_lt a hb
  refine ⟨a % k,hm,k,a % k,by rw[Int.natCast_emod],rfl,?_,?_⟩
  ·rw[<- g,Nat.gcd_comm k,<- Nat.gcd_rec,Nat.gcd_comm]
  ·omega
 ·have k0:k=0:=by omega
  subst k0
  rw[Nat.gcd_zero_right] at g
  subst g
  simp![Zo]
  refine brS (fun hz=> ?_) (fun hz=> ?_)
  ·simp![Zo]
   have e:shp (x,y)=(1,0):=by unfold shp;simp only;rw[if_pos (by omega)]
   rw[e] at q
   exact q
  ·simp![Zo]
   have e:shp (x,y)=(x / Int.gcd x y,y / Int.gcd x y):=by unfold shp;simp only;rw[if_neg (by omega)]
   rw[e] at q
   exact q
theorem Zjb {a:Pt}: ∀ {rs:List Pt},eqs M (pr a.1 a.2) (prs rs)=some (rs.map fun x=>decide (x=a))
 | []=>rfl
 |x :: rs=>by
  have:=Zjb (a:=a) (rs:=rs)
  have e:eqF 12 M (pr x.1 x.2) (pr a.1 a.2)=some (decide ((x.1,x.2)=(a.1,a.2))):=Zr7 (n:=10)
  show (match eqF 12 M (pr x.1 x.2) (pr a.1 a.2) with | some b=>(match eqs M (pr a.1 a.2) (prs rs) with | some bs=>some (b :: bs) | none=>none) | none=>none)=_
  rw[e,this]
  rfl
theorem Zm7 {a:Pt} (h:a∈rs): ∃ i:Nat,i < rs.length/\cy rs i=a/\(rs.map fun x=>decide (x=a)).findIdx? id=some i:=by
 rw[List.findIdx?_map]
 have e:(id ∘ fun (x:Pt)=>decide (x=a))=fun x=>decide (x=a):=rfl
 rw[e]
 cases c:rs.findIdx? fun x=>decide (x=a) with
 |none=>
  have:=List.findIdx?_eq_none_iff.mp c a h
  simp at this
 |some i=>
  obtain ⟨hi,h1,-⟩:=List.findIdx?_eq_some_iff_getElem.mp c
  exact ⟨i,hi,by rw[ZcF hi];exact of_decide_eq_true h1,rfl⟩
theorem Zm8 {x:Pt} {k:Nat} (hk:k < rs.length) (hx:x∈rs) (hn:x≠cy rs k):x∈del rs k:=by
 obtain ⟨i,hi,rfl⟩:=List.getElem_of_mem hx
 unfold del
 by_cases c:i < k
 ·exact List.mem_append_left _ (List.mem_take_iff_getElem.mpr ⟨i,by omega,rfl⟩)
 ·have:i≠k:=fun z=>hn (by subst z;rw[ZcF hk])
  exact List.mem_append_right _ (List.mem_drop_iff_getElem.mpr ⟨i - (k + 1),by omega,by congr 1;omega⟩)
theorem Zqr {k:Nat} (hk:k < rs.length) (hl:4<=rs.length):cy (del rs k) (k - 1)=cy rs (k - 1)/\cy (del rs k) k=cy rs (k + 1):=by
 constructor
 ·by_cases c:k=0
  ·subst c
   have:=ZmS hk (by omega)
   rw[if_neg (by omega)] at this
   exact this
  ·rw[ZgD hk (by omega) (by omega),if_pos (by omega)]
 ·by_cases c:k=rs.length - 1
  ·rw[ZmT hk (by omega) (by omega),if_neg (by omega)]
   congr 1
   omega
  ·rw[ZgD hk (by omega) (by omega),if_neg (by omega)]
theorem Zm9 {most:Int} (hm:4<=most/\most<=40) (hb:Bag n M) (q: ∀ ss m M',Rn ss->Nr 200 ss->ss.length<=44->M.length<=m->M'[m]?=some (.lst (prs ss))->Gr n M M'->Q (.ref m) M'):wO (F_law_round [.ref n,.int most] M) Q E:=by
 have hn:=hb.lt
 simp![F_law_round,Zb3]
 refine ZkA hm hb fun ss p M1 s1 s2 s3 s4 s5 G=> ?_
 have sl:=s1.len
 simp![Zo]
 refine CB.Zad (G.bag.app _) (by decide) fun t1 M2 t10 t11 g2=> ?_
 have k2:=Gr.new G.bag g2
 have v2:=CA.Gr.up s5 ((Gr.app G.bag _).trans g2) (by omega)
 have G2:=G.trans ((Gr.app G.bag _).trans g2)
 obtain ⟨wd,hwd,w0⟩: ∃ wd:Int,atI [D.int 5,D.int 40] (if decide (t1=5)=true then 1 else 0)=some (.int wd)/\(wd=5\/wd=40):=by
  by_cases z:t1=5
  ·exact ⟨40,by rw[if_pos (decide_eq_true z)];rfl,.inr rfl⟩
  ·exact ⟨5,by rw[if_neg (by simpa using z)];rfl,.inl rfl⟩
 simp![k2,hwd]
 clear k2 hwd g2
 refine CB.Zad G2.bag (by omega) fun a M3 a0 a1 g3=> ?_
 have v3:=CA.Gr.up v2 g3 (by omega)
 have G3:=G2.trans g3
 simp![Zo]
 refine CB.Zad G3.bag (by omega) fun d M4 d0 d1 g4=> ?_
 have v4:=CA.Gr.up v3 g4 (by omega)
 have G4:=G3.trans g4
 simp![Zo]
 refine CB.Zad G4.bag (by omega) fun b M5 b0 b1 g5=> ?_
 have v5:=CA.Gr.up v4 g5 (by omega)
 have G5:=G4.trans g5
 simp![Zo]
 refine CB.Zad G5.bag (by omega) fun c M6 c0 c1 g6=> ?_
 have v6:=CA.Gr.up v5 g6 (by omega)
 have G6:=G5.trans g6
 clear v2 v3 v4 v5 G2 G3 G4 G5 g3 g4 g5 g6
 obtain ⟨a',ha⟩: ∃ a',1 + a=a':=⟨_,rfl⟩
 obtain ⟨d',hd⟩: ∃ d',1 + d=d':=⟨_,rfl⟩
 obtain ⟨b',hb'⟩: ∃ b',b - 1=b':=⟨_,rfl⟩
 rw[ha,hd,hb']
 simp![Zo]
 obtain ⟨c',hc,hc1,det⟩: ∃ c',((c - 1) * if decide (1 < a' * d')=true then (1:Int) else 0)=c'/\(-1<=c'/\c'<=1)/\0 < a' * d' - b' * c':=by
  by_cases z:1 < a' * d'
  ·refine ⟨c - 1,by rw[if_pos (decide_eq_true z),Int.mul_one],by omega,?_⟩
   have:b'= -1\/b'=0\/b'=1:=by omega
   rcases this with e | e | e<;>rw[e]<;>omega
  ·refine ⟨0,by rw[if_neg (by simpa using z),Int.mul_zero],by omega,?_⟩
   have:=Int.mul_pos (a:=a') (b:=d') (by omega) (by omega)
   omega
 rw[hc]
 clear hc
 have a2:1<=a'/\a'<=40:=by omega
 have d2:1<=d'/\d'<=5:=by omega
 have b2: -1<=b'/\b'<=1:=by omega
 clear ha hd hb' a0 a1 b0 b1 c0 c1 d0 d1 t10 t11
 have ne:=s1.ne
 have h6:=ZB v6
 refine Zp8 (fun ρ=> ∃ x y,ρ=[x,y,some (.int a'),some (.int d'),some (.int b'),some (.int c')]) (fun (i:Nat)=>pr (shp (gg a' b' c' d' (cy ss i))).1 (shp (gg a' b' c' d' (cy ss i))).2) v6 (by rw[Zz];omega) ⟨_,_,rfl⟩ ?_ ?_
 ·rintro i hi ρ L ⟨x,y,rfl⟩
  rw[Zz] at hi
  rw[CC.ZaH]
  have bb:=Nr.cy s2 ne i
  generalize cy ss i=pt at *
  have m1:=CA.Zli (x:=a') (B:=40) (by omega) bb.1
  have m2:=CA.Zli (x:=b') (B:=1) (by omega) bb.2
  have m3:=CA.Zli (x:=c') (B:=1) (by omega) bb.1
  have m4:=CA.Zli (x:=d') (B:=5) (by omega) bb.2
  simp![Zo]
  refine ⟨⟨_,_,rfl⟩,ZkB (by omega) (by omega) ⟨rfl,rfl⟩⟩
 have en:((List.range (prs ss).length).map fun (i:Nat)=>pr (shp (gg a' b' c' d' (cy ss i))).1 (shp (gg a' b' c' d' (cy ss i))).2)=prs (ss.map fun p=>shp (gg a' b' c' d' p)):=by
  rw[Zz]
  conv=>rhs;rw[<- Zb2 (us:=ss)]
  unfold prs
  rw[List.map_map,List.map_map]
  rfl
 rw[en]
 have rn:=Rn.led s1.rn det
 have ml:(ss.map fun p=>shp (gg a' b' c' d' p)).length=ss.length:=List.length_map _
 generalize (ss.map fun p=>shp (gg a' b' c' d' p))=us at *
 clear en det a2 d2 b2 hc1 w0 hm
 have r7:(M6 ++ [SO.lst (prs us)])[M6.length]?=some (.lst (prs us)):=by simp
 have v7:(M6 ++ [SO.lst (prs us)])[p]?=some (.lst (prs ss)):=by rw[ZaK h6];exact v6
 have G7:Gr n M (M6 ++ [SO.lst (prs us)]):=G6.app2 _
 generalize M6 ++ [SO.lst (prs us)]=M7 at *
 have gl:=G6.len
 simp![Zo]
 refine Zcu r7 rn.ne (by omega) fun mx M8 K8 hmx=> ?_
 have r8:=K8.get r7
 have v8:=K8.get v7
 have G8:=G7.trans (K8.gr G7.bag)
 simp![Zo]
 refine ZpT (fun ρ M'=>M'=M8/\ ∃ ss p x8,ρ=[some (.ref n),some (.int most),some (.ref p),some (.int wd),some (.int a'),some (.int d'),some (.int b'),some (.int c'),x8,none,none,none]/\Rn ss/\Nr 200 ss/\ss.length<=44/\M.length<=p/\M8[p]?=some (.lst (prs ss))) ?_ ?_
 ·refine brS (fun z=> ?_) (fun z=> ?_)
  ·simp![Zo]
   exact ⟨us,_,_,rfl,rn,hmx 200 (by omega),by omega,by omega,r8⟩
  ·simp![Zo]
   exact ⟨ss,_,_,rfl,s1.rn,s2,by omega,by omega,v8⟩
 clear r8 v8 hmx r7 v7 rn ml s1 s2 s3 s4 s5 sl ne v6 h6
 rintro _ M8 ⟨rfl,ss,p,x8,rfl,s1,s2,s3,s4,s5⟩
 have h8:=ZB s5
 simp![s5]
 have B9:=G8.app2 [SO.lst (prs ss)]
 have v9:(M8 ++ [SO.lst (prs ss)])[p]?=some (.lst (prs ss)):=by rw[ZaK h8];exact s5
 have r9:(M8 ++ [SO.lst (prs ss)])[M8.length]?=some (.lst (prs ss)):=by simp
 have gl8:=G8.len
 have nl8:=G8.bag.lt
 generalize M8 ++ [SO.lst (prs ss)]=M9 at *
 generalize hol:M8.length=ol at *
 refine Zep (xs:=prs ss) (fun i ρ M'=>M'[ol]?=some (.lst (prs ss))/\ ∃ us p x9 x10 x11,ρ=[some (.ref n),some (.int most),some (.ref p),some (.int wd),some (.int a'),some (.int d'),some (.int b'),some (.int c'),x8,x9,x10,x11]/\Rn us/\Nr 200 us/\us.length<=44/\M.length<=p/\M'[p]?=some (.lst (prs us))/\Gr n M M'/\ ∀ j:Nat,i<=j->j < ss.length->cy ss j∈us) r9 ⟨r9,ss,p,_,_,_,rfl,s1,s2,s3,s4,v9,B9,fun j _ hj=>Zla s1.ne⟩ (fun i ρ M' hI=>hI.1) ?_ ?_
 ·rintro i ρ M10 hi ⟨v0,us,p,x9,x10,x11,rfl,u1,u2,u3,u4,u5,G,um⟩
  rw[Zz] at hi
  rw[CC.ZaH]
  obtain ⟨k,hk,ek,ei⟩:=Zm7 (um i (Nat.le_refl _) hi)
  have ul:=u1.len
  have le:((k:Int) + 1).toNat=k + 1:=by omega
  have le2:(k:Int).toNat=k:=by omega
  have hp:=ZB u5
  have gl10:=G.len
  simp![Za7,u5,Zjb,ei,le,le2]
  refine ⟨by rw[List.length_take,List.length_drop];omega,?_⟩
  have dl:=Zdt hk
  generalize hM11:M10 ++ [SO.lst (prs (us.take k)),SO.lst (prs (us.drop (k + 1))),SO.lst (prs (us.take k ++ us.drop (k + 1)))]=M11
  have G11:Gr n M M11:=by rw[<- hM11];exact G.app2 _
  have u11:M11[p]?=some (.lst (prs us)):=by rw[<- hM11,ZaK hp];exact u5
  have v11:M11[ol]?=some (.lst (prs ss)):=by rw[<- hM11,ZaK (ZB v0)];exact v0
  have r11:M11[M10.length + 2]?=some (.lst (prs (del us k))):=by rw[<- hM11,Zkm];rfl
  have h11:=ZB r11
  clear hM11
  simp![r11]
  refine Zva (fun b M'=>M'[ol]?=some (.lst (prs ss))/\M'[p]?=some (.lst (prs us))/\M'[M10.length + 2]?=some (.lst (prs (del us k)))/\Gr n M M'/\(b=true->2 < (del us k).length)) ?_ ?_
  ·refine brO (fun z=> ?_) (fun z=> ?_)
   ·simp![Zo]
    refine CB.Zad G11.bag (by decide) fun t M12 t0 t1 g12=> ?_
    simp![Zo]
    exact ⟨CA.Gr.up v11 g12 (by omega),CA.Gr.up u11 g12 (by omega),CA.Gr.up r11 g12 (by omega),G11.trans g12,fun _=>by omega⟩
   ·simp![Zo]
    exact ⟨v11,u11,r11,G11,fun u=>by cases u⟩
  clear r11 v11 u11 G11 h11
  rintro b M12 ⟨v11,u11,r11,G11,hb2⟩
  have h12:=ZB r11
  have nx: ∀ j:Nat,i + 1<=j->j < ss.length->cy ss j∈us:=fun j h1 h2=>um j (by omega) h2
  simp![Zo]
  refine ZtC (fun z=> ?_) (fun z=> ?_)
  ·have l4:=hb2 z
   have nb:=Zqr hk (by omega)
   have e1:=ZaG (i:=(k:Int)) (m:=(del us k).length) (by omega)
   have ne:del us k≠[]:=fun z=>by rw[z] at l4;simp at l4
   have b1:=Nr.cy u2 u1.ne ((k:Int) - 1)
   simp![r11,Ze9,ZcE,nb.1,nb.2]
   rw[CB.Zg7 (.inl ⟨by omega,by omega⟩)]
   simp![Zo]
   refine brS (fun z=> ?_) (fun z=> ?_)
   ·simp![Zo]
    refine ⟨v11,del us k,_,⟨_,_,_,rfl⟩,u1.del hk (by omega) z,CF.Nr.del u2,by omega,by omega,r11,G11,fun j h1 h2=>Zm8 hk (nx j h1 h2) fun z=> ?_⟩
    rw[ek] at z
    have:=s1.inj h2 hi z
    omega
   ·simp![Zo]
    exact ⟨v11,us,p,⟨_,_,_,rfl⟩,u1,u2,u3,u4,u11,G11,nx⟩
  ·simp![Zo]
   exact ⟨v11,us,p,⟨_,_,_,rfl⟩,u1,u2,u3,u4,u11,G11,nx⟩
 ·rintro ρ M10 ⟨v0,us,p,x9,x10,x11,rfl,u1,u2,u3,u4,u5,G,um⟩
  simp![Zo]
  exact q us p M10 u1 u2 u3 u4 u5 G
end
end CQ
end
section
namespace CQ
open PySem PySem.Spec L2 DL
open CV
open CB (Bd)
open CA (Tn)
open CD (gg Zg8 sg Zff tb Zqp Zfe Zbd Zlo)
section
variable {Q:D->Sto->Prop} {E:Str->Sto->Prop} {M:Sto} {n m p:Nat} {rs:List Pt} {a b c d:Int}
theorem Zna (hb:Bag n M) (q: ∀ a b c d p M',Tn 512 a b c d->M.length<=p->M'[p]?=some (tb a b c d)->Gr n M M'->Q (.ref p) M'):wO (F_law_table [.ref n] M) Q E:=by
 have hn:=hb.lt
 simp![F_law_table,Zb4]
 have B1:=hb.app [tb 1 0 0 1]
 have G1:Gr n M (M ++ [tb 1 0 0 1]):=Gr.app hb _
 have r1:(M ++ [tb 1 0 0 1])[M.length]?=some (tb 1 0 0 1):=by simp
 refine CB.Zad B1 (by decide) fun r M1 r0 r1' g1=> ?_
 have G2:=G1.trans g1
 have r2:=CA.Gr.up r1 g1 (by omega)
 simp![Zo]
 refine ⟨by omega,?_⟩
 refine Ze6 (fun i ρ M'=> ∃ a b c d p x2 x3,ρ=[some (.ref n),some (.ref p),x2,x3]/\Tn (8 ^ i) a b c d/\M.length<=p/\M'[p]?=some (tb a b c d)/\Gr n M M') ⟨1,0,0,1,_,_,_,rfl,⟨by decide,by decide,by decide,by decide,.inl (by decide)⟩,by omega,r2,G2⟩ ?_ ?_
 ·rintro i ρ M2 hi ⟨a,b,c,d,p,x2,x3,rfl,tn,pl,v1,G⟩
  clear hi r2 r1 G1 G2 B1 g1 r0 r1'
  simp![Za8]
  refine CB.Zad G.bag (by decide) fun s M3 s0 s1 g3=> ?_
  simp![Zo]
  refine CB.Zad g3.bag (by decide) fun t' M6 t0' t1' g6=> ?_
  have G6:=(G.trans g3).trans g6
  have v6:=CA.Gr.up (CA.Gr.up v1 g3 (by omega)) g6 (by omega)
  have hp:=ZB v6
  have gl:=G6.len
  have p8:(8:Int) ^ (i + 1)=8 * 8 ^ i:=by rw[Int.pow_succ,Int.mul_comm]
  obtain ⟨mm,hmm⟩: ∃ mm,s - 2=mm:=⟨_,rfl⟩
  have m0: -7<=mm/\mm<=7:=by omega
  have ta:=Zlo tn m0
  rw[<- p8] at ta
  have fc:=tn.fa
  have fb:=tn.fb
  have fcc:=tn.fc
  have fd:=tn.fd
  simp![hmm]
  refine brS (fun z=> ?_) (fun z=> ?_)
  ·simp![v6]
   exact ⟨a + mm * c,b + mm * d,c,d,_,_,_,rfl,ta.1,gl,by simp,G6.app2 _⟩
  ·simp![v6]
   exact ⟨a,b,c + mm * a,d + mm * b,_,_,_,rfl,ta.2,gl,by simp,G6.app2 _⟩
 ·rintro ρ M2 ⟨a,b,c,d,p,x2,x3,rfl,tn,pl,v1,G⟩
  have tn:Tn 512 a b c d:=by
   have hr:r.toNat=0\/r.toNat=1\/r.toNat=2\/r.toNat=3:=by omega
   obtain ⟨ta,tb',tc,td,te⟩:=tn
   rcases hr with hr | hr | hr | hr<;>rw[hr] at ta tb' tc td<;>exact ⟨by omega,by omega,by omega,by omega,te⟩
  simp![Zo]
  refine CB.Zad G.bag (by decide) fun s M3 s0 s1 g3=> ?_
  have v3:=CA.Gr.up v1 g3 (by omega)
  have hp:=ZB v3
  have G3:=G.trans g3
  have gl:=G3.len
  simp![Zo]
  refine brS (fun z=> ?_) (fun z=> ?_)
  ·simp![v3]
   refine q c d a b _ _ ⟨tn.fc,tn.fd,tn.fa,tn.fb,?_⟩ gl (by simp) (G3.app2 _)
   have:=tn.det
   have e:c * b - d * a= -(a * d - b * c):=by grind
   rw[e]
   omega
  ·simp![Zo]
   exact q a b c d p _ tn pl v3 G3
theorem Zqs (h:M[m]?=some (.lst (prs rs))) (hm:m≠n) (ne:rs≠[]) (hr:Nr 200 rs) (hl:rs.length<=100) (hb:Bag n M)
  (q: ∀ a b c d k o M',(a * d - b * c=1\/a * d - b * c= -1)->k < rs.length->Nr 200 (rs.map (gg a b c d))->M.length<=o->M'[o]?=some (.lst (prs (sg (decide (a * d - b * c < 0)) k (rs.map (gg a b c d)))))->Gr n M M'->Q (.ref o) M'):wO (F_law_copy [.ref n,.ref m] M) Q E:=by
 have hn:=hb.lt
 have rl:0 < rs.length:=by
  rcases rs with _ | ⟨x,r⟩
  ·exact absurd rfl ne
  ·simp
 have ens: ∀ a b c d:Int,((List.range (prs rs).length).map fun (i:Nat)=>pr (gg a b c d (cy rs i)).1 (gg a b c d (cy rs i)).2)=prs (rs.map (gg a b c d)):=by
  intro a b c d
  rw[Zz]
  conv=>rhs;rw[<- Zb2 (us:=rs)]
  unfold prs
  rw[List.map_map,List.map_map]
  rfl
 simp![F_law_copy,Zct]
 refine Zna hb fun a b c d p M1 tn pl v1 G1=> ?_
 have h1:=CA.Gr.up h G1 hm
 have hm1:=ZB h1
 have hp1:=ZB v1
 have ta:=tn.fa
 have tb':=tn.fb
 have tc:=tn.fc
 have td:=tn.fd
 simp![Zo]
 refine Zp8 (fun ρ=> ∃ x,ρ=[x,some (.ref p)]) (fun (i:Nat)=>pr (gg a b c d (cy rs i)).1 (gg a b c d (cy rs i)).2) h1 (by rw[Zz];omega) ⟨_,rfl⟩ ?_ ?_
 ·rintro i hi ρ L ⟨x,rfl⟩
  have hp':(M1 ++ L)[p]?=some (tb a b c d):=by rw[ZaK hp1];exact v1
  rw[CC.ZaH]
  simp![F_law_led,Zcj,hp']
  exact ⟨⟨_,rfl⟩,rfl⟩
 rw[ens]
 have r2:(M1 ++ [SO.lst (prs (rs.map (gg a b c d)))])[M1.length]?=some (.lst (prs (rs.map (gg a b c d)))):=by simp
 have v2:(M1 ++ [SO.lst (prs (rs.map (gg a b c d)))])[p]?=some (tb a b c d):=by rw[ZaK hp1];exact v1
 have h2:(M1 ++ [SO.lst (prs (rs.map (gg a b c d)))])[m]?=some (.lst (prs rs)):=by rw[ZaK hm1];exact h1
 have G2:Gr n M (M1 ++ [SO.lst (prs (rs.map (gg a b c d)))]):=G1.app2 _
 generalize M1 ++ [SO.lst (prs (rs.map (gg a b c d)))]=M2 at *
 simp![Zo]
 refine Zcu r2 (by simpa using ne) (by rw[List.length_map];omega) fun mx M3 K3 hmx=> ?_
 have v3:=K3.get v2
 have h3:=K3.get h2
 have G3:=G2.trans (K3.gr G2.bag)
 simp![Zo]
 refine ZpT (fun ρ M'=> ∃ a b c d p,ρ=[some (.ref n),some (.ref m),some (.ref p),none,none]/\Tn 512 a b c d/\Nr 200 (rs.map (gg a b c d))/\M.length<=p/\M'[p]?=some (tb a b c d)/\M'[m]?=some (.lst (prs rs))/\Gr n M M') ?_ ?_
 ·refine brS (fun z=> ?_) (fun z=> ?_)
  ·have gl:=G3.len
   simp![Zo]
   refine ⟨0,1,1,0,_,rfl,⟨by decide,by decide,by decide,by decide,.inr (by decide)⟩,fun x hx=> ?_,gl,by simp,by rw[ZaK (ZB h3)];exact h3,G3.app2 _⟩
   obtain ⟨y,hy,rfl⟩:=List.mem_map.mp hx
   have:=hr y hy
   unfold gg
   simp only
   omega
  ·simp![Zo]
   exact ⟨a,b,c,d,p,rfl,tn,hmx 200 (by omega),pl,v3,h3,G3⟩
 clear v3 h3 G3 hmx K3 r2 v2 h2 G2 h1 hm1 hp1 v1 ta tb' tc td tn pl G1
 rintro _ M4 ⟨a,b,c,d,p,rfl,tn,nr,pl,v1,h1,G1⟩
 have hm1:=ZB h1
 have hp1:=ZB v1
 have ta:=tn.fa
 have tb':=tn.fb
 have tc:=tn.fc
 have td:=tn.fd
 have te:=tn.det
 simp![Zo]
 refine Zp8 (fun ρ=> ∃ x,ρ=[x,some (.ref p)]) (fun (i:Nat)=>pr (gg a b c d (cy rs i)).1 (gg a b c d (cy rs i)).2) h1 (by rw[Zz];omega) ⟨_,rfl⟩ ?_ ?_
 ·rintro i hi ρ L ⟨x,rfl⟩
  have hp':(M4 ++ L)[p]?=some (tb a b c d):=by rw[ZaK hp1];exact v1
  rw[CC.ZaH]
  simp![F_law_led,Zcj,hp']
  exact ⟨⟨_,rfl⟩,rfl⟩
 rw[ens]
 clear ens
 have ml:(rs.map (gg a b c d)).length=rs.length:=List.length_map _
 have r2:(M4 ++ [SO.lst (prs (rs.map (gg a b c d)))])[M4.length]?=some (.lst (prs (rs.map (gg a b c d)))):=by simp
 have v2:(M4 ++ [SO.lst (prs (rs.map (gg a b c d)))])[p]?=some (tb a b c d):=by rw[ZaK hp1];exact v1
 have G2:Gr n M (M4 ++ [SO.lst (prs (rs.map (gg a b c d)))]):=G1.app2 _
 have gl1:=G1.len
 have q':=fun k o M' hk=>q a b c d k o M' te hk nr
 clear q
 generalize M4 ++ [SO.lst (prs (rs.map (gg a b c d)))]=M5 at *
 generalize rs.map (gg a b c d)=us at *
 simp![v2]
 refine ZpT (fun ρ M'=> ∃ o us',ρ=[some (.ref n),some (.ref m),some (.ref p),some (.ref o),none]/\us'=(if decide (a * d - b * c < 0) then us.reverse else us)/\M.length<=o/\M'[o]?=some (.lst (prs us'))/\Gr n M M') ?_ ?_
 ·refine brS (fun z=> ?_) (fun z=> ?_)
  ·have:=G2.len
   simp![ZsW,r2]
   refine ⟨_,us.reverse,rfl,by simp,by omega,by rw[Zer];unfold prs;rw[List.map_reverse];rfl,G2.app2 _⟩
  ·simp![Zo]
   exact ⟨_,us,rfl,by simp,by omega,r2,G2⟩
 ·rintro _ M6 ⟨o,us',rfl,e1,ol,r6,G6⟩
  have lu:us'.length=rs.length:=by
   rw[e1]
   split<;>simp[ml]
  simp![r6]
  refine CB.Zad G6.bag (by omega) fun t M7 t0 t1 g7=> ?_
  have r7:=CA.Gr.up r6 g7 (by omega)
  have G7:=G6.trans g7
  have h7:=ZB r7
  have:=G7.len
  obtain ⟨kk,rfl⟩: ∃ k:Nat,t=k:=⟨t.toNat,by omega⟩
  simp![r7]
  refine ⟨by rw[List.length_take,List.length_drop];omega,?_⟩
  refine q' kk _ _ (by omega) (by omega) ?_ (G7.app2 _)
  rw[Zkm]
  unfold sg
  rw[<- e1]
  simp
end
end CQ
end
section
namespace CB
open PySem PySem.Spec L2 DL
open CD (gg Zg8 sg)
section
variable {a b c d:Int} {u v w:Pt} {rs:List Pt}
theorem ZdA {p:Pt} (hg:Int.gcd p.1 p.2=1) (hd:a * d - b * c=1\/a * d - b * c= -1):Int.gcd (gg a b c d p).1 (gg a b c d p).2=1:=by
 have d1:((Int.gcd (gg a b c d p).1 (gg a b c d p).2:Nat):Int) ∣ (gg a b c d p).1:=Int.gcd_dvd_left _ _
 have d2:((Int.gcd (gg a b c d p).1 (gg a b c d p).2:Nat):Int) ∣ (gg a b c d p).2:=Int.gcd_dvd_right _ _
 generalize Int.gcd (gg a b c d p).1 (gg a b c d p).2=k at *
 have e1:(a * d - b * c) * p.1=(gg a b c d p).1 * d - (gg a b c d p).2 * b:=by unfold gg;simp only;grind
 have e2:(a * d - b * c) * p.2=(gg a b c d p).2 * a - (gg a b c d p).1 * c:=by unfold gg;simp only;grind
 have f1:(k:Int) ∣ (a * d - b * c) * p.1:=by rw[e1];exact Int.dvd_sub (Int.dvd_mul_of_dvd_left d1) (Int.dvd_mul_of_dvd_left d2)
 have f2:(k:Int) ∣ (a * d - b * c) * p.2:=by rw[e2];exact Int.dvd_sub (Int.dvd_mul_of_dvd_left d2) (Int.dvd_mul_of_dvd_left d1)
 have g1:(k:Int) ∣ p.1:=by
  rcases hd with hd | hd<;>rw[hd] at f1
  ·rwa [Int.one_mul] at f1
  ·rw[Int.neg_one_mul] at f1;exact Int.dvd_neg.mp f1
 have g2:(k:Int) ∣ p.2:=by
  rcases hd with hd | hd<;>rw[hd] at f2
  ·rwa [Int.one_mul] at f2
  ·rw[Int.neg_one_mul] at f2;exact Int.dvd_neg.mp f2
 have:=Int.dvd_coe_gcd g1 g2
 rw[hg] at this
 exact Nat.eq_one_of_dvd_one (Int.natCast_dvd_natCast.mp this)
theorem ZkC {B:Int} {p:Pt} (h:Bd 200 p) (hB:200<=B):Bd B p:=by unfold Bd at *;omega
theorem Zjc: ∀ (ks:List Int) (x r:Pt),btw (gg a b c d x) (gg a b c d r) ks=(btw x r ks).map (gg a b c d)
 | [],_,_=>rfl
 |k :: ks,x,r=>by
  rw[btw,btw,List.map_cons,<- Zjc ks]
  congr 2
  unfold gg
  apply Prod.ext<;>simp only<;>grind
theorem Zs8 (hw:Wg u v) (hf:Fb u v w) (hd:a * d - b * c=1) (bu:Bd 200 (gg a b c d u)) (bv:Bd 200 (gg a b c d v)):Wg (gg a b c d u) (gg a b c d v)/\Fb (gg a b c d u) (gg a b c d v) (gg a b c d w)/\btw (gg a b c d u) (gg a b c d w) (hj (X (gg a b c d u) (gg a b c d v)) (X (gg a b c d w) (gg a b c d v)))=(btw u w (hj (X u v) (X w v))).map (gg a b c d)/\hj (X (gg a b c d u) (gg a b c d v)) (X (gg a b c d w) (gg a b c d v))=hj (X u v) (X w v):=by
 have e (p q:Pt):X (gg a b c d p) (gg a b c d q)=X p q:=by rw[Zg8,hd,Int.one_mul]
 refine ⟨⟨ZdA hw.gu (.inl hd),ZdA hw.gv (.inl hd),ZkC bu (by decide),ZkC bv (by decide),by rw[e];exact hw.pos⟩,⟨by rw[e];exact hf.one,by rw[e];exact hf.lo,by rw[e,e];exact hf.hi⟩,?_,by rw[e,e]⟩
 rw[e,e,Zjc]
theorem Zs9 (hw:Wg u v) (hf:Fb u v w) (hd:a * d - b * c= -1) (bu:Bd 200 (gg a b c d u)) (bv:Bd 200 (gg a b c d v)): ∃ w',Wg (gg a b c d v) (gg a b c d u)/\Fb (gg a b c d v) (gg a b c d u) w'/\btw (gg a b c d v) w' (hj (X (gg a b c d v) (gg a b c d u)) (X w' (gg a b c d u)))=((btw u w (hj (X u v) (X w v))).map (gg a b c d)).reverse/\hj (X (gg a b c d v) (gg a b c d u)) (X w' (gg a b c d u))=(hj (X u v) (X w v)).reverse:=by
 have e (p q:Pt):X (gg a b c d p) (gg a b c d q)= -1 * X p q:=by rw[Zg8,hd]
 have W:Wg (gg a b c d v) (gg a b c d u):=⟨ZdA hw.gv (.inr hd),ZdA hw.gu (.inr hd),ZkC bv (by decide),ZkC bu (by decide),by rw[e,ZdK];have:=hw.pos;omega⟩
 obtain ⟨w',F'⟩:=CB.Zqc W
 have c1:=CB.Zi2 hw hf
 have c2:=(CB.Zlh _ _ _ u w v rfl hf.lo hf.hi hf.one rfl rfl hw.gv).1
 have o1:=CB.only _ u v w c1 c2 hf
 have k1:=CB.Zlm e (u :: (btw u w (hj (X u v) (X w v)) ++ [v]))
 have r1:=CB.Zqo e c1
 have r2:=CB.Zqf (CB.Zln (g:=gg a b c d) (fun p q r k e1 e2=>by unfold gg;simp only;constructor<;>grind) _ c2)
 have el:((u :: (btw u w (hj (X u v) (X w v)) ++ [v])).map (gg a b c d)).reverse=gg a b c d v :: (((btw u w (hj (X u v) (X w v))).map (gg a b c d)).reverse ++ [gg a b c d u]):=by simp
 rw[el] at k1 r1 r2
 have o2:=CB.only _ _ _ _ r1 r2 F'
 exact ⟨w',W,F',o2.1.symm,by rw[<- o2.2,k1,o1.2]⟩
theorem Zta (hw:Wg u v) (hd:a * d - b * c=1) (bu:Bd 200 (gg a b c d u)) (bv:Bd 200 (gg a b c d v)):seg (gg a b c d u) (gg a b c d v)=(seg u v).map (gg a b c d):=by
 obtain ⟨W,F,e,-⟩:=Zs8 hw (Zci hw) hd bu bv
 have:=(Zci W).uniq F
 unfold seg
 rw[this,e]
 rfl
theorem Zqt (hw:Wg u v) (hd:a * d - b * c= -1) (bu:Bd 200 (gg a b c d u)) (bv:Bd 200 (gg a b c d v)):seg (gg a b c d v) (gg a b c d u) ++ [gg a b c d u]=((seg u v ++ [v]).map (gg a b c d)).reverse:=by
 obtain ⟨w',W,F,e,-⟩:=Zs9 hw (Zci hw) hd bu bv
 have:=(Zci W).uniq F
 unfold seg
 rw[this,e]
 simp
theorem Zlp (hd:a * d - b * c=1): ∀ (L:List Pt),Wgs L->(∀ x∈L,Bd 200 (gg a b c d x))->Zap (L.map (gg a b c d))=(Zap L).map (gg a b c d)
 | [],_,_=>rfl
 | [_],_,_=>rfl
 |x :: y :: r,h,hb=>by
  have ih:=Zlp hd (y :: r) h.2 fun z hz=>hb z (List.mem_cons_of_mem _ hz)
  show seg (gg a b c d x) (gg a b c d y) ++ Zap ((y :: r).map (gg a b c d))=(seg x y ++ Zap (y :: r)).map (gg a b c d)
  rw[ih,Zta h.1 hd (hb x (by simp)) (hb y (by simp)),List.map_append]
theorem Zlq (hd:a * d - b * c= -1): ∀ (r:List Pt) (x z:Pt),Wgs (x :: (r ++ [z]))->(∀ y∈x :: (r ++ [z]),Bd 200 (gg a b c d y))->Zap ((x :: (r ++ [z])).map (gg a b c d)).reverse ++ [gg a b c d x]=((Zap (x :: (r ++ [z])) ++ [z]).map (gg a b c d)).reverse
 | [],x,z,h,hb=>by
  have:=Zqt h.1 hd (hb x (by simp)) (hb z (by simp))
  simpa [Zap] using this
 |y :: r,x,z,h,hb=>by
  have ih:=Zlq hd r y z h.2 fun p hp=>hb p (List.mem_cons_of_mem _ hp)
  have e:=Zqt h.1 hd (hb x (by simp)) (hb y (by simp))
  have e1:((x :: (y :: r ++ [z])).map (gg a b c d)).reverse=((r ++ [z]).map (gg a b c d)).reverse ++ [gg a b c d y,gg a b c d x]:=by simp
  have e2:((y :: (r ++ [z])).map (gg a b c d)).reverse=((r ++ [z]).map (gg a b c d)).reverse ++ [gg a b c d y]:=by simp
  rw[e2] at ih
  rw[e1,CL.Zdx,List.append_assoc,e]
  have e3:((seg x y ++ [y]).map (gg a b c d)).reverse=[gg a b c d y] ++ ((seg x y).map (gg a b c d)).reverse:=by simp
  rw[e3,<- List.append_assoc,ih]
  show _=((seg x y ++ Zap (y :: (r ++ [z])) ++ [z]).map (gg a b c d)).reverse
  simp
theorem Zes: ∀ (L:List Pt) (x:Pt) (R:List Pt),Zap (L ++ x :: R)=Zap (L ++ [x]) ++ Zap (x :: R)
 | [],x,R=>rfl
 | [a],x,R=>by simp[Zap]
 |a :: b :: L,x,R=>by
  have:=Zes (b :: L) x R
  simp only[List.cons_append,Zap] at *
  rw[this,List.append_assoc]
theorem Zf2 {k:Nat} (hk:k<=rs.length): ∃ j,j<=(lrd rs).length/\lrd (rs.drop k ++ rs.take k)=(lrd rs).drop j ++ (lrd rs).take j:=by
 have e:rs=rs.take k ++ rs.drop k:=(List.take_append_drop k rs).symm
 generalize rs.take k=A at *
 generalize rs.drop k=B at *
 subst e
 rcases A with _ | ⟨x,A⟩
 ·exact ⟨0,by omega,by simp⟩
 rcases B with _ | ⟨y,B⟩
 ·exact ⟨0,by omega,by simp⟩
 have e1:lrd (x :: A ++ y :: B)=Zap (x :: A ++ [y]) ++ Zap (y :: B ++ [x]):=by
  have:=Zes (x :: A) y (B ++ [x])
  simpa [lrd] using this
 have e2:lrd (y :: B ++ x :: A)=Zap (y :: B ++ [x]) ++ Zap (x :: A ++ [y]):=by
  have:=Zes (y :: B) x (A ++ [y])
  simpa [lrd] using this
 refine ⟨(Zap (x :: A ++ [y])).length,by rw[e1,List.length_append];omega,?_⟩
 rw[e1,e2]
 simp
theorem Zqu {k:Nat} (hr:Rn rs) (hb:Nr 200 rs) (hg:Nr 200 (rs.map (gg a b c d))) (hd:a * d - b * c=1\/a * d - b * c= -1) (hk:k<=rs.length):
  ∃ j:Int,(lrd (sg (decide (a * d - b * c < 0)) k (rs.map (gg a b c d)))).length=(lrd rs).length/\ ∀ i:Int,cy (lrd (sg (decide (a * d - b * c < 0)) k (rs.map (gg a b c d)))) i=gg a b c d (cy (lrd rs) ((a * d - b * c) * i + j)):=by
 have hs:=hr.least hb
 have W:=hr.wgs hb
 have ne:=hs.ne
 have ml:(rs.map (gg a b c d)).length=rs.length:=List.length_map _
 have bg: ∀ x∈rs ++ rs.take 1,Bd 200 (gg a b c d x):=fun x hx=>by
  have:x∈rs:=by
   rcases List.mem_append.mp hx with hx | hx
   ·exact hx
   ·exact List.mem_of_mem_take hx
  exact hg _ (List.mem_map.mpr ⟨x,this,rfl⟩)
 rcases hd with hd | hd
 ·rw[hd]
  have e0:lrd (rs.map (gg a b c d))=(lrd rs).map (gg a b c d):=by
   have:=Zlp hd _ W bg
   unfold lrd
   rw[<- this,List.map_append,List.map_take]
  obtain ⟨j,hj,e⟩:=Zf2 (rs:=rs.map (gg a b c d)) (k:=k) (by omega)
  have e':lrd (sg (decide ((1:Int) < 0)) k (rs.map (gg a b c d)))=((lrd rs).map (gg a b c d)).drop j ++ ((lrd rs).map (gg a b c d)).take j:=by
   rw[<- e0,<- e]
   rfl
  rw[e0,List.length_map] at hj
  refine ⟨j,by rw[e',List.length_append,List.length_drop,List.length_take,List.length_map];omega,fun i=> ?_⟩
  rw[e',ZbD (by rw[List.length_map];exact hj),Zdp ne,Int.one_mul]
 ·rw[hd]
  have r3:=hr.len
  obtain ⟨x,r,rfl⟩: ∃ x r,rs=x :: r:=by
   rcases rs with _ | ⟨x,r⟩
   ·simp at r3
   ·exact ⟨x,r,rfl⟩
  have e0:=Zlq hd r x x (by simpa using W) (by simpa using bg)
  obtain ⟨S,hS⟩: ∃ S,lrd (x :: r)=x :: S:=by
   have:r≠[]:=fun z=>by rw[z] at r3;simp at r3
   obtain ⟨y,r',rfl⟩:=List.exists_cons_of_ne_nil this
   exact Zfd
  have e1:lrd (x :: r)=Zap (x :: (r ++ [x])):=by simp[lrd]
  rw[<- e1,hS] at e0
  have e2:lrd (gg a b c d x :: (r.map (gg a b c d)).reverse)=Zap ((x :: (r ++ [x])).map (gg a b c d)).reverse:=by
   simp[lrd]
  rw[<- e2] at e0
  have e3:lrd (gg a b c d x :: (r.map (gg a b c d)).reverse)=(((lrd (x :: r)).drop 1 ++ (lrd (x :: r)).take 1).reverse).map (gg a b c d):=by
   have:lrd (gg a b c d x :: (r.map (gg a b c d)).reverse) ++ [gg a b c d x]=(gg a b c d x :: (S.map (gg a b c d)).reverse) ++ [gg a b c d x]:=by
    rw[e0];simp
   rw[List.append_cancel_right this,hS]
   simp
  have lv:(gg a b c d x :: (r.map (gg a b c d)).reverse).length=(x :: r).length:=by simp
  obtain ⟨j1,h1,f1⟩:=Zf2 (rs:=gg a b c d x :: (r.map (gg a b c d)).reverse) (k:=1) (by simp)
  obtain ⟨j2,h2,f2⟩:=Zf2 (rs:=((x :: r).map (gg a b c d)).reverse) (k:=k) (by simpa using hk)
  have f1':lrd ((x :: r).map (gg a b c d)).reverse=(lrd (gg a b c d x :: (r.map (gg a b c d)).reverse)).drop j1 ++ (lrd (gg a b c d x :: (r.map (gg a b c d)).reverse)).take j1:=by
   rw[<- f1]
   simp
  have e':lrd (sg (decide ((-1:Int) < 0)) k ((x :: r).map (gg a b c d)))=(lrd ((x :: r).map (gg a b c d)).reverse).drop j2 ++ (lrd ((x :: r).map (gg a b c d)).reverse).take j2:=by
   rw[<- f2]
   rfl
  have l3:(lrd (gg a b c d x :: (r.map (gg a b c d)).reverse)).length=(lrd (x :: r)).length:=by
   rw[e3,List.length_map,List.length_reverse,List.length_append,List.length_drop,List.length_take]
   have:=hs.len
   omega
  have l2:(lrd ((x :: r).map (gg a b c d)).reverse).length=(lrd (x :: r)).length:=by
   rw[f1',List.length_append,List.length_drop,List.length_take]
   omega
  refine ⟨0 - (j1 + j2),by rw[e',List.length_append,List.length_drop,List.length_take];omega,fun i=> ?_⟩
  have nf:((lrd (x :: r)).drop 1 ++ (lrd (x :: r)).take 1).reverse≠[]:=fun z=>by
   have:=congrArg List.length z
   rw[List.length_reverse,List.length_append,List.length_drop,List.length_take] at this
   have:=hs.len
   simp at *
   omega
  rw[e',ZbD h2,f1',ZbD h1,e3,Zdp nf,Zm3 hs]
  congr 2
  omega
theorem Ztb {ls ms:List Pt} {j:Int} (h: ∀ i:Int,cy ms i=gg a b c d (cy ls ((a * d - b * c) * i + j))) (hd:a * d - b * c=1\/a * d - b * c= -1) (i:Int):T ms i=T ls ((a * d - b * c) * i + j):=by
 unfold T
 rw[h,h,Zg8]
 rcases hd with hd | hd
 ·rw[hd,Int.one_mul,Int.one_mul,Int.one_mul,Int.one_mul]
  congr 3<;>omega
 ·rw[hd,ZdK]
  have e1: -1 * (i - 1) + j= -1 * i + j + 1:=by omega
  have e2: -1 * (i + 1) + j= -1 * i + j - 1:=by omega
  rw[e1,e2]
  omega
theorem Zjd {p q:Pt} (hd:a * d - b * c=1\/a * d - b * c= -1) (e:gg a b c d p=gg a b c d q):p=q:=by
 have e1:=congrArg Prod.fst e
 have e2:=congrArg Prod.snd e
 unfold gg at e1 e2
 simp only at e1 e2
 have f1:(a * d - b * c) * p.1=(a * d - b * c) * q.1:=by grind
 have f2:(a * d - b * c) * p.2=(a * d - b * c) * q.2:=by grind
 rcases hd with hd | hd<;>rw[hd] at f1 f2<;>exact Prod.ext (by omega) (by omega)
end
end CB
end
section
namespace CX
open PySem PySem.Spec L2 DL
open CE (F_numbers)
open CC (F_following)
open CL (F_least_round)
noncomputable def ZbK:Sv:=(ZK (ZQ (gNm 2) (ZeZ (iSq (Zh 0)) 1 [] (gNm 0) (fun _ M=> .ok true M) (Zh 0) (eC (.bl true))))
 (Zar (Zbx (iZp (Zc (Zl F_numbers (Zc (Zh 1) aNil)) (Zc (Zh 1) aNil))) 2 [2] (gTp (gCs (gNm 0) (gCs (gNm 1) gNl))) (fun _ M=> .ok true M) (Zaq (Zc (Zh 0) (Zc (eIf (tv (e2 (Znu false) (Zh 1) (Zh 2))) (eC (.int 1)) (eC (.int 0))) aNil))))))
noncomputable def F_marked_row:List D->Sto->Out D:=fnF ZbK 2 1
noncomputable def ZN:Sv:=(sIf (Zju (tv (e2 dIs (Zh 3) (eC .non))) (tv (e2 dLtL (Zh 9) (Zh 3)))) (ZK (ZQ (gNm 3) (Zh 9))
 (ZQ (gNm 4) (Zaq (Zc (Zh 6) (Zc (Zh 10) aNil))))) sNil)
noncomputable def Zao:Sv:=(ZK (ZQ (gNm 7) (e2 dAdd (eSl (Zh 2) (oSo (Zh 5)) oNo) (eSl (Zh 2) oNo (oSo (Zh 5)))))
 (ZK (ZQ (gNm 8) (e2 dAdd (eSl (Zh 7) oNo (oSo (eC (.int 1)))) (eR0 (Zh 7))))
 (Zl2 (gTp (gCs (gNm 9) (gCs (gNm 10) gNl))) (ZcN (Zc (Zaq (Zc (Zh 7) (Zc (Zl F_following (Zc (Zh 1) (Zc (Zh 5) aNil))) aNil))) (Zc (Zaq (Zc (Zh 8) (Zc (e2 dIx (Zh 1) (e2 dSub (Zh 5) (eC (.int 1)))) aNil))) aNil))) ZN)))
noncomputable def ZaX:Sv:=(ZK (ZQ (gNm 1) (Zl F_least_round (Zc (Zh 0) aNil)))
 (ZK (ZQ (gNm 2) (Zl F_marked_row (Zc (Zh 0) (Zc (Zh 1) aNil))))
 (ZK (ZQ (gNm 3) (eC .non))
 (ZK (ZQ (gNm 4) (eC .non))
 (ZK (ZfK (gTp (gCs (gNm 5) (gCs (gNm 6) gNl))) (iEn (Zc (Zh 1) aNil)) Zao)
 (Zar (Zaq (Zc (Zh 3) (Zc (Zh 4) aNil)))))))))
noncomputable def F_first_reading:List D->Sto->Out D:=fnF ZaX 1 10
end CX
end
section
namespace CX
open PySem PySem.Spec L2 DL
open CV
open CB (Bd lrd)
noncomputable def ltP:List Pt->List Pt->Bool
 | [],[]=>false
 | [],_ :: _=>true
 |_ :: _,[]=>false
 |x :: xs,y :: ys=>if x=y then ltP xs ys else HT.Zaa [x.1,x.2] [y.1,y.2]
theorem ZkD {x y:Pt} {xs ys:List Pt}:ltP (x :: xs) (y :: ys)=if x=y then ltP xs ys else HT.Zaa [x.1,x.2] [y.1,y.2]:=rfl
theorem Znw {x y:Pt}:HT.Zaa [x.1,x.2] [y.1,y.2]=decide (x.1 < y.1\/(x.1=y.1/\x.2 < y.2)):=by
 rw[HT.Z5,HT.Z5,HT.Zb7]
 by_cases c1:x.1=y.1
 ·rw[if_pos c1]
  by_cases c2:x.2=y.2
  ·rw[if_pos c2]
   exact (decide_eq_false (by omega)).symm
  ·rw[if_neg c2]
   exact decide_eq_decide.mpr (by omega)
 ·rw[if_neg c1]
  exact decide_eq_decide.mpr (by omega)
theorem Zqv {x y:Pt} (h:x≠y):x.1≠y.1\/x.2≠y.2:=by
 by_cases c:x.1=y.1
 ·exact .inr fun z=>h (Prod.ext c z)
 ·exact .inl c
theorem Zje: ∀ {xs ys:List Pt},ltP xs ys=false->ltP ys xs=false->xs=ys
 | [],[],_,_=>rfl
 | [],_ :: _,h,_=>by cases h
 |_ :: _,[],_,h=>by cases h
 |x :: xs,y :: ys,h1,h2=>by
  unfold ltP at h1 h2
  by_cases c:x=y
  ·rw[if_pos c] at h1
   rw[if_pos c.symm] at h2
   rw[c,Zje h1 h2]
  ·rw[if_neg c,Znw] at h1
   rw[if_neg (Ne.symm c),Znw] at h2
   have:=of_decide_eq_false h1
   have:=of_decide_eq_false h2
   have:=Zqv c
   omega
theorem Zfg: ∀ {xs ys zs:List Pt},ltP xs ys=true->ltP ys zs=true->ltP xs zs=true
 | [],[],_,h,_=>by cases h
 | [],_ :: _,[],_,h=>by cases h
 | [],_ :: _,_ :: _,_,_=>rfl
 |_ :: _,[],_,h,_=>by cases h
 |_ :: _,_ :: _,[],_,h=>by cases h
 |x :: xs,y :: ys,z :: zs,h1,h2=>by
  unfold ltP at h1 h2 ⊢
  by_cases c1:x=y
  ·subst c1
   rw[if_pos rfl] at h1
   by_cases c2:x=z
   ·subst c2
    rw[if_pos rfl] at h2 ⊢
    exact Zfg h1 h2
   ·rw[if_neg c2] at h2 ⊢
    exact h2
  ·rw[if_neg c1,Znw] at h1
   have h1:=of_decide_eq_true h1
   by_cases c2:y=z
   ·subst c2
    rw[if_neg c1,Znw]
    exact decide_eq_true h1
   ·rw[if_neg c2,Znw] at h2
    have h2:=of_decide_eq_true h2
    have c3:x≠z:=fun e=>by subst e;omega
    rw[if_neg c3,Znw]
    exact decide_eq_true (by omega)
theorem Zf3: ∀ {xs:List Pt},ltP xs xs=false
 | []=>rfl
 |x :: xs=>by
  unfold ltP
  rw[if_pos rfl]
  exact Zf3
theorem tI (x:Pt):ZaJ [D.int x.1,D.int x.2]=some [x.1,x.2]:=rfl
theorem Zlr {x y:Pt}:ltE (pr x.1 x.2) (pr y.1 y.2)=some (HT.Zaa [x.1,x.2] [y.1,y.2]):=rfl
theorem Zqw {x y:Pt}:ltL.eqX (pr x.1 x.2) (pr y.1 y.2)=decide (x=y):=by
 show (ZaJ [D.int x.1,D.int x.2] == ZaJ [D.int y.1,D.int y.2])=_
 rw[tI,tI]
 by_cases c:x=y
 ·subst c;simp
 ·rw[decide_eq_false c]
  have:=Zqv c
  simp
  omega
theorem Zjf: ∀ {xs ys:List Pt},ltL (prs xs) (prs ys)=some (ltP xs ys)
 | [],[]=>rfl
 | [],_ :: _=>rfl
 |_ :: _,[]=>rfl
 |x :: xs,y :: ys=>by
  show (match ltE (pr x.1 x.2) (pr y.1 y.2) with | none=>none | some b=>if ltL.eqX (pr x.1 x.2) (pr y.1 y.2)=true then ltL (prs xs) (prs ys) else some b)=_
  rw[Zlr,Zqw,Zjf,ZkD]
  by_cases c:x=y
  ·simp[c]
  ·simp[c]
theorem Zjg: ∀ {xs ys:List Pt},ZcC (prs xs) (prs ys)=true
 | [],[]=>rfl
 | [],_ :: _=>rfl
 |_ :: _,[]=>rfl
 |x :: xs,y :: ys=>by
  show ((ltE (pr x.1 x.2) (pr y.1 y.2)).isSome && ZcC (prs xs) (prs ys))=true
  rw[Zjg,Zlr]
  rfl
section
variable {Q:D->Sto->Prop} {E:Str->Sto->Prop} {M:Sto} {n m p:Nat} {rs ls:List Pt}
theorem Ztc {xs ys:List Pt} (h1:M[n]?=some (.lst (prs xs))) (h2:M[m]?=some (.lst (prs ys))):wO (dLtL (.ref n) (.ref m) M) Q E=Q (.bl (ltP xs ys)) M:=by
 have:dLtL (.ref n) (.ref m) M= .ok (.bl (ltP xs ys)) M:=by
  simp only[dLtL,h1,h2,Zjg,if_true,Zjf]
 rw[this]
 rfl
theorem ZvB {f:Ev} {ρ:Ro}:wO (eR0 f ρ M) Q E=wO (f ρ M) (fun x M1=>wR x fun n=>wL M1[n]? fun xs=>Q (.ref M1.length) (M1 ++ [.lst (xs.drop 1).reverse])) E:=by
 unfold eR0
 rw[ZD]
 congr 1
 funext x M1
 cases x with
 |ref n=>
  show wO (match M1[n]? with | some (.lst xs)=> .ok (.ref M1.length) (M1 ++ [.lst (xs.drop 1).reverse]) | none=> .bad) Q E=wL M1[n]? _
  cases M1[n]? with
  |none=>rfl
  |some o=>cases o with | lst xs=>rfl
 |_=>rfl
theorem ZgH {κ:Type} [DecidableEq κ] {dec:D->Option κ} {k k0:κ} {v:D}: ∀ (ds:List D),(ZcQ dec k (ZkZ dec k0 v ds)).isSome=(ZcQ dec k ds).isSome
 | []=>rfl
 |e :: r=>by
  have ih:=ZgH (dec:=dec) (k:=k) (k0:=k0) (v:=v) r
  cases e with
  |tup l=>
   rcases l with _ | ⟨a,_ | ⟨w,_ | ⟨z,l⟩⟩⟩
   ·exact ih
   ·exact ih
   ·show (ZcQ dec k ((if dec a=some k0 then .tup [a,v] else .tup [a,w]) :: ZkZ dec k0 v r)).isSome=_
    split
    ·simp only[ZcQ]
     split
     ·rfl
     ·exact ih
    ·simp only[ZcQ]
     split
     ·rfl
     ·exact ih
   ·exact ih
  |_=>exact ih
theorem Zfh {κ:Type} [DecidableEq κ] {dec:D->Option κ} {k:κ} {a v:D}: ∀ (ds:List D),(ZcQ dec k (ds ++ [.tup [a,v]])).isSome=((ZcQ dec k ds).isSome || decide (dec a=some k))
 | []=>by
  simp only[List.nil_append,ZcQ]
  by_cases c:dec a=some k
  ·simp[c]
  ·simp[c]
 |e :: r=>by
  have ih:=Zfh (dec:=dec) (k:=k) (a:=a) (v:=v) r
  cases e with
  |tup l=>
   rcases l with _ | ⟨x,_ | ⟨w,_ | ⟨z,l⟩⟩⟩
   ·exact ih
   ·exact ih
   ·simp only[List.cons_append,ZcQ]
    split
    ·simp
    ·exact ih
   ·exact ih
  |_=>exact ih
theorem ZkE {κ:Type} [DecidableEq κ] {dec:D->Option κ} {k k0:κ} {kd v:D} (h:dec kd=some k0) (ds:List D):(ZcQ dec k (Zjx dec k0 kd v ds)).isSome=((ZcQ dec k ds).isSome || decide (k0=k)):=by
 unfold Zjx
 split
 ·rename_i c
  rw[ZgH]
  by_cases e:k0=k
  ·subst e;rw[c];simp
  ·simp[e]
 ·rw[Zfh,h]
  simp
noncomputable abbrev ky (p:Pt):List Key:=[.inl p.1,.inl p.2]
theorem Zqx {p q:Pt}:ky p=ky q ↔ p=q:=by
 constructor
 ·intro h
  simp[ky] at h
  exact Prod.ext h.1 h.2
 ·rintro rfl;rfl
theorem Znb {κ:Type} [DecidableEq κ] {dec:D->Option κ} {k0:κ} {kd v:D} (ds:List D):(Zjx dec k0 kd v ds).length<=ds.length + 1:=by
 unfold Zjx
 split
 ·unfold ZkZ;rw[List.length_map];omega
 ·simp
theorem dcl (h:M[n]?=some (.lst (prs rs))) (hl:rs.length<=1000): ∀ (fuel i:Nat) (ds:List D) (x:Option D),i<=rs.length->rs.length<=fuel + i->ds.length<=i->
  ∃ ds',ZbS (.sto n) (gNm 0) (fun _ M=> .ok true M) (Zh 0) (eC (.bl true)) M.length fuel i [x] (M ++ [.lst ds])= .ok () (M ++ [.lst ds'])/\ ∀ p,(ZcQ kT (ky p) ds').isSome=((ZcQ kT (ky p) ds).isSome || decide (p∈rs.drop i)):=by
 have hn:=ZB h
 intro fuel
 induction fuel with
 |zero=>
  intro i ds x hi hf hd
  have e:i=rs.length:=by omega
  have nx:nxt (.sto n) i (M ++ [.lst ds])=some none:=by
   rw[Zfa (xs:=prs rs) (by rw[ZaK hn];exact h),List.getElem?_eq_none (by rw[Zz];omega)]
  refine ⟨ds,?_,fun p=> ?_⟩
  ·unfold ZbS
   rw[nx]
  ·rw[List.drop_eq_nil_of_le (by omega)]
   simp
 |succ f ih=>
  intro i ds x hi hf hd
  by_cases e:i=rs.length
  ·have nx:nxt (.sto n) i (M ++ [.lst ds])=some none:=by
    rw[Zfa (xs:=prs rs) (by rw[ZaK hn];exact h),List.getElem?_eq_none (by rw[Zz];omega)]
   refine ⟨ds,?_,fun p=> ?_⟩
   ·unfold ZbS
    rw[nx]
   ·rw[List.drop_eq_nil_of_le (by omega)]
    simp
  ·have hi':i < rs.length:=by omega
   have nx:nxt (.sto n) i (M ++ [.lst ds])=some (some (pr rs[i].1 rs[i].2)):=by
    rw[Zfa (xs:=prs rs) (by rw[ZaK hn];exact h)]
    congr 1
    unfold prs
    rw[List.getElem?_map,List.getElem?_eq_getElem hi']
    rfl
   have pt:ZoG (M ++ [.lst ds]) (.dt M.length) (pr rs[i].1 rs[i].2) (.bl true)=some (M ++ [.lst (Zjx kT (ky rs[i]) (pr rs[i].1 rs[i].2) (.bl true) ds)]):=by
    have e1:kT (pr rs[i].1 rs[i].2)=some (ky rs[i]):=rfl
    have e2:(M ++ [SO.lst ds])[M.length]?=some (.lst ds):=by simp
    simp only[ZoG,e1,e2]
    rw[if_pos (by omega)]
    simp
   obtain ⟨ds',h1,h2⟩:=ih (i + 1) (Zjx kT (ky rs[i]) (pr rs[i].1 rs[i].2) (.bl true) ds) (some (pr rs[i].1 rs[i].2)) (by omega) (by omega) (by have:=Znb (dec:=kT) (k0:=ky rs[i]) (kd:=pr rs[i].1 rs[i].2) (v:= .bl true) ds;omega)
   refine ⟨ds',?_,fun p=> ?_⟩
   ·unfold ZbS
    rw[nx]
    show (match ZoG (M ++ [.lst ds]) (.dt M.length) (pr rs[i].1 rs[i].2) (.bl true) with | some M4=>ZbS (.sto n) (gNm 0) (fun _ M=> .ok true M) (Zh 0) (eC (.bl true)) M.length f (i + 1) [some (pr rs[i].1 rs[i].2)] M4 | none=> .bad)=_
    rw[pt]
    exact h1
   ·rw[h2,ZkE (dec:=kT) (show kT (pr rs[i].1 rs[i].2)=some (ky rs[i]) from rfl),List.drop_eq_getElem_cons hi']
    simp only[List.mem_cons,Zqx,Bool.or_assoc,Bool.decide_or]
    congr 2
    exact decide_eq_decide.mpr ⟨Eq.symm,Eq.symm⟩
end
end CX
end
section
namespace CX
open PySem PySem.Spec L2 DL
open CV
open CB (Bd lrd)
section
variable {Q:D->Sto->Prop} {E:Str->Sto->Prop} {M:Sto} {n m p:Nat} {rs ls:List Pt}
theorem Znc {r:Ro} (h:M[n]?=some (.lst (prs rs))) (hl:rs.length<=1000) (q: ∀ ds,(∀ p,(ZcQ kT (ky p) ds).isSome=decide (p∈rs))->Q (.dt M.length) (M ++ [.lst ds])):wO (ZeZ (iSq (Zh 0)) 1 [] (gNm 0) (fun _ M=> .ok true M) (Zh 0) (eC (.bl true)) (some (.ref n) :: r) M) Q E:=by
 obtain ⟨ds,h1,h2⟩:=dcl h hl (cnt (.sto n) M) 0 [] none (by omega) (by rw[ZfQ h,Zz];omega) (by simp)
 have e:ZeZ (iSq (Zh 0)) 1 [] (gNm 0) (fun _ M=> .ok true M) (Zh 0) (eC (.bl true)) (some (.ref n) :: r) M= .ok (.dt M.length) (M ++ [.lst ds]):=by
  show (match ZbS (.sto n) (gNm 0) (fun _ M=> .ok true M) (Zh 0) (eC (.bl true)) M.length (cnt (.sto n) M) 0 [none] (M ++ [.lst []]) with | .ok _ M2=>Out.ok (D.dt M.length) M2 | _=> .bad)=_
  rw[h1]
 rw[e]
 refine q ds fun p=> ?_
 rw[h2 p]
 simp[ZcQ]
theorem Ztd {ds:List D} {x:Pt} (h:M[n]?=some (.lst ds)) (hd: ∀ p,(ZcQ kT (ky p) ds).isSome=decide (p∈rs)):wO (Znu false (pr x.1 x.2) (.dt n) M) Q E=Q (.bl (decide (x∈rs))) M:=by
 have e1:kT (pr x.1 x.2)=some (ky x):=rfl
 have:Znu false (pr x.1 x.2) (.dt n) M= .ok (.bl (decide (x∈rs))) M:=by
  simp only[Znu,Zg1,e1,h,hd]
  simp
 rw[this]
 rfl
noncomputable def mkr (rs ls:List Pt):List Pt:=(List.range ls.length).map fun (i:Nat)=>(T ls i,if cy ls i∈rs then 1 else 0)
theorem Z1:(mkr rs ls).length=ls.length:=by unfold mkr;simp
theorem ZkF (h1:M[n]?=some (.lst (prs rs))) (h2:M[m]?=some (.lst (prs ls))) (hs:Smo ls) (hl1:rs.length<=1000) (hl2:ls.length<=1000000) (hb:Nr 18446744073709551615 ls) (q: ∀ o M',Kp M M'->M.length<=o->M'[o]?=some (.lst (prs (mkr rs ls)))->Q (.ref o) M'):wO (F_marked_row [.ref n,.ref m] M) Q E:=by
 have hn:=ZB h1
 have hm:=ZB h2
 simp![F_marked_row,ZbK]
 refine Znc h1 hl1 fun ds hds=> ?_
 have h2':(M ++ [SO.lst ds])[m]?=some (.lst (prs ls)):=by rw[ZaK hm];exact h2
 have rd:(M ++ [SO.lst ds])[M.length]?=some (.lst ds):=by simp
 have K1:Kp M (M ++ [SO.lst ds]):=Kp.app
 have l1:(M ++ [SO.lst ds]).length=M.length + 1:=by simp
 generalize M ++ [SO.lst ds]=M1 at *
 simp![Zo]
 refine CE.ZiW h2' hs hl2 hb ?_
 have h3:(M1 ++ [SO.lst (nts (ZbZ ls))])[m]?=some (.lst (prs ls)):=by rw[ZaK (ZB h2')];exact h2'
 have r3:(M1 ++ [SO.lst (nts (ZbZ ls))])[M1.length]?=some (.lst (nts (ZbZ ls))):=by simp
 have rd3:(M1 ++ [SO.lst (nts (ZbZ ls))])[M.length]?=some (.lst ds):=by rw[ZaK (ZB rd)];exact rd
 have K3:Kp M (M1 ++ [SO.lst (nts (ZbZ ls))]):=K1.trans Kp.app
 generalize M1 ++ [SO.lst (nts (ZbZ ls))]=M3 at *
 have tl:(ZbZ ls).length=ls.length:=by unfold ZbZ;simp
 have zl:(List.zipWith (fun a b=>D.tup [a,b]) (nts (ZbZ ls)) (prs ls)).length=ls.length:=by simp[Zz,ZbY,tl]
 have hm3:=ZB h3
 have hr3:=ZB r3
 have hd3:=ZB rd3
 simp![Zo]
 refine ZqX (xs:=List.zipWith (fun a b=>D.tup [a,b]) (nts (ZbZ ls)) (prs ls)) (fun ρ=> ∃ x y,ρ=[x,y,some (.dt M.length)]) (fun (i:Nat)=>pr (T ls i) (if cy ls i∈rs then 1 else 0)) (by omega) (by rw[ZmI r3,zl,ZbY,tl];omega) ⟨_,_,rfl⟩ (fun L i hi=> ?_) ?_ ?_
 ·rw[ZpG (by rw[ZaK hr3];exact r3) (by rw[ZaK hm3];exact h3)]
 ·rintro i hi ρ L ⟨x,y,rfl⟩
  rw[zl] at hi
  have hp':(M3 ++ L)[M.length]?=some (.lst ds):=by rw[ZaK hd3];exact rd3
  have en:(nts (ZbZ ls))[i]'(by rw[ZbY,tl];exact hi)=D.int (T ls i):=by simp[nts,ZbZ]
  rw[List.getElem_zipWith,CC.ZaH,en]
  simp![Ztd hp' hds]
  refine ⟨⟨_,_,rfl⟩,brO (fun z=> ?_) (fun z=> ?_)⟩
  ·simp![Zo]
   rw[if_pos z]
  ·simp![Zo]
   rw[if_neg z]
 have en:((List.range (List.zipWith (fun a b=>D.tup [a,b]) (nts (ZbZ ls)) (prs ls)).length).map fun (i:Nat)=>pr (T ls i) (if cy ls i∈rs then 1 else 0))=prs (mkr rs ls):=by
  rw[zl]
  unfold mkr prs
  rw[List.map_map]
  rfl
 rw[en]
 exact q _ _ (K3.trans Kp.app) (by have:=K3.1;omega) (by simp)
end
end CX
end
section
namespace CX
open PySem PySem.Spec L2 DL
open CV
open CB (Bd lrd)
noncomputable def onw (L:List Pt) (i:Nat):List Pt:=L.drop i ++ L.take i
noncomputable def rdg (L:List Pt) (i:Nat) (b:Bool):List Pt:=if b then (onw L i).take 1 ++ ((onw L i).drop 1).reverse else onw L i
noncomputable def bsd (ls:List Pt) (i:Nat) (b:Bool):Pt:=if b then cy ls ((i:Int) - 1) else cy ls ((i:Int) + 1)
noncomputable def Bst (lo:Nat) (L ls:List Pt) (S:Nat->Bool->Prop) (v3 v4:D) (M:Sto):Prop:=(v3= .non/\v4= .non/\ ∀ i b,¬ S i b)\/ ∃ i b o,(S i b/\lo<=o)/\v3= .ref o/\v4= .tup [pr (cy ls (i:Nat)).1 (cy ls (i:Nat)).2,pr (bsd ls i b).1 (bsd ls i b).2]/\M[o]?=some (.lst (prs (rdg L i b)))/\ ∀ i' b',S i' b'->ltP (rdg L i' b') (rdg L i b)=false
theorem Bst.congr {lo:Nat} {L ls:List Pt} {S S':Nat->Bool->Prop} {v3 v4:D} {M:Sto} (h: ∀ i b,S i b ↔ S' i b) (k:Bst lo L ls S v3 v4 M):Bst lo L ls S' v3 v4 M:=by
 rcases k with ⟨h1,h2,h3⟩ | ⟨i,b,o,h1,h2,h3,h4,h5⟩
 ·exact .inl ⟨h1,h2,fun i b k=>h3 i b ((h i b).mpr k)⟩
 ·exact .inr ⟨i,b,o,⟨(h i b).mp h1.1,h1.2⟩,h2,h3,h4,fun i' b' k=>h5 i' b' ((h i' b').mpr k)⟩
theorem Bst.kp {lo:Nat} {L ls:List Pt} {S:Nat->Bool->Prop} {v3 v4:D} {M M':Sto} (k:Bst lo L ls S v3 v4 M) (K:Kp M M'):Bst lo L ls S v3 v4 M':=by
 rcases k with h | ⟨i,b,o,h1,h2,h3,h4,h5⟩
 ·exact .inl h
 ·exact .inr ⟨i,b,o,h1,h2,h3,K.get h4,h5⟩
section
variable {Q:D->Sto->Prop} {E:Str->Sto->Prop} {M:Sto} {n m p:Nat} {rs ls L:List Pt} {N B C:Ro->Sto->Prop} {R:D->Sto->Prop}
theorem Zqy:isP D.non D.non=some true:=rfl
theorem Zqz {o:Nat}:isP (D.ref o) D.non=some false:=rfl
theorem Zui {lo i:Nat} {bk:Bool} {S:Nat->Bool->Prop} {v3 v4:D} {r:Nat} {a0 a1 a2 a5 a7 a8:Option D} (hr:M[r]?=some (.lst (prs (rdg L i bk)))) (hlo:lo<=r) (hB:Bst lo L ls S v3 v4 M)
  (hN: ∀ v3 v4,Bst lo L ls (fun i' b'=>S i' b'\/(i'=i/\b'=bk)) v3 v4 M->N [a0,a1,a2,some v3,some v4,a5,some (pr (cy ls i).1 (cy ls i).2),a7,a8,some (.ref r),some (pr (bsd ls i bk).1 (bsd ls i bk).2)] M):
  wS (ZN [a0,a1,a2,some v3,some v4,a5,some (pr (cy ls i).1 (cy ls i).2),a7,a8,some (.ref r),some (pr (bsd ls i bk).1 (bsd ls i bk).2)] M) N R B C E:=by
 rcases hB with ⟨rfl,rfl,h0⟩ | ⟨i0,b0,o,s0,rfl,rfl,ro,hb⟩
 ·simp![ZN,Zqy]
  refine hN _ _ (.inr ⟨i,bk,r,⟨.inr ⟨rfl,rfl⟩,hlo⟩,rfl,rfl,hr,fun i' b' h=> ?_⟩)
  rcases h with h | ⟨rfl,rfl⟩
  ·exact absurd h (h0 i' b')
  ·exact Zf3
 ·simp![ZN,Zqz,Ztc hr ro]
  refine ZtC (fun z=> ?_) (fun z=> ?_)
  ·simp![Zo]
   refine hN _ _ (.inr ⟨i,bk,r,⟨.inr ⟨rfl,rfl⟩,hlo⟩,rfl,rfl,hr,fun i' b' h=> ?_⟩)
   rcases h with h | ⟨rfl,rfl⟩
   ·have:=hb i' b' h
    cases e:ltP (rdg L i' b') (rdg L i bk) with
    |false=>rfl
    |true=>rw[Zfg e z] at this;cases this
   ·exact Zf3
  ·simp![Zo]
   refine hN _ _ (.inr ⟨i0,b0,o,⟨.inl s0.1,s0.2⟩,rfl,rfl,ro,fun i' b' h=> ?_⟩)
   rcases h with h | ⟨rfl,rfl⟩
   ·exact hb i' b' h
   ·exact z
noncomputable def St (i t:Nat) (i':Nat) (b':Bool):Prop:=i' < i\/(i'=i/\((b'=false/\0 < t)\/(b'=true/\1 < t)))
theorem Zfi (h:M[n]?=some (.lst (prs rs))) (hr:Rn rs) (hb:Nr 200 rs) (hl:rs.length<=61) (hll:(lrd rs).length<=1000000)
  (q: ∀ i b o M',Kp M M'->i < (lrd rs).length->(∀ i' b',i' < (lrd rs).length->ltP (rdg (mkr rs (lrd rs)) i' b') (rdg (mkr rs (lrd rs)) i b)=false)->M.length<=o->M'[o]?=some (.lst (prs (rdg (mkr rs (lrd rs)) i b)))->Q (.tup [.ref o,.tup [pr (cy (lrd rs) (i:Nat)).1 (cy (lrd rs) (i:Nat)).2,pr (bsd (lrd rs) i b).1 (bsd (lrd rs) i b).2]]) M'):wO (F_first_reading [.ref n] M) Q E:=by
 have hn:=ZB h
 have hs:=hr.least hb
 have W:=hr.wgs hb
 have lb:Nr 18446744073709551615 (lrd rs):=fun x hx=>by
  have:=CB.ZfY (B:=200) (by decide) _ W (fun y hy=>hb y (by
   rcases List.mem_append.mp hy with hy | hy
   ·exact hy
   ·exact List.mem_of_mem_take hy)) x hx
  obtain ⟨⟨a1,a2⟩,a3,a4⟩:=this
  omega
 simp![F_first_reading,ZaX]
 refine CL.Zi6 h hr.ne W hl (fun x hx=>hb x hx) fun M1 K1 r1=> ?_
 generalize hls:lrd rs=ls at *
 have l1:=ZB r1
 generalize hm1:M.length=m1 at *
 simp![Zo]
 refine ZkF (K1.get h) r1 hs (by omega) hll lb fun k M2 K2 k2 r2=> ?_
 generalize hL:mkr rs ls=L at *
 have Ll:L.length=ls.length:=by rw[<- hL,Z1]
 have r12:=K2.get r1
 have K12:=K1.trans K2
 simp![Zo]
 refine ZiQ (fun i ρ M'=>Kp M2 M'/\ ∃ v3 v4 x5 x6 x7 x8 x9 x10,ρ=[some (.ref n),some (.ref m1),some (.ref k),some v3,some v4,x5,x6,x7,x8,x9,x10]/\Bst m1 L ls (St i 0) v3 v4 M') r12 ⟨Kp.refl,_,_,_,_,_,_,_,_,rfl,.inl ⟨rfl,rfl,fun i b z=>by unfold St at z;omega⟩⟩ (fun i ρ M' hI=>hI.1.get r12) ?_ ?_
 ·rintro i ρ M3 hi ⟨K3,v3,v4,x5,x6,x7,x8,x9,x10,rfl,hB⟩
  rw[Zz] at hi
  rw[CC.ZaH]
  have r3:=K3.get r2
  have s3:=K3.get r12
  have hk3:=ZB r3
  have hm3:=ZB s3
  have ei:((i:Nat):Int).toNat=i:=by omega
  simp![Zao,r3,ZvB]
  refine ⟨by rw[List.length_take,List.length_drop];omega,?_⟩
  rw[ei]
  refine ⟨by rw[List.length_reverse,Zz,List.length_take,List.length_drop,List.length_append,List.length_take,List.length_drop];omega,?_⟩
  generalize hM4:M3 ++ [SO.lst (prs (L.drop i)),SO.lst (prs (L.take i)),SO.lst (prs (L.drop i ++ L.take i)),SO.lst (prs ((L.drop i ++ L.take i).take 1)),SO.lst (prs ((L.drop i ++ L.take i).drop 1)).reverse,SO.lst (prs ((L.drop i ++ L.take i).take 1) ++ (prs ((L.drop i ++ L.take i).drop 1)).reverse)]=M4
  have K4:Kp M3 M4:=by rw[<- hM4];exact Kp.app
  have s4:=K4.get s3
  have ro:M4[M3.length + 2]?=some (.lst (prs (rdg L i false))):=by rw[<- hM4,Zkm];rfl
  have rb:M4[M3.length + 5]?=some (.lst (prs (rdg L i true))):=by
   rw[<- hM4,Zkm]
   simp[rdg,onw,prs]
  have hB4:=hB.kp K4
  have KK:=K3.trans K4
  clear hM4
  have kl:=(K12.trans K3).1
  have g1:m1<=M3.length + 2:=by omega
  have g2:m1<=M3.length + 5:=by omega
  generalize M3.length + 2=o1 at *
  generalize M3.length + 5=o2 at *
  have hm4:=ZB s4
  rw[CC.Zbp s4 (by omega)]
  simp![s4,Ze9]
  have K5:Kp M4 (M4 ++ [SO.lst [D.tup [D.ref o1,pr (cy ls ((i:Int) + 1)).1 (cy ls ((i:Int) + 1)).2],D.tup [D.ref o2,pr (cy ls ((i:Int) - 1)).1 (cy ls ((i:Int) - 1)).2]]]):=Kp.app
  have r5:(M4 ++ [SO.lst [D.tup [D.ref o1,pr (cy ls ((i:Int) + 1)).1 (cy ls ((i:Int) + 1)).2],D.tup [D.ref o2,pr (cy ls ((i:Int) - 1)).1 (cy ls ((i:Int) - 1)).2]]])[M4.length]?=some (.lst [D.tup [D.ref o1,pr (cy ls ((i:Int) + 1)).1 (cy ls ((i:Int) + 1)).2],D.tup [D.ref o2,pr (cy ls ((i:Int) - 1)).1 (cy ls ((i:Int) - 1)).2]]):=by simp
  generalize M4 ++ [SO.lst [D.tup [D.ref o1,pr (cy ls ((i:Int) + 1)).1 (cy ls ((i:Int) + 1)).2],D.tup [D.ref o2,pr (cy ls ((i:Int) - 1)).1 (cy ls ((i:Int) - 1)).2]]]=M5 at *
  have ro5:=K5.get ro
  have rb5:=K5.get rb
  have hB5:=hB4.kp K5
  refine Zep (fun t ρ M'=>M'=M5/\ ∃ v3 v4 x9 x10,ρ=[some (.ref n),some (.ref m1),some (.ref k),some v3,some v4,some (.int i),some (pr (cy ls i).1 (cy ls i).2),some (.ref o1),some (.ref o2),x9,x10]/\Bst m1 L ls (St i t) v3 v4 M5) r5 ⟨rfl,_,_,_,_,rfl,hB5⟩ (fun t ρ M' hI=>by rw[hI.1];exact r5) ?_ ?_
  ·rintro t ρ M' ht ⟨rfl,v3,v4,x9,x10,rfl,hB⟩
   have:t=0\/t=1:=by simp at ht;omega
   rcases this with rfl | rfl
   ·simp only[List.getElem_cons_zero]
    simp![Zo]
    refine Zui (i:=i) (bk:=false) ro5 (by omega) hB fun v3 v4 k=>⟨rfl,v3,v4,_,_,rfl,k.congr fun i' b'=> ?_⟩
    unfold St
    cases b'<;>simp
   ·simp only[List.getElem_cons_succ,List.getElem_cons_zero]
    simp![Zo]
    refine Zui (i:=i) (bk:=true) rb5 (by omega) hB fun v3 v4 k=>⟨rfl,v3,v4,_,_,rfl,k.congr fun i' b'=> ?_⟩
    unfold St
    cases b'<;>simp
  ·rintro ρ M' ⟨rfl,v3,v4,x9,x10,rfl,hB⟩
   refine ⟨KK.trans K5,v3,v4,_,_,_,_,_,_,rfl,hB.congr fun i' b'=> ?_⟩
   unfold St
   cases b'<;>simp<;>omega
 ·rintro ρ M3 ⟨K3,v3,v4,x5,x6,x7,x8,x9,x10,rfl,hB⟩
  have sl:=hs.len
  rcases hB with ⟨h1,h2,h3⟩ | ⟨i,b,o,h1,rfl,rfl,h4,h5⟩
  ·exact absurd (.inl (by rw[Zz];omega)) (h3 0 false)
  ·simp![Zo]
   unfold St at h1 h5
   rw[Zz] at h1 h5
   exact q i b o M3 (K12.trans K3) (by omega) (fun i' b' hi'=>h5 i' b' (.inl hi')) h1.2 h4
end
end CX
end
section
namespace CX
open PySem PySem.Spec L2 DL
open CB (Bd lrd Zap seg)
open CD (gg Zg8 sg)
section
variable {rs ls L L' O:List Pt}
theorem Zte (ne:O≠[]) (i:Int):cy (O.drop 1 ++ O.take 1).reverse i=cy O (0 - i):=by
 have h3:1<=O.length:=List.length_pos_iff.mpr ne
 have nn:O.drop 1 ++ O.take 1≠[]:=fun z=>by
  have:=congrArg List.length z
  rw[List.length_append,List.length_drop,List.length_take,List.length_nil] at this
  omega
 rw[CA.ZgE nn,ZbD (by omega)]
 congr 1
 simp only[Int.natCast_one,show ((1:Nat):Int)=1 from rfl]
 omega
theorem Znd (i d:Int):cy rs (i % rs.length + d)=cy rs (i + d):=by
 unfold cy
 rw[Int.emod_add_emod]
theorem Ztf {n:Nat} (F:Int->Pt) (hn:0 < n) (per: ∀ i,F (i % n)=F i) (i:Int):cy ((List.range n).map fun (i:Nat)=>F i) i=F i:=by
 have e:=ZaG (i:=i) (m:=n) (by omega)
 have l:((List.range n).map fun (i:Nat)=>F i).length=n:=by simp
 have:cy ((List.range n).map fun (i:Nat)=>F i) i=cy ((List.range n).map fun (i:Nat)=>F i) ((i % n).toNat:Nat):=by
  rw[<- ZcE,l]
  congr 1
  omega
 rw[this,ZcF (by rw[l];exact e.1),List.getElem_map,List.getElem_range,<- per i]
 congr 1
 omega
theorem ZgI (hl:ls≠[]) (i:Int):cy (mkr rs ls) i=(T ls i,if cy ls i∈rs then 1 else 0):=by
 unfold mkr
 refine Ztf (fun i=>(T ls i,if cy ls i∈rs then 1 else 0)) (List.length_pos_iff.mpr hl) (fun i=> ?_) i
 have e0:cy ls (i % ls.length)=cy ls i:=ZcE
 have e1:T ls (i % ls.length)=T ls i:=by
  unfold T
  rw[show i % (ls.length:Int) - 1=i % ls.length + -1 by omega,show i - 1=i + -1 by omega,Znd,Znd]
 simp only[e0,e1]
noncomputable def fn (L:List Pt) (x s:Int):List Pt:=(List.range L.length).map fun (t:Nat)=>cy L (x + s * t)
noncomputable def sn (b:Bool):Int:=if b then -1 else 1
theorem Zf4 {i:Nat}:(onw L i).length=L.length:=by unfold onw;rw[List.length_append,List.length_drop,List.length_take];omega
theorem Zfj {i:Nat} {b:Bool} (hi:i < L.length):rdg L i b=fn L i (sn b):=by
 have ne:onw L i≠[]:=fun z=>by
  have:=congrArg List.length z
  rw[Zf4] at this
  simp at this
  rw[this] at hi
  simp at hi
 cases b with
 |false=>
  show onw L i=_
  rw[<- Zb2 (us:=onw L i),Zf4]
  unfold fn sn
  refine List.map_congr_left fun t _=> ?_
  unfold onw
  rw[ZbD (by omega)]
  congr 1
  simp
  omega
 |true=>
  have e:rdg L i true=((onw L i).drop 1 ++ (onw L i).take 1).reverse:=by
   show (onw L i).take 1 ++ ((onw L i).drop 1).reverse=_
   obtain ⟨x,r,hx⟩:=List.exists_cons_of_ne_nil ne
   rw[hx]
   simp
  rw[e,<- Zb2 (us:=((onw L i).drop 1 ++ (onw L i).take 1).reverse)]
  have l:((onw L i).drop 1 ++ (onw L i).take 1).reverse.length=L.length:=by
   rw[List.length_reverse,List.length_append,List.length_drop,List.length_take,Zf4]
   omega
  rw[l]
  unfold fn sn
  refine List.map_congr_left fun t _=> ?_
  rw[Zte ne]
  unfold onw
  rw[ZbD (by omega)]
  congr 1
  simp
  omega
theorem ZqA {x s:Int}:fn L (x % L.length) s=fn L x s:=by
 unfold fn
 refine List.map_congr_left fun t _=> ?_
 exact Znd x _
theorem Zls {s j:Int} (hs:s=1\/s= -1) (hl:L'.length=L.length) (h: ∀ i,cy L' i=cy L (s * i + j)) {i:Nat} {b:Bool} (hi:i < L'.length): ∃ i0 b0,i0 < L.length/\rdg L' i b=rdg L i0 b0:=by
 have e:=ZaG (i:=s * i + j) (m:=L.length) (by omega)
 obtain ⟨b0,hb0⟩: ∃ b0,sn b0=s * sn b:=by
  rcases hs with rfl | rfl
  ·exact ⟨b,by omega⟩
  ·exact ⟨!b,by cases b<;>decide⟩
 refine ⟨((s * i + j) % L.length).toNat,b0,e.1,?_⟩
 rw[Zfj hi,Zfj e.1,Int.toNat_of_nonneg e.2,ZqA,hb0]
 unfold fn
 rw[hl]
 refine List.map_congr_left fun t _=> ?_
 rw[h]
 congr 1
 rw[Int.mul_add,Int.mul_assoc]
 omega
theorem Zjh {s j:Int} (hs:s=1\/s= -1) (hl:L'.length=L.length) (h: ∀ i,cy L' i=cy L (s * i + j)) {i i':Nat} {b b':Bool} (hi:i < L.length) (hi':i' < L'.length) (m: ∀ x y,x < L.length->ltP (rdg L x y) (rdg L i b)=false) (m': ∀ x y,x < L'.length->ltP (rdg L' x y) (rdg L' i' b')=false):rdg L' i' b'=rdg L i b:=by
 obtain ⟨x,y,hx,e⟩:=Zls hs hl h (b:=b') hi'
 have h': ∀ k,cy L k=cy L' (s * k + -(s * j)):=fun k=>by
  rw[h]
  congr 1
  rcases hs with rfl | rfl<;>omega
 obtain ⟨x',y',hx',e'⟩:=Zls hs hl.symm h' (b:=b) hi
 exact Zje (by rw[e];exact m x y hx) (by rw[e'];exact m' x' y' hx')
theorem Zne {a b c d:Int} {k:Nat} (hr:Rn rs) (hb:Nr 200 rs) (hg:Nr 200 (rs.map (gg a b c d))) (hd:a * d - b * c=1\/a * d - b * c= -1) (hk:k<=rs.length):
  (lrd (sg (decide (a * d - b * c < 0)) k (rs.map (gg a b c d)))).length=(lrd rs).length/\ ∃ j:Int,∀ i:Int,cy (mkr (sg (decide (a * d - b * c < 0)) k (rs.map (gg a b c d))) (lrd (sg (decide (a * d - b * c < 0)) k (rs.map (gg a b c d))))) i=cy (mkr rs (lrd rs)) ((a * d - b * c) * i + j):=by
 obtain ⟨j,e1,e2⟩:=CB.Zqu hr hb hg hd hk
 refine ⟨e1,j,fun i=> ?_⟩
 have ne:=(hr.least hb).ne
 have ne':lrd (sg (decide (a * d - b * c < 0)) k (rs.map (gg a b c d)))≠[]:=fun z=>by
  rw[z] at e1
  exact ne (List.eq_nil_of_length_eq_zero e1.symm)
 have sm: ∀ x,x∈sg (decide (a * d - b * c < 0)) k (rs.map (gg a b c d)) ↔ x∈rs.map (gg a b c d):=fun x=>by
  unfold sg
  generalize decide (a * d - b * c < 0)=neg
  have: ∀ l:List Pt,x∈l.drop k ++ l.take k ↔ x∈l:=fun l=>by
   conv=>rhs;rw[<- List.take_append_drop k l]
   rw[List.mem_append,List.mem_append]
   exact Or.comm
  rw[this]
  cases neg<;>simp
 rw[ZgI ne',ZgI ne,CB.Ztb e2 hd i]
 congr 1
 have:cy (lrd (sg (decide (a * d - b * c < 0)) k (rs.map (gg a b c d)))) i∈sg (decide (a * d - b * c < 0)) k (rs.map (gg a b c d)) ↔ cy (lrd rs) ((a * d - b * c) * i + j)∈rs:=by
  rw[sm,e2]
  constructor
  ·intro h
   obtain ⟨y,hy,e⟩:=List.mem_map.mp h
   rw[<- CB.Zjd hd e]
   exact hy
  ·intro h
   exact List.mem_map.mpr ⟨_,h,rfl⟩
 simp only[this]
theorem ZgJ: ∀ (l:List Pt) (z:Pt),∀ x∈l,x∈Zap (l ++ [z])
 | [],_,x,h=>by cases h
 | [a],z,x,h=>by
  simp at h
  subst h
  simp[Zap,seg]
 |a :: b :: l,z,x,h=>by
  have ih:=ZgJ (b :: l) z
  show x∈seg a b ++ Zap (b :: (l ++ [z]))
  rcases List.mem_cons.mp h with h | h
  ·subst h
   exact List.mem_append_left _ (by simp[seg])
  ·exact List.mem_append_right _ (ih x h)
theorem Zji (ne:rs≠[]): ∀ x∈rs,x∈lrd rs:=by
 obtain ⟨a,r,rfl⟩:=List.exists_cons_of_ne_nil ne
 exact ZgJ (a :: r) a
theorem ZgK (h:Rn rs):rs.Nodup:=by
 rw[List.Nodup,List.pairwise_iff_getElem]
 intro i j hi hj hij
 have:=h.lt_ne hij hj
 rwa [ZcF hi,ZcF hj] at this
theorem ZgL {i:Nat} {b:Bool}:(rdg L i b).Perm L:=by
 have o:(onw L i).Perm L:=by
  unfold onw
  refine List.perm_append_comm.trans ?_
  rw[List.take_append_drop]
 cases b with
 |false=>exact o
 |true=>
  show ((onw L i).take 1 ++ ((onw L i).drop 1).reverse).Perm L
  refine List.Perm.trans ?_ o
  conv=>rhs;rw[<- List.take_append_drop 1 (onw L i)]
  exact List.Perm.append_left _ (List.reverse_perm _)
end
end CX
end
section
namespace CX
open PySem PySem.Spec L2 DL
open CB (Bd lrd)
open CV
open CD (gg sg)
section
variable {M:Sto} {n:Nat} {rs cs ls L L':List Pt}
theorem ZqB {p:Pt} (h:Int.gcd p.1 p.2=1):CQ.shp p=p:=by
 unfold CQ.shp
 rw[if_neg (by omega),h]
 exact Prod.ext (Int.ediv_one _) (Int.ediv_one _)
theorem Zlt {k:Nat} (h:Rn rs):Rn (rs.drop k ++ rs.take k):=by
 refine ⟨?_,?_,fun p hp=>h.gc p ?_,h.fan.rot⟩
 ·have:=h.len
  rw[List.length_append,List.length_drop,List.length_take]
  omega
 ·rw[ZbE,List.take_append_drop]
  exact h.ps
 ·rcases List.mem_append.mp hp with hp | hp
  ·exact List.mem_of_mem_drop hp
  ·exact List.mem_of_mem_take hp
theorem Znf {a b c d:Int} {k:Nat} (h:Rn rs) (hd:a * d - b * c=1\/a * d - b * c= -1):Rn (sg (decide (a * d - b * c < 0)) k (rs.map (gg a b c d))):=by
 have gc: ∀ p∈rs,Int.gcd (gg a b c d p).1 (gg a b c d p).2=1:=fun p hp=>CB.ZdA (h.gc p hp) hd
 rcases hd with hd | hd
 ·have e:rs.map (gg a b c d)=rs.map fun p=>CQ.shp (gg a b c d p):=List.map_congr_left fun p hp=>(ZqB (gc p hp)).symm
  have:=CQ.Rn.led (a:=a) (b:=b) (c:=c) (d:=d) h (by omega)
  rw[<- e] at this
  rw[hd]
  exact Zlt this
 ·have f:Rn (rs.map (gg a b c d)).reverse:=by
   refine ⟨by rw[List.length_reverse,List.length_map];exact h.len,?_,fun p hp=> ?_,h.fan.flip (f:=gg a b c d) fun p q=>by rw[CD.Zg8,hd]⟩
   ·rw[ZfT,ZbF,CQ.ZcS (g:=nxp)]
    ·exact h.ps
    ·intro p _ q _
     unfold nxp
     rw[CD.Zg8,hd,ZdK (p:=q)]
     have e:(0 < -1 * (0 - X p q))=(0 < X p q):=propext (by omega)
     simp only[e]
   ·obtain ⟨x,hx,rfl⟩:=List.mem_map.mp (List.mem_reverse.mp hp)
    exact gc x hx
  rw[hd]
  exact Zlt f
theorem Zng {neg:Bool} {k:Nat} {us:List Pt} (h:Nr 200 us):Nr 200 (sg neg k us):=by
 intro x hx
 refine h x ?_
 unfold sg at hx
 cases neg
 ·rcases List.mem_append.mp hx with hx | hx
  ·exact List.mem_of_mem_drop hx
  ·exact List.mem_of_mem_take hx
 ·rcases List.mem_append.mp hx with hx | hx
  ·exact List.mem_reverse.mp (List.mem_of_mem_drop hx)
  ·exact List.mem_reverse.mp (List.mem_of_mem_take hx)
theorem Zjj {i:Nat} {b:Bool}:(rdg L i b).length=L.length:=ZgL.length_eq
theorem Znh {L:List Pt} {o:Nat} (hb:Bag n M) (r:M[o]?=some (.lst (prs L))) (h3:3<=L.length):o≠n:=by
 rintro rfl
 obtain ⟨a,b,_,e⟩:=hb
 rw[r] at e
 have:=congrArg (fun x:Option SO=>match x with | some (.lst l)=>l.length | none=>0) e
 simp[Zz] at this
 omega
theorem Zni:(lrd [(1,0),(0,1),(-1,-1)]).length<=1000000:=by
 have w:=CC.ZsX.rn.wgs (fun x hx=>by simp at hx;rcases hx with rfl | rfl | rfl<;>simp)
 have:=CL.ZfZ _ w fun A a b R e=>by
  have m: ∀ z∈([(1,0),(0,1),(-1,-1)]:List Pt) ++ [(1,0),(0,1),(-1,-1)].take 1,Bd 200 z:=fun z hz=>by
   simp at hz
   rcases hz with rfl | rfl | rfl | rfl<;>exact ⟨by decide,by decide⟩
  have:=CB.Zug (m a (by rw[e];simp)) (m b (by rw[e];simp))
  omega
 unfold lrd
 simp at this ⊢
 omega
theorem Zlu (hs:Smo L) {s:Int} (h:s=1\/s= -1) (j:Int):(cy L (j + s)).1= -(T L j) * (cy L j).1 - (cy L (j - s)).1/\(cy L (j + s)).2= -(T L j) * (cy L j).2 - (cy L (j - s)).2:=by
 have:=CN.ZmZ hs j
 rcases h with rfl | rfl
 ·omega
 ·rw[show j + -1=j - 1 by omega,show j - -1=j + 1 by omega]
  omega
theorem ZkG (b:Bool):sn b=1\/sn b= -1:=by cases b<;>simp[sn]
theorem Zjk {i:Nat} {b:Bool}:bsd L i b=cy L ((i:Int) + sn b):=by cases b<;>rfl
theorem Zlv {x s:Int} {t:Nat} (ht:t < L.length):(fn L x s)[t]?=some (cy L (x + s * t)):=by
 unfold fn
 rw[List.getElem?_map,List.getElem?_range ht]
 rfl
theorem ZqC {i i':Nat} {b b':Bool} (ne:L≠[]) (ne':L'≠[]) (hi:i < L.length) (hi':i' < L'.length) (e:rdg (mkr rs L) i b=rdg (mkr cs L') i' b'):
  L.length=L'.length/\ ∀ t:Nat,t < L.length->T L (i + sn b * t)=T L' (i' + sn b' * t)/\(cy L (i + sn b * t)∈rs ↔ cy L' (i' + sn b' * t)∈cs):=by
 have hl:L.length=L'.length:=by
  have:=congrArg List.length e
  rwa [Zjj,Zjj,Z1,Z1] at this
 refine ⟨hl,fun t ht=> ?_⟩
 rw[Zfj (by rw[Z1];exact hi),Zfj (by rw[Z1];exact hi')] at e
 have e:=congrArg (fun l:List Pt=>l[t]?) e
 rw[Zlv (by rw[Z1];exact ht),Zlv (by rw[Z1];omega),ZgI ne,ZgI ne'] at e
 have e:=Option.some.inj e
 refine ⟨congrArg Prod.fst e,?_⟩
 have e2:=congrArg Prod.snd e
 simp only at e2
 constructor
 ·intro h
  rw[if_pos h] at e2
  by_cases c:cy L' (i' + sn b' * t)∈cs
  ·exact c
  ·rw[if_neg c] at e2;cases e2
 ·intro h
  rw[if_pos h] at e2
  by_cases c:cy L (i + sn b * t)∈rs
  ·exact c
  ·rw[if_neg c] at e2;cases e2
theorem Znj {a b c d k:Int} {x y z x' y' z':Pt} (hx:gg a b c d x=x') (hy:gg a b c d y=y') (h1:z.1= -k * y.1 - x.1) (h2:z.2= -k * y.2 - x.2) (h3:z'.1= -k * y'.1 - x'.1) (h4:z'.2= -k * y'.2 - x'.2):gg a b c d z=z':=by
 subst hx hy
 unfold gg at *
 simp only at h3 h4 ⊢
 refine Prod.ext ?_ ?_
 ·rw[h3];simp only[h1,h2];grind
 ·rw[h4];simp only[h1,h2];grind
theorem Znk {a b c d:Int} {i i':Nat} {k k':Bool} (hs:Smo L) (hs':Smo L') (hi:i < L.length) (hi':i' < L'.length) (e:rdg (mkr rs L) i k=rdg (mkr cs L') i' k') (f0:gg a b c d (cy L i)=cy L' i') (f1:gg a b c d (bsd L i k)=bsd L' i' k'):
  ∀ t:Nat,t < L.length->gg a b c d (cy L (i + sn k * t))=cy L' (i' + sn k' * t)/\gg a b c d (cy L (i + sn k * (t + 1:Nat)))=cy L' (i' + sn k' * (t + 1:Nat)):=by
 obtain ⟨hl,h⟩:=ZqC hs.ne hs'.ne hi hi' e
 intro t
 induction t with
 |zero=>
  intro _
  rw[Zjk,Zjk] at f1
  refine ⟨?_,?_⟩
  ·simpa using f0
  ·simpa using f1
 |succ t ih=>
  intro ht
  obtain ⟨h1,h2⟩:=ih (by omega)
  refine ⟨h2,?_⟩
  obtain ⟨e1,-⟩:=h (t + 1) ht
  have a1:=Zlu hs (ZkG k) (i + sn k * (t + 1:Nat))
  have a2:=Zlu hs' (ZkG k') (i' + sn k' * (t + 1:Nat))
  rw[<- e1] at a2
  have z1: ∀ (j s:Int),j + s * ((t + 1 + 1:Nat):Int)=j + s * ((t + 1:Nat):Int) + s:=fun j s=>by grind
  have z2: ∀ (j s:Int),j + s * ((t + 1:Nat):Int) - s=j + s * (t:Int):=fun j s=>by grind
  rw[z2] at a1 a2
  rw[z1,z1]
  exact Znj h1 h2 a1.1 a1.2 a2.1 a2.2
theorem Zjd {a b c d:Int} (hd:a * d - b * c=1\/a * d - b * c= -1) {p q:Pt} (h:gg a b c d p=gg a b c d q):p=q:=by
 unfold gg at h
 have h1:=congrArg Prod.fst h
 have h2:=congrArg Prod.snd h
 simp only at h1 h2
 refine Prod.ext ?_ ?_<;>rcases hd with hd | hd<;>grind
theorem ZqD {i:Nat} {b:Bool} (hi:i < L.length) {p:Pt} (h:p∈L): ∃ t:Nat,t < L.length/\cy L (i + sn b * t)=p:=by
 have h:=(ZgL (i:=i) (b:=b)).mem_iff.mpr h
 rw[Zfj hi] at h
 obtain ⟨t,ht,e⟩:=List.mem_map.mp h
 exact ⟨t,List.mem_range.mp ht,e⟩
theorem Znl {a b c d:Int} {i i':Nat} {k k':Bool} (hr:Rn rs) (hb:Nr 200 rs) (hr':Rn cs) (hb':Nr 200 cs) (hi:i < (lrd rs).length) (hi':i' < (lrd cs).length) (e:rdg (mkr rs (lrd rs)) i k=rdg (mkr cs (lrd cs)) i' k') (hd:a * d - b * c=1\/a * d - b * c= -1)
  (f0:gg a b c d (cy (lrd rs) i)=cy (lrd cs) i') (f1:gg a b c d (bsd (lrd rs) i k)=bsd (lrd cs) i' k'):(rs.map (gg a b c d)).Perm cs:=by
 have hs:=hr.least hb
 have hs':=hr'.least hb'
 obtain ⟨hl,hm⟩:=ZqC hs.ne hs'.ne hi hi' e
 have hf:=Znk hs hs' hi hi' e f0 f1
 refine (List.perm_ext_iff_of_nodup (List.Pairwise.map _ (fun x y (h:x≠y) z=>h (Zjd hd z)) (ZgK hr)) (ZgK hr')).mpr fun x=>⟨fun h=> ?_,fun h=> ?_⟩
 ·obtain ⟨p,hp,rfl⟩:=List.mem_map.mp h
  obtain ⟨t,ht,rfl⟩:=ZqD (b:=k) hi (Zji hr.ne p hp)
  rw[(hf t ht).1]
  exact (hm t ht).2.mp hp
 ·obtain ⟨t,ht,rfl⟩:=ZqD (b:=k') hi' (Zji hr'.ne x h)
  have ht':t < (lrd rs).length:=by omega
  exact List.mem_map.mpr ⟨_,(hm t ht').2.mpr h,(hf t ht').1⟩
end
end CX
end
section
namespace CP
open PySem PySem.Spec L2 DL
open CC (F_crossed)
open CX (F_first_reading)
noncomputable def Zck:Sv:=(Zar (e2 dEq (Zl bAbs (Zc (Zl F_crossed (Zc (Zh 0) (Zc (Zh 1) aNil))) aNil)) (eC (.int 1))))
noncomputable def F_spanned:List D->Sto->Out D:=fnF Zck 2 0
noncomputable def Zet:Sv:=(ZK (ZQ (gTp (gCs (gTp (gCs (gNm 2) (gCs (gNm 3) gNl))) (gCs (gTp (gCs (gNm 4) (gCs (gNm 5) gNl))) gNl))) (Zh 0))
 (ZK (ZQ (gTp (gCs (gNm 6) (gCs (gNm 7) gNl))) (Zh 1))
 (Zar (Zaq (Zc (e2 dAdd (e2 dMul (Zh 2) (Zh 6)) (e2 dMul (Zh 3) (Zh 7))) (Zc (e2 dAdd (e2 dMul (Zh 4) (Zh 6)) (e2 dMul (Zh 5) (Zh 7))) aNil))))))
noncomputable def F_turned:List D->Sto->Out D:=fnF Zet 2 6
noncomputable def Zjl:Sv:=(ZK (ZQ (gTp (gCs (gTp (gCs (gNm 1) (gCs (gNm 2) gNl))) (gCs (gTp (gCs (gNm 3) (gCs (gNm 4) gNl))) gNl))) (Zh 0))
 (ZK (ZQ (gNm 5) (Zl F_crossed (Zc (Zaq (Zc (Zh 1) (Zc (Zh 2) aNil))) (Zc (Zaq (Zc (Zh 3) (Zc (Zh 4) aNil))) aNil))))
 (Zar (Zaq (Zc (Zaq (Zc (e2 dMul (Zh 5) (Zh 4)) (Zc (e2 dMul (ZfE (Zh 5)) (Zh 2)) aNil))) (Zc (Zaq (Zc (e2 dMul (ZfE (Zh 5)) (Zh 3)) (Zc (e2 dMul (Zh 5) (Zh 1)) aNil))) aNil))))))
noncomputable def F_back:List D->Sto->Out D:=fnF Zjl 1 5
noncomputable def ZcT:Sv:=(Zar (Zaq (Zc (Zaq (Zc (e2 dIx (Zh 0) (eC (.int 0))) (Zc (e2 dIx (Zh 1) (eC (.int 0))) aNil))) (Zc (Zaq (Zc (e2 dIx (Zh 0) (eC (.int 1))) (Zc (e2 dIx (Zh 1) (eC (.int 1))) aNil))) aNil))))
noncomputable def F_beside:List D->Sto->Out D:=fnF ZcT 2 0
noncomputable def Zjm:Sv:=(ZK (ZQ (gNm 2) (Zl F_turned (Zc (Zh 1) (Zc (Zl F_turned (Zc (Zh 0) (Zc (Zaq (Zc (eC (.int 1)) (Zc (eC (.int 0)) aNil))) aNil))) aNil))))
 (ZK (ZQ (gNm 3) (Zl F_turned (Zc (Zh 1) (Zc (Zl F_turned (Zc (Zh 0) (Zc (Zaq (Zc (eC (.int 0)) (Zc (eC (.int 1)) aNil))) aNil))) aNil))))
 (Zar (Zl F_beside (Zc (Zh 2) (Zc (Zh 3) aNil))))))
noncomputable def F_then:List D->Sto->Out D:=fnF Zjm 2 2
noncomputable def ZdB:Sv:=(ZK (sIf (Zju (Zc1 (tv (Zl F_spanned (Zc (Zh 0) (Zc (Zh 1) aNil))))) (Zc1 (tv (Zl F_spanned (Zc (Zh 2) (Zc (Zh 3) aNil)))))) (ZcB (PySem.Str.ofString "NoTurning") (Zc (eC (.str (PySem.Str.ofString "a turning leads two that span to two that span"))) aNil)) sNil)
 (Zar (Zl F_then (Zc (Zl F_back (Zc (Zl F_beside (Zc (Zh 0) (Zc (Zh 1) aNil))) aNil)) (Zc (Zl F_beside (Zc (Zh 2) (Zc (Zh 3) aNil))) aNil)))))
noncomputable def F_leading:List D->Sto->Out D:=fnF ZdB 4 0
noncomputable def Zcv:Sv:=(ZK (ZQ (gTp (gCs (gNm 2) (gCs (gTp (gCs (gNm 3) (gCs (gNm 4) gNl))) gNl))) (Zl F_first_reading (Zc (Zh 0) aNil)))
 (ZK (ZQ (gTp (gCs (gNm 5) (gCs (gTp (gCs (gNm 6) (gCs (gNm 7) gNl))) gNl))) (Zl F_first_reading (Zc (Zh 1) aNil)))
 (ZK (sIf (tv (e2 dNe (Zh 2) (Zh 5))) (Zar (Zaq (Zc (eC (.str (PySem.Str.ofString "unlike"))) (Zc (Zh 2) (Zc (Zh 5) aNil))))) sNil)
 (Zar (Zaq (Zc (eC (.str (PySem.Str.ofString "alike"))) (Zc (Zl F_leading (Zc (Zh 3) (Zc (Zh 4) (Zc (Zh 6) (Zc (Zh 7) aNil))))) aNil)))))))
noncomputable def F_likeness:List D->Sto->Out D:=fnF Zcv 2 6
noncomputable def Za9:Sv:=(ZK (sIf (Zju (Zc1 (tv (ZjZ "tuple" (Zh 2)))) (Zju (tv (e2 dNe (Zl bLen (Zc (Zh 2) aNil)) (eC (.int 2)))) (Zju (tv (e2 dNe (e2 dIx (Zh 2) (eC (.int 0))) (eC (.str (PySem.Str.ofString "alike"))))) (Zc1 (tv (ZjZ "tuple" (e2 dIx (Zh 2) (eC (.int 1))))))))) (Zar (eC (.bl false))) sNil)
 (ZK (ZQ (gTp (gCs (gTp (gCs (gNm 3) (gCs (gNm 4) gNl))) (gCs (gTp (gCs (gNm 5) (gCs (gNm 6) gNl))) gNl))) (e2 dIx (Zh 2) (eC (.int 1))))
 (ZK (sIf (tv (e2 dNotIn (e2 dSub (e2 dMul (Zh 3) (Zh 6)) (e2 dMul (Zh 4) (Zh 5))) (Zaq (Zc (eC (.int 1)) (Zc (ZfE (eC (.int 1))) aNil))))) (Zar (eC (.bl false))) sNil)
 (Zar (e2 dEq (Zl bSrt (Zc (Zbx (iSq (Zh 0)) 2 [3,4,5,6] (gTp (gCs (gNm 0) (gCs (gNm 1) gNl))) (fun _ M=> .ok true M) (Zaq (Zc (e2 dAdd (e2 dMul (Zh 2) (Zh 0)) (e2 dMul (Zh 3) (Zh 1))) (Zc (e2 dAdd (e2 dMul (Zh 4) (Zh 0)) (e2 dMul (Zh 5) (Zh 1))) aNil)))) aNil)) (Zl bSrt (Zc (Zh 1) aNil)))))))
noncomputable def F_law_is_alike:List D->Sto->Out D:=fnF Za9 3 4
end CP
end
section
namespace CP
open PySem PySem.Spec L2 DL
open CB (Bd lrd)
open CV CX
open CD (gg sg)
open CC (F_crossed ZS)
section
variable {Q:D->Sto->Prop} {E:Str->Sto->Prop} {M:Sto} {n m p:Nat} {rs cs ls L:List Pt} {N B C:Ro->Sto->Prop} {R:D->Sto->Prop}
noncomputable def kp (p:Pt):List Int:=[p.1,p.2]
noncomputable def up (l:List Int):Pt:=(l.getD 0 0,l.getD 1 0)
noncomputable def sp (rs:List Pt):List Pt:=(ST.srt (rs.map kp)).map up
theorem Ztg (h:rs.Perm cs):sp rs=sp cs:=by unfold sp;rw[ST.ZoU (h.map kp)]
theorem ZgM: ∀ rs:List Pt,ksD (prs rs)=some (rs.map kp)
 | []=>rfl
 |x :: r=>by
  have:=ZgM r
  show ksD (pr x.1 x.2 :: prs r)=_
  rw[ksD,this]
  rfl
theorem Znm:(ST.srt (rs.map kp)).map tupD=prs (sp rs):=by
 have h: ∀ l∈ST.srt (rs.map kp),tupD l=pr (up l).1 (up l).2:=fun l hl=>by
  obtain ⟨x,-,rfl⟩:=List.mem_map.mp ((ST.ZcR _).mem_iff.mp hl)
  rfl
 rw[List.map_congr_left h]
 unfold sp prs
 rw[List.map_map]
 rfl
theorem ZqE (h:M[n]?=some (.lst (prs rs))) (hl:rs.length < 64):bSrt [.ref n] M= .ok (.ref M.length) (M ++ [.lst (prs (sp rs))]):=by
 simp only[bSrt,h,ZiI,Zz,ZgM,if_pos hl,Znm]
theorem ZkH {a b c d x y:Int} (ha: -1000<=a/\a<=1000) (hb: -1000<=b/\b<=1000) (hc: -1000<=c/\c<=1000) (hd: -1000<=d/\d<=1000) (hx: -1000<=x/\x<=1000) (hy: -1000<=y/\y<=1000):wO (F_turned [.tup [pr a b,pr c d],pr x y] M) Q E=Q (pr (a * x + b * y) (c * x + d * y)) M:=by
 simp![F_turned,Zet]
theorem ZcU {a b c d x y:Int} (ha: -1000<=a/\a<=1000) (hb: -1000<=b/\b<=1000) (hc: -1000<=c/\c<=1000) (hd: -1000<=d/\d<=1000) (hx: -1000<=x/\x<=1000) (hy: -1000<=y/\y<=1000) (q:Q (pr (a * x + b * y) (c * x + d * y)) M):wO (F_turned [.tup [pr a b,pr c d],pr x y] M) Q E:=by rw[ZkH ha hb hc hd hx hy];exact q
theorem ZqF {u v p q:Pt} {s:Int} (hs:X u v=s) (h1:s=1\/s= -1) (h2:X p q=1\/X p q= -1) (hu:(-200<=u.1/\u.1<=200)/\ -200<=u.2/\u.2<=200) (hv:(-200<=v.1/\v.1<=200)/\ -200<=v.2/\v.2<=200) (hp:(-200<=p.1/\p.1<=200)/\ -200<=p.2/\p.2<=200) (hq:(-200<=q.1/\q.1<=200)/\ -200<=q.2/\q.2<=200)
  (w:Q (.tup [pr (p.1 * (s * v.2) + q.1 * (-s * u.2)) (p.1 * (-s * v.1) + q.1 * (s * u.1)),pr (p.2 * (s * v.2) + q.2 * (-s * u.2)) (p.2 * (-s * v.1) + q.2 * (s * u.1))]) M):wO (F_leading [pr u.1 u.2,pr v.1 v.2,pr p.1 p.2,pr q.1 q.2] M) Q E:=by
 have h2':(p.1 * q.2 - p.2 * q.1).natAbs=1:=by unfold X at h2;omega
 have h2'':((p.1 * q.2 - p.2 * q.1).natAbs:Int)=1:=by omega
 have e1:u.1 * v.2 - u.2 * v.1=s:=hs
 have e2:u.1 * v.2 - v.1 * u.2=s:=by rw[Int.mul_comm v.1 u.2];exact hs
 have h1':s.natAbs=1:=by omega
 have h1'':(s.natAbs:Int)=1:=by omega
 have b1: ∀ x:Int,(-200<=x/\x<=200)-> -1000<=s * x/\s * x<=1000:=fun x hx=>by rcases h1 with rfl | rfl<;>omega
 have b2: ∀ x:Int,(-200<=x/\x<=200)-> -1000<= -s * x/\ -s * x<=1000:=fun x hx=>by rcases h1 with rfl | rfl<;>omega
 have c1:=b1 v.2 (by omega)
 have c2:=b2 v.1 (by omega)
 have c3:=b2 u.2 (by omega)
 have c4:=b1 u.1 (by omega)
 simp![F_leading,ZdB,F_spanned,Zck,F_crossed,ZS,F_then,Zjm,F_back,Zjl,F_beside,ZcT,h2',h2'',e1,e2,h1',h1'']
 refine ZcU c1 c2 c3 c4 (by omega) (by omega) ?_
 simp only[Int.mul_one,Int.mul_zero,Int.add_zero,Int.zero_add]
 simp![Zo]
 refine ZcU (by omega) (by omega) (by omega) (by omega) c1 c3 ?_
 simp![Zo]
 refine ZcU c1 c2 c3 c4 (by omega) (by omega) ?_
 simp only[Int.mul_one,Int.mul_zero,Int.add_zero,Int.zero_add]
 simp![Zo]
 refine ZcU (by omega) (by omega) (by omega) (by omega) c2 c4 ?_
 simp![F_beside,ZcT]
 exact w
theorem pb {x y:Int} (hx: -200<=x/\x<=200) (hy: -200<=y/\y<=200): -40000<=x * y/\x * y<=40000:=by
 have:(x * y).natAbs<=200 * 200:=by rw[Int.natAbs_mul];exact Nat.mul_le_mul (by omega) (by omega)
 omega
noncomputable def Bx (x:Int):Prop:= -100000<=x/\x<=100000
theorem ZqG {u v p q:Pt} {s:Int} (hs:X u v=s) (h1:s=1\/s= -1) (h2:X p q=1\/X p q= -1) (hu:(-200<=u.1/\u.1<=200)/\ -200<=u.2/\u.2<=200) (hv:(-200<=v.1/\v.1<=200)/\ -200<=v.2/\v.2<=200) (hp:(-200<=p.1/\p.1<=200)/\ -200<=p.2/\p.2<=200) (hq:(-200<=q.1/\q.1<=200)/\ -200<=q.2/\q.2<=200)
  (w: ∀ a b c d,gg a b c d u=p->gg a b c d v=q->(a * d - b * c=1\/a * d - b * c= -1)->Bx a->Bx b->Bx c->Bx d->Q (.tup [pr a b,pr c d]) M):wO (F_leading [pr u.1 u.2,pr v.1 v.2,pr p.1 p.2,pr q.1 q.2] M) Q E:=by
 refine ZqF hs h1 h2 hu hv hp hq (w _ _ _ _ ?_ ?_ ?_ ?_ ?_ ?_ ?_)
 ·unfold X at hs
  unfold gg
  refine Prod.ext ?_ ?_<;>simp only<;>rcases h1 with rfl | rfl<;>grind
 ·unfold X at hs
  unfold gg
  refine Prod.ext ?_ ?_<;>simp only<;>rcases h1 with rfl | rfl<;>grind
 ·have e:(p.1 * (s * v.2) + q.1 * (-s * u.2)) * (p.2 * (-s * v.1) + q.2 * (s * u.1)) - (p.1 * (-s * v.1) + q.1 * (s * u.1)) * (p.2 * (s * v.2) + q.2 * (-s * u.2))=X p q * (s * s * X u v):=by unfold X;grind
  rw[e,hs]
  rcases h1 with rfl | rfl<;>rcases h2 with h2 | h2<;>rw[h2]<;>simp
 all_goals
  have h1:= @pb
  have a1:=pb hp.1 hv.2
  have a2:=pb hp.1 hv.1
  have a3:=pb hq.1 hu.2
  have a4:=pb hq.1 hu.1
  have a5:=pb hp.2 hv.2
  have a6:=pb hp.2 hv.1
  have a7:=pb hq.2 hu.2
  have a8:=pb hq.2 hu.1
  unfold Bx
  rcases ‹s=1\/s= -1› with rfl | rfl<;>simp only[Int.one_mul,Int.neg_mul,Int.mul_neg,Int.neg_neg]<;>omega
theorem ZqH (hs:Smo L) {i:Nat} {b:Bool}:X (cy L i) (bsd L i b)=sn b:=by
 cases b with
 |false=>exact hs.one i
 |true=>
  have:=hs.one ((i:Int) - 1)
  rw[show (i:Int) - 1 + 1=i by omega,ZdK] at this
  show X (cy L i) (cy L ((i:Int) - 1))= -1
  omega
theorem Zlw (hr:Rn rs) (hb:Nr 200 rs):Nr 200 (lrd rs):=fun x hx=>CB.ZfY (B:=200) (by decide) _ (hr.wgs hb) (fun y hy=>hb y (by
 rcases List.mem_append.mp hy with hy | hy
 ·exact hy
 ·exact List.mem_of_mem_take hy)) x hx
noncomputable def Bs (rs:List Pt) (i:Nat) (b:Bool):Prop:=i < (lrd rs).length/\ ∀ i' b',i' < (lrd rs).length->ltP (rdg (mkr rs (lrd rs)) i' b') (rdg (mkr rs (lrd rs)) i b)=false
noncomputable def Zjt (rs cs:List Pt):Prop:= ∀ i b i' b',Bs rs i b->Bs cs i' b'->rdg (mkr rs (lrd rs)) i b=rdg (mkr cs (lrd cs)) i' b'
structure Rd0 (rs:List Pt):Prop where
 rn:Rn rs
 nr:Nr 200 rs
 le:rs.length<=44
 ll:(lrd rs).length<=1000000
noncomputable def Led (rs cs:List Pt) (a b c d:Int):Prop:=(rs.map (gg a b c d)).Perm cs/\(a * d - b * c=1\/a * d - b * c= -1)/\Bx a/\Bx b/\Bx c/\Bx d
theorem ZqI (h:M[n]?=some (.lst (prs rs))) (h':M[m]?=some (.lst (prs cs))) (hr:Rd0 rs) (hc:Rd0 cs) (S:Zjt rs cs) (q: ∀ a b c d M',Kp M M'->Led rs cs a b c d->Q (.tup [.str (PySem.Str.ofString "alike"),.tup [pr a b,pr c d]]) M'):wO (F_likeness [.ref n,.ref m] M) Q E:=by
 have ll:=hr.le
 have lc:=hc.le
 simp![F_likeness,Zcv]
 refine Zfi h hr.rn hr.nr (by omega) hr.ll fun i b o M1 K1 hi hm _ r1=> ?_
 simp![Zo]
 refine Zfi (K1.get h') hc.rn hc.nr (by omega) hc.ll fun i' b' o' M2 K2 hi' hm' _ r2=> ?_
 have e:=S i b i' b' ⟨hi,hm⟩ ⟨hi',hm'⟩
 have r1:=K2.get r1
 rw[<- e] at r2
 have e8:eqF 12 M2 (.ref o) (.ref o')=some (decide (rdg (mkr rs (lrd rs)) i b=rdg (mkr rs (lrd rs)) i b)):=CU.Zky (k:=9) r1 r2
 rw[decide_eq_true rfl] at e8
 simp![e8]
 have s1:=hr.rn.least hr.nr
 have s2:=hc.rn.least hc.nr
 have n1:=Zlw hr.rn hr.nr
 have n2:=Zlw hc.rn hc.nr
 have bb: ∀ {L:List Pt} (n:Nr 200 L) (ne:L≠[]) (i:Nat) (b:Bool),(-200<=(bsd L i b).1/\(bsd L i b).1<=200)/\ -200<=(bsd L i b).2/\(bsd L i b).2<=200:=fun n ne i b=>by rw[Zjk];exact n.cy ne _
 refine ZqG (ZqH s1) (ZkG b) (by rw[ZqH s2];exact ZkG b') (n1.cy s1.ne _) (bb n1 s1.ne i b) (n2.cy s2.ne _) (bb n2 s2.ne i' b') fun x y z w f0 f1 hd b1 b2 b3 b4=> ?_
 simp![Zo]
 exact q _ _ _ _ _ (K1.trans K2) ⟨Znl hr.rn hr.nr hc.rn hc.nr hi hi' e hd f0 f1,hd,b1,b2,b3,b4⟩
theorem Znn {a b c d:Int} (h:M[n]?=some (.lst (prs rs))) (h':M[m]?=some (.lst (prs cs))) (hr:Rd0 rs) (hc:Rd0 cs) (hl:Led rs cs a b c d) (q: ∀ M',Kp M M'->Q (.bl true) M'):wO (F_law_is_alike [.ref n,.ref m,.tup [.str (PySem.Str.ofString "alike"),.tup [pr a b,pr c d]]] M) Q E:=by
 obtain ⟨hp,hd,h1,h2,h3,h4⟩:=hl
 have ll:=hr.le
 have lc:=hc.le
 have hn:=ZB h
 have hm:=ZB h'
 unfold Bx at h1 h2 h3 h4
 have es:eqF 12 M (.str (PySem.Str.ofString "alike")) (.str (PySem.Str.ofString "alike"))=some true:=by
  show some (decide _)=_
  rw[decide_eq_true rfl]
 have en:dNotIn (.int (a * d - b * c)) (.tup [.int 1,.int (-1)]) M= .ok (.bl false) M:=by rcases hd with hd | hd<;>rw[hd]<;>rfl
 simp![F_law_is_alike,Za9,es,en]
 refine Zp8 (fun ρ=> ∃ x y,ρ=[x,y,some (.int a),some (.int b),some (.int c),some (.int d)]) (fun (i:Nat)=>pr (gg a b c d (cy rs i)).1 (gg a b c d (cy rs i)).2) h (by rw[Zz];omega) ⟨_,_,rfl⟩ ?_ ?_
 ·rintro i hi ρ L ⟨x,y,rfl⟩
  rw[Zz] at hi
  have:=hr.nr.cy hr.rn.ne i
  rw[CC.ZaH]
  simp![Zo]
  exact ⟨⟨_,_,rfl⟩,rfl⟩
 ·rw[Zz]
  have e:(List.range rs.length).map (fun (i:Nat)=>pr (gg a b c d (cy rs i)).1 (gg a b c d (cy rs i)).2)=prs (rs.map (gg a b c d)):=by
   conv=>rhs;rw[<- Zb2 (us:=rs)]
   unfold prs
   rw[List.map_map,List.map_map]
   rfl
  rw[e]
  have K1:Kp M (M ++ [.lst (prs (rs.map (gg a b c d)))]):=Kp.app
  have r1:(M ++ [SO.lst (prs (rs.map (gg a b c d)))])[M.length]?=some (.lst (prs (rs.map (gg a b c d)))):=by simp
  have r2:=K1.get h'
  generalize M ++ [SO.lst (prs (rs.map (gg a b c d)))]=M1 at *
  have q1:=ZqE r1 (by rw[List.length_map];omega)
  simp![q1]
  have K2:Kp M1 (M1 ++ [.lst (prs (sp (rs.map (gg a b c d))))]):=Kp.app
  have r3:(M1 ++ [SO.lst (prs (sp (rs.map (gg a b c d))))])[M1.length]?=some (.lst (prs (sp (rs.map (gg a b c d))))):=by simp
  have r4:=K2.get r2
  generalize M1 ++ [SO.lst (prs (sp (rs.map (gg a b c d))))]=M2 at *
  have q2:=ZqE r4 (by omega)
  simp![q2]
  have K3:Kp M2 (M2 ++ [.lst (prs (sp cs))]):=Kp.app
  have r5:(M2 ++ [SO.lst (prs (sp cs))])[M2.length]?=some (.lst (prs (sp cs))):=by simp
  have r6:=K3.get r3
  rw[<- Ztg hp] at r5 K3 r6 ⊢
  have e8:eqF 12 (M2 ++ [SO.lst (prs (sp (rs.map (gg a b c d))))]) (.ref M1.length) (.ref M2.length)=some (decide (sp (rs.map (gg a b c d))=sp (rs.map (gg a b c d)))):=CU.Zky (k:=9) r6 r5
  rw[decide_eq_true rfl] at e8
  simp![e8]
  exact q _ ((K1.trans K2).trans K3)
theorem Zjt.symm (h:Zjt rs cs):Zjt cs rs:=fun i b i' b' h1 h2=>(h i' b' i b h2 h1).symm
end
end CP
end
section
end
section
end
section
end
section
namespace K34
open CC (ZS F_crossed ZaT F_following Zac ZaU F_unspanned ZaC F_ask_smooth)
open CP (Zck F_spanned Zet F_turned Zjl F_back ZcT F_beside Zjm F_then ZdB F_leading Zcv F_likeness Za9 F_law_is_alike)
open CB (ZbG Zdv F_partner Za4 F_first_behind Zbq Zcr F_expanded ZmV F_row ZbH Zdw F_between Zb0 F_law_purse Zcs F_law_take Zch F_law_crossed Za5 Zb1 F_law_short)
open CL (ZaI Zbs F_least_round)
open CE (Zdu F_numbers)
open CX (ZbK F_marked_row ZN Zao ZaX F_first_reading)
open CQ (Za6 F_law_greatest ZbI Zdy F_law_put Zbt F_law_sheared ZaV ZaW ZbJ F_law_smooth Za7 Zb3 F_law_round Za8 Zb4 F_law_table Zcj F_law_led Zct F_law_copy)
open PySem PySem.Spec L2 DL
noncomputable def top (i:Nat):Stmt:=PySem.Challenge.pw_rayround_k34_alike_by_turnings.main.body.getD i (.Pass ⟨0,0,0,0⟩)
structure Txt (K:PySem.W.Frag) (mg:Str->Option Value):Prop where
 gl: ∀ c v,PySem.W.nsIn K mainGlobals c=some (some v)->mg c=some v
 b_isinstance:mg "isinstance"=none
 b_int:mg "int"=none
 b_bool:mg "bool"=none
 b_tuple:mg "tuple"=none
 b_len:mg "len"=none
 b_abs:mg "abs"=none
 b_enumerate:mg "enumerate"=none
 b_range:mg "range"=none
 b_zip:mg "zip"=none
 b_max:mg "max"=none
 b_reversed:mg "reversed"=none
 b_list:mg "list"=none
 b_sorted:mg "sorted"=none
 b_min:mg "min"=none
 ex_NoTurning:Zj8 K "NoTurning"=true
 ex_NotSmooth:Zj8 K "NotSmooth"=true
 ex_NoWedge:Zj8 K "NoWedge"=true
section
variable {P:Program} {w:World} {K:PySem.W.Frag} {mg:Str->Option Value} {base:Heap}
noncomputable abbrev ZaN:Stmt:=top 6
noncomputable def ZdV:Sv:=(Zar (Zd5 (ZjZ "int" (Zh 0)) (ZjT (ZjZ "bool" (Zh 0)))))
noncomputable def F_is_whole:List D->Sto->Out D:=fnF ZdV 1 0
theorem Zf5:FnScope ["thing"] ["thing"] (Zg ZaN):=⟨rfl,rfl,rfl,by decide +kernel,rfl,by decide +kernel,by decide +kernel⟩
theorem Zf6 {f:Addr} {fd:FuncData} (F:Fun K "is_whole" "is_whole" ZaN f fd) (T:Txt K mg):FnOk P w K mg base (CXE P w) 1 f fd ["thing"] (spD K F_is_whole):=
 Z0 F Zf5 rfl rfl fun cdv A outer s H E hr θ=>(Zj (ZA (ZdR (ZdT Zl1 T.b_isinstance T.b_int Zc9 (Zb 0)) (ZhZ (Zoa (ZdT Zj0 T.b_isinstance T.b_bool Zl4 (Zb 0)))))))
noncomputable abbrev Zbe:Stmt:=top 8
noncomputable def Zfk:Sv:=(Zar (Zd5 (ZjZ "tuple" (Zh 0)) (Zd5 (e2 dEq (Zl bLen (Zc (Zh 0) aNil)) (eC (.int 2))) (Zd5 (Zl F_is_whole (Zc (e2 dIx (Zh 0) (eC (.int 0))) aNil)) (Zl F_is_whole (Zc (e2 dIx (Zh 0) (eC (.int 1))) aNil))))))
noncomputable def F_is_pair:List D->Sto->Out D:=fnF Zfk 1 0
theorem Zg9:FnScope ["thing"] ["thing"] (Zg Zbe):=⟨rfl,rfl,rfl,by decide +kernel,rfl,by decide +kernel,by decide +kernel⟩
theorem Zha {f:Addr} {fd:FuncData} (F:Fun K "is_pair" "is_pair" Zbe f fd) (T:Txt K mg) (C_is_whole:Cal P w K mg base "is_whole" 1 1 F_is_whole):FnOk P w K mg base (CXE P w) 2 f fd ["thing"] (spD K F_is_pair):=
 Z0 F Zg9 rfl rfl fun cdv A outer s H E hr θ=>(Zj (ZA (ZdR (ZdT Zca T.b_isinstance T.b_tuple ZcP (Zb 0)) (ZdR (Zb8 (ZbA hr.units) Zc3 (Zv Zu ZaB T.b_len PySem.boot_len (Za (Zb 0) Zd)) Ze) (ZdR (Zi C_is_whole θ (hr.mono (by decide)) (Za (Zp (Zb 0) Ze) Zd)) (ZhZ (Zi C_is_whole θ (hr.mono (by decide)) (Za (Zp (Zb 0) Ze) Zd))))))))
noncomputable abbrev Zbf:Stmt:=top 9
theorem Zhb:FnScope ["one","other"] ["one","other"] (Zg Zbf):=⟨rfl,rfl,rfl,by decide +kernel,rfl,by decide +kernel,by decide +kernel⟩
theorem Zhc {f:Addr} {fd:FuncData} (F:Fun K "crossed" "crossed" Zbf f fd) (T:Txt K mg):FnOk P w K mg base (CXE P w) 1 f fd ["one","other"] (spD K F_crossed):=
 Z0 F Zhb rfl rfl fun cdv A outer s H E hr θ=>(Zj (ZA (Z8 (Zy (Zp (Zb 0) Ze) (Zp (Zb 1) Ze)) (Zy (Zp (Zb 0) Ze) (Zp (Zb 1) Ze)))))
noncomputable abbrev Zbg:Stmt:=top 10
theorem Zhd:FnScope ["one","other"] ["one","other"] (Zg Zbg):=⟨rfl,rfl,rfl,by decide +kernel,rfl,by decide +kernel,by decide +kernel⟩
theorem Zhe {f:Addr} {fd:FuncData} (F:Fun K "spanned" "spanned" Zbg f fd) (T:Txt K mg) (C_crossed:Cal P w K mg base "crossed" 1 2 F_crossed):FnOk P w K mg base (CXE P w) 2 f fd ["one","other"] (spD K F_spanned):=
 Z0 F Zhd rfl rfl fun cdv A outer s H E hr θ=>(Zj (ZA (Zb8 (ZbA hr.units) Zc3 (Zv Zbn Zc4 T.b_abs Zc8 (Za (Zi C_crossed θ (hr.mono (by decide)) (Za (Zb 0) (Za (Zb 1) Zd))) Zd)) Ze)))
noncomputable abbrev Zai:Stmt:=top 11
noncomputable def ZcG:Sv:=(ZK (sIf (Zju (Zc1 (tv (ZjZ "tuple" (Zh 0)))) (tv (e2 dNe (Zl bLen (Zc (Zh 0) aNil)) (eC (.int 2))))) (Zar (eC (.bl false))) sNil)
 (Zar (Zd5 (Zl F_is_pair (Zc (e2 dIx (Zh 0) (eC (.int 0))) aNil)) (Zd5 (Zl F_is_pair (Zc (e2 dIx (Zh 0) (eC (.int 1))) aNil)) (Zl F_spanned (Zc (e2 dIx (Zh 0) (eC (.int 0))) (Zc (e2 dIx (Zh 0) (eC (.int 1))) aNil)))))))
noncomputable def F_is_turning:List D->Sto->Out D:=fnF ZcG 1 0
theorem Zeu:FnScope ["thing"] ["thing"] (Zg Zai):=⟨rfl,rfl,rfl,by decide +kernel,rfl,by decide +kernel,by decide +kernel⟩
theorem Zev {f:Addr} {fd:FuncData} (F:Fun K "is_turning" "is_turning" Zai f fd) (T:Txt K mg) (C_is_pair:Cal P w K mg base "is_pair" 2 1 F_is_pair) (C_spanned:Cal P w K mg base "spanned" 2 2 F_spanned):FnOk P w K mg base (CXE P w) 3 f fd ["thing"] (spD K F_is_turning):=
 Z0 F Zeu rfl rfl fun cdv A outer s H E hr θ=>(Zf (ZaF (Zns (ZfD (Zc2 (Zc0 (ZdT Zca T.b_isinstance T.b_tuple ZcP (Zb 0)))) (ZeQ (ZM (Zcy hr.units) ZeR (Zv Zu ZaB T.b_len PySem.boot_len (Za (Zb 0) Zd)) Ze)))) (Zj (ZA ZfC)) ZL)
  (Zj (ZA (ZdR (Zi C_is_pair θ (hr.mono (by decide)) (Za (Zp (Zb 0) Ze) Zd)) (ZdR (Zi C_is_pair θ (hr.mono (by decide)) (Za (Zp (Zb 0) Ze) Zd)) (ZhZ (Zi C_spanned θ (hr.mono (by decide)) (Za (Zp (Zb 0) Ze) (Za (Zp (Zb 0) Ze) Zd)))))))))
noncomputable abbrev ZbN:Stmt:=top 12
theorem ZaY:FnScope ["turning","pair","a","b","c","d","x","y"] ["turning","pair"] (Zg ZbN):=⟨rfl,rfl,rfl,by decide +kernel,rfl,by decide +kernel,by decide +kernel⟩
theorem Zjn {f:Addr} {fd:FuncData} (F:Fun K "turned" "turned" ZbN f fd) (T:Txt K mg):FnOk P w K mg base (CXE P w) 101 f fd ["turning","pair"] (spD K F_turned):=
 Z0 F ZaY rfl rfl fun cdv A outer s H E hr θ=>(Zf (Zcb (Zb 0) (ZR (Zw hr (by decide)) (Zk (ZR (Zw hr (by decide)) (Zk (Zm 2 ZaY.nd) (Zk (Zm 3 ZaY.nd) ZH)) (hlen:=(Zn (Zn (fun _ _ _ h=>ZI h))))) (Zk (ZR (Zw hr (by decide)) (Zk (Zm 4 ZaY.nd) (Zk (Zm 5 ZaY.nd) ZH)) (hlen:=(Zn (Zn (fun _ _ _ h=>ZI h))))) ZH)) (hlen:=(Zn (Zn (fun _ _ _ h=>ZI h))))))
  (Zf (Zcb (Zb 1) (ZR (Zw hr (by decide)) (Zk (Zm 6 ZaY.nd) (Zk (Zm 7 ZaY.nd) ZH)) (hlen:=(Zn (Zn (fun _ _ _ h=>ZI h))))))
  (Zj (ZA (Zx (Za (ZJ (Zy (Zb 2) (Zb 6)) (Zy (Zb 3) (Zb 7))) (Za (ZJ (Zy (Zb 4) (Zb 6)) (Zy (Zb 5) (Zb 7))) Zd)))))))
noncomputable abbrev ZdW:Stmt:=top 13
theorem Zcw:FnScope ["turning","a","b","c","d","sign"] ["turning"] (Zg ZdW):=⟨rfl,rfl,rfl,by decide +kernel,rfl,by decide +kernel,by decide +kernel⟩
theorem Zno {f:Addr} {fd:FuncData} (F:Fun K "back" "back" ZdW f fd) (T:Txt K mg) (C_crossed:Cal P w K mg base "crossed" 1 2 F_crossed):FnOk P w K mg base (CXE P w) 101 f fd ["turning"] (spD K F_back):=
 Z0 F Zcw rfl rfl fun cdv A outer s H E hr θ=>(Zf (Zcb (Zb 0) (ZR (Zw hr (by decide)) (Zk (ZR (Zw hr (by decide)) (Zk (Zm 1 Zcw.nd) (Zk (Zm 2 Zcw.nd) ZH)) (hlen:=(Zn (Zn (fun _ _ _ h=>ZI h))))) (Zk (ZR (Zw hr (by decide)) (Zk (Zm 3 Zcw.nd) (Zk (Zm 4 Zcw.nd) ZH)) (hlen:=(Zn (Zn (fun _ _ _ h=>ZI h))))) ZH)) (hlen:=(Zn (Zn (fun _ _ _ h=>ZI h))))))
  (Zf (Zs 5 Zcw.nd (Zi C_crossed θ (hr.mono (by decide)) (Za (Zx (Za (Zb 1) (Za (Zb 2) Zd))) (Za (Zx (Za (Zb 3) (Za (Zb 4) Zd))) Zd))))
  (Zj (ZA (Zx (Za (Zx (Za (Zy (Zb 5) (Zb 4)) (Za (Zy (Zbv (Zb 5)) (Zb 2)) Zd))) (Za (Zx (Za (Zy (Zbv (Zb 5)) (Zb 3)) (Za (Zy (Zb 5) (Zb 1)) Zd))) Zd)))))))
noncomputable abbrev ZbO:Stmt:=top 14
theorem Zjo:FnScope ["first","second"] ["first","second"] (Zg ZbO):=⟨rfl,rfl,rfl,by decide +kernel,rfl,by decide +kernel,by decide +kernel⟩
theorem Zjp {f:Addr} {fd:FuncData} (F:Fun K "beside" "beside" ZbO f fd) (T:Txt K mg):FnOk P w K mg base (CXE P w) 1 f fd ["first","second"] (spD K F_beside):=
 Z0 F Zjo rfl rfl fun cdv A outer s H E hr θ=>(Zj (ZA (Zx (Za (Zx (Za (Zp (Zb 0) Ze) (Za (Zp (Zb 1) Ze) Zd))) (Za (Zx (Za (Zp (Zb 0) Ze) (Za (Zp (Zb 1) Ze) Zd))) Zd)))))
noncomputable abbrev ZdX:Stmt:=top 15
theorem Zf7:FnScope ["one","other","first","second"] ["one","other"] (Zg ZdX):=⟨rfl,rfl,rfl,by decide +kernel,rfl,by decide +kernel,by decide +kernel⟩
theorem Znp {f:Addr} {fd:FuncData} (F:Fun K "then" "then" ZdX f fd) (T:Txt K mg) (C_turned:Cal P w K mg base "turned" 101 2 F_turned) (C_beside:Cal P w K mg base "beside" 1 2 F_beside):FnOk P w K mg base (CXE P w) 102 f fd ["one","other"] (spD K F_then):=
 Z0 F Zf7 rfl rfl fun cdv A outer s H E hr θ=>(Zf (Zs 2 Zf7.nd (Zi C_turned θ (hr.mono (by decide)) (Za (Zb 1) (Za (Zi C_turned θ (hr.mono (by decide)) (Za (Zb 0) (Za (Zx (Za Ze (Za Ze Zd))) Zd))) Zd))))
  (Zf (Zs 3 Zf7.nd (Zi C_turned θ (hr.mono (by decide)) (Za (Zb 1) (Za (Zi C_turned θ (hr.mono (by decide)) (Za (Zb 0) (Za (Zx (Za Ze (Za Ze Zd))) Zd))) Zd))))
  (Zj (ZA (Zi C_beside θ (hr.mono (by decide)) (Za (Zb 2) (Za (Zb 3) Zd)))))))
noncomputable abbrev Zbh:Stmt:=top 16
theorem Zhf:FnScope ["one","other","one_to","other_to"] ["one","other","one_to","other_to"] (Zg Zbh):=⟨rfl,rfl,rfl,by decide +kernel,rfl,by decide +kernel,by decide +kernel⟩
theorem Zhg {f:Addr} {fd:FuncData} (F:Fun K "leading" "leading" Zbh f fd) (T:Txt K mg) (C_spanned:Cal P w K mg base "spanned" 2 2 F_spanned) (C_beside:Cal P w K mg base "beside" 1 2 F_beside) (C_back:Cal P w K mg base "back" 101 1 F_back) (C_then:Cal P w K mg base "then" 102 2 F_then):FnOk P w K mg base (CXE P w) 103 f fd ["one","other","one_to","other_to"] (spD K F_leading):=
 Z0 F Zhf rfl rfl fun cdv A outer s H E hr θ=>(Zf (ZaF (Zns (ZfD (Zc2 (Zc0 (Zi C_spanned θ (hr.mono (by decide)) (Za (Zb 0) (Za (Zb 1) Zd))))) (ZeQ (Zc2 (Zc0 (Zi C_spanned θ (hr.mono (by decide)) (Za (Zb 2) (Za (Zb 3) Zd)))))))) (Zj (Zed θ T.ex_NoTurning T.gl (hr.hd (by decide)) (Za ZcZ Zd))) ZL)
  (Zj (ZA (Zi C_then θ (hr.mono (by decide)) (Za (Zi C_back θ (hr.mono (by decide)) (Za (Zi C_beside θ (hr.mono (by decide)) (Za (Zb 0) (Za (Zb 1) Zd))) Zd)) (Za (Zi C_beside θ (hr.mono (by decide)) (Za (Zb 2) (Za (Zb 3) Zd))) Zd))))))
noncomputable abbrev Zat:Stmt:=top 18
theorem Zfl:FnScope ["things","at"] ["things","at"] (Zg Zat):=⟨rfl,rfl,rfl,by decide +kernel,rfl,by decide +kernel,by decide +kernel⟩
theorem Zfm {f:Addr} {fd:FuncData} (F:Fun K "following" "following" Zat f fd) (T:Txt K mg):FnOk P w K mg base (CXE P w) 1 f fd ["things","at"] (spD K F_following):=
 Z0 F Zfl rfl rfl fun cdv A outer s H E hr θ=>(Zj (ZA (Zp (Zb 0) (Zbz (ZJ (Zb 1) Ze) (Zv Zu ZaB T.b_len PySem.boot_len (Za (Zb 0) Zd))))))
noncomputable abbrev Zau:Stmt:=top 19
theorem ZbL:FnScope ["rays","at","ray"] ["rays"] (Zg Zau):=⟨rfl,rfl,rfl,by decide +kernel,rfl,by decide +kernel,by decide +kernel⟩
theorem Zfn {f:Addr} {fd:FuncData} (F:Fun K "unspanned" "unspanned" Zau f fd) (T:Txt K mg) (C_following:Cal P w K mg base "following" 1 2 F_following) (C_crossed:Cal P w K mg base "crossed" 1 2 F_crossed):FnOk P w K mg base (CXE P w) 101 f fd ["rays"] (spD K F_unspanned):=
 Z0 F ZbL rfl rfl fun cdv A outer s H E hr θ=>(Zf (ZfL θ.own (ZfM (hr.hd (by decide)) T.b_enumerate (Za (Zb 0) Zd)) (ZR (Zw hr (by decide)) (Zk (Zm 1 ZbL.nd) (Zk (Zm 2 ZbL.nd) ZH)) (hlen:=(Zn (Zn (fun _ _ _ h=>ZI h))))) (Zj (ZaF (ZM (Zcy hr.units) ZeR (Zi C_crossed θ (hr.mono (by decide)) (Za (Zb 2) (Za (Zi C_following θ (hr.mono (by decide)) (Za (Zb 0) (Za (Zb 1) Zd))) Zd))) Ze) (Zj (ZA (Zb 1))) ZL)))
  (Zj (ZA ZeP)))
noncomputable abbrev Zaj:Stmt:=top 20
theorem Zcl:FnScope ["rays","at"] ["rays"] (Zg Zaj):=⟨rfl,rfl,rfl,by decide +kernel,rfl,by decide +kernel,by decide +kernel⟩
theorem Zew {f:Addr} {fd:FuncData} (F:Fun K "ask_smooth" "ask_smooth" Zaj f fd) (T:Txt K mg) (C_unspanned:Cal P w K mg base "unspanned" 101 1 F_unspanned):FnOk P w K mg base (CXE P w) 102 f fd ["rays"] (spD K F_ask_smooth):=
 Z0 F Zcl rfl rfl fun cdv A outer s H E hr θ=>(Zf (Zs 1 Zcl.nd (Zi C_unspanned θ (hr.mono (by decide)) (Za (Zb 0) Zd)))
  (Zj (ZaF (ZM Zh4 ZjW (Zb 1) ZeP) (Zj (Zed θ T.ex_NotSmooth T.gl (hr.hd (by decide)) (Za (Zrs (ZfO ZcZ (ZfO (Zrr (Zb 1)) (ZfO ZcZ ZoJ)))) Zd))) ZL)))
noncomputable abbrev Zbi:Stmt:=top 22
theorem Zak:FnScope ["ray","high","low","first","second","many"] ["ray"] (Zg Zbi):=⟨rfl,rfl,rfl,by decide +kernel,rfl,by decide +kernel,by decide +kernel⟩
theorem Zhh {f:Addr} {fd:FuncData} (F:Fun K "partner" "partner" Zbi f fd) (T:Txt K mg):FnOk P w K mg base (CXE P w) 101 f fd ["ray"] (spD K F_partner):=
 Z0 F Zak rfl rfl fun cdv A outer s H E hr θ=>(Zf (Zcb (Zb 0) (ZR (Zw hr (by decide)) (Zk (Zm 1 Zak.nd) (Zk (Zm 2 Zak.nd) ZH)) (hlen:=(Zn (Zn (fun _ _ _ h=>ZI h))))))
  (Zf (Zcb (Zx (Za (Zx (Za Ze (Za Ze Zd))) (Za (Zx (Za (Zbv Ze) (Za Ze Zd))) Zd))) (ZR (Zw hr (by decide)) (Zk (Zm 3 Zak.nd) (Zk (Zm 4 Zak.nd) ZH)) (hlen:=(Zn (Zn (fun _ _ _ h=>ZI h))))))
  (Zf (Zd9 θ.own (ZM (Zcy hr.units) ZeR (Zb 2) Ze) (Zf (Zs 5 Zak.nd (Zcx (Zb 1) (Zb 2)))
  (Zf (Zc7 1 2 (Zw hr (by decide)) Zak.nd (Za (Zb 2) (Za (Z8 (Zb 1) (Zy (Zb 5) (Zb 2))) Zd)))
  (Zj (Zc7 3 4 (Zw hr (by decide)) Zak.nd (Za (Zb 4) (Za (Zx (Za (Z8 (Zp (Zb 3) Ze) (Zy (Zb 5) (Zp (Zb 4) Ze))) (Za (Z8 (Zp (Zb 3) Ze) (Zy (Zb 5) (Zp (Zb 4) Ze))) Zd))) Zd)))))))
  (Zj (ZA (Zx (Za (Zy (Zb 1) (Zp (Zb 3) Ze)) (Za (Zy (Zb 1) (Zp (Zb 3) Ze)) Zd))))))))
noncomputable abbrev ZY:Stmt:=top 23
theorem ZaZ:FnScope ["u","v","w","many"] ["u","v"] (Zg ZY):=⟨rfl,rfl,rfl,by decide +kernel,rfl,by decide +kernel,by decide +kernel⟩
theorem ZdC {f:Addr} {fd:FuncData} (F:Fun K "first_behind" "first_behind" ZY f fd) (T:Txt K mg) (C_partner:Cal P w K mg base "partner" 101 1 F_partner) (C_crossed:Cal P w K mg base "crossed" 1 2 F_crossed):FnOk P w K mg base (CXE P w) 102 f fd ["u","v"] (spD K F_first_behind):=
 Z0 F ZaZ rfl rfl fun cdv A outer s H E hr θ=>(Zf (Zs 2 ZaZ.nd (Zi C_partner θ (hr.mono (by decide)) (Za (Zb 0) Zd)))
  (Zf (Zs 3 ZaZ.nd (Zcx (Zi C_crossed θ (hr.mono (by decide)) (Za (Zb 2) (Za (Zb 1) Zd))) (Zi C_crossed θ (hr.mono (by decide)) (Za (Zb 0) (Za (Zb 1) Zd)))))
  (Zj (ZA (Zx (Za (Z8 (Zp (Zb 2) Ze) (Zy (Zb 3) (Zp (Zb 0) Ze))) (Za (Z8 (Zp (Zb 2) Ze) (Zy (Zb 3) (Zp (Zb 0) Ze))) Zd)))))))
noncomputable abbrev ZaO:Stmt:=top 24
theorem Zbu:FnScope ["top","bottom","numbers","number"] ["top","bottom"] (Zg ZaO):=⟨rfl,rfl,rfl,by decide +kernel,rfl,by decide +kernel,by decide +kernel⟩
theorem Zf8 {f:Addr} {fd:FuncData} (F:Fun K "expanded" "expanded" ZaO f fd) (T:Txt K mg):FnOk P w K mg base (CXE P w) 101 f fd ["top","bottom"] (spD K F_expanded):=
 Z0 F Zbu rfl rfl fun cdv A outer s H E hr θ=>(Zf (Zs 2 Zbu.nd (Zah Zd))
  (Zf (Zd9 θ.own (ZM (Zcy hr.units) ZeR (Zb 1) Ze) (Zf (Zs 3 Zbu.nd (Zbv (Zcx (Zbv (Zb 0)) (Zb 1))))
  (Zf (Zc6 (Zde (Zb 2) (Zb 3)))
  (Zj (Zc7 0 1 (Zw hr (by decide)) Zbu.nd (Za (Zb 1) (Za (Z8 (Zy (Zb 3) (Zb 1)) (Zb 0)) Zd)))))))
  (Zj (ZA (Zb 2)))))
noncomputable abbrev Zhi:Stmt:=top 25
theorem ZqJ:FnScope ["u","v"] ["u","v"] (Zg Zhi):=⟨rfl,rfl,rfl,by decide +kernel,rfl,by decide +kernel,by decide +kernel⟩
theorem ZqK {f:Addr} {fd:FuncData} (F:Fun K "row" "row" Zhi f fd) (T:Txt K mg) (C_crossed:Cal P w K mg base "crossed" 1 2 F_crossed) (C_first_behind:Cal P w K mg base "first_behind" 102 2 F_first_behind) (C_expanded:Cal P w K mg base "expanded" 101 2 F_expanded):FnOk P w K mg base (CXE P w) 103 f fd ["u","v"] (spD K F_row):=
 Z0 F ZqJ rfl rfl fun cdv A outer s H E hr θ=>(Zf (ZaF (ZM ZnV Zoh (Zi C_crossed θ (hr.mono (by decide)) (Za (Zb 0) (Za (Zb 1) Zd))) Ze) (Zj (Zed θ T.ex_NoWedge T.gl (hr.hd (by decide)) (Za ZcZ Zd))) ZL)
  (Zj (ZA (Zi C_expanded θ (hr.mono (by decide)) (Za (Zi C_crossed θ (hr.mono (by decide)) (Za (Zb 0) (Za (Zb 1) Zd))) (Za (Zi C_crossed θ (hr.mono (by decide)) (Za (Zi C_first_behind θ (hr.mono (by decide)) (Za (Zb 0) (Za (Zb 1) Zd))) (Za (Zb 1) Zd))) Zd))))))
noncomputable abbrev Zbj:Stmt:=top 26
theorem ZaP:FnScope ["u","v","numbers","rays","ahead","ray","number"] ["u","v"] (Zg Zbj):=⟨rfl,rfl,rfl,by decide +kernel,rfl,by decide +kernel,by decide +kernel⟩
theorem Zhj {f:Addr} {fd:FuncData} (F:Fun K "between" "between" Zbj f fd) (T:Txt K mg) (C_row:Cal P w K mg base "row" 103 2 F_row) (C_first_behind:Cal P w K mg base "first_behind" 102 2 F_first_behind):FnOk P w K mg base (CXE P w) 104 f fd ["u","v"] (spD K F_between):=
 Z0 F ZaP rfl rfl fun cdv A outer s H E hr θ=>(Zf (Zs 2 ZaP.nd (Zi C_row θ (hr.mono (by decide)) (Za (Zb 0) (Za (Zb 1) Zd))))
  (Zf (Zs 3 ZaP.nd (Zah Zd))
  (Zf (Zc7 4 5 (Zw hr (by decide)) ZaP.nd (Za (Zb 0) (Za (Zi C_first_behind θ (hr.mono (by decide)) (Za (Zb 0) (Za (Zb 1) Zd))) Zd)))
  (Zf (Zgq θ.own (Zb 2) (Zm 6 ZaP.nd) (Zf (Zc6 (Zde (Zb 3) (Zb 5)))
  (Zj (Zc7 4 5 (Zw hr (by decide)) ZaP.nd (Za (Zb 5) (Za (Zx (Za (Z8 (Zy (Zb 6) (Zp (Zb 5) Ze)) (Zp (Zb 4) Ze)) (Za (Z8 (Zy (Zb 6) (Zp (Zb 5) Ze)) (Zp (Zb 4) Ze)) Zd))) Zd))))))
  (Zj (ZA (Zb 3)))))))
noncomputable abbrev Z6:Stmt:=top 28
theorem ZaA:FnScope ["rays","least","at","ray"] ["rays"] (Zg Z6):=⟨rfl,rfl,rfl,by decide +kernel,rfl,by decide +kernel,by decide +kernel⟩
theorem ZdL {f:Addr} {fd:FuncData} (F:Fun K "least_round" "least_round" Z6 f fd) (T:Txt K mg) (C_following:Cal P w K mg base "following" 1 2 F_following) (C_between:Cal P w K mg base "between" 104 2 F_between):FnOk P w K mg base (CXE P w) 105 f fd ["rays"] (spD K F_least_round):=
 Z0 F ZaA rfl rfl fun cdv A outer s H E hr θ=>(Zf (Zs 1 ZaA.nd (Zah Zd))
  (Zf (ZfL θ.own (ZfM (hr.hd (by decide)) T.b_enumerate (Za (Zb 0) Zd)) (ZR (Zw hr (by decide)) (Zk (Zm 2 ZaA.nd) (Zk (Zm 3 ZaA.nd) ZH)) (hlen:=(Zn (Zn (fun _ _ _ h=>ZI h))))) (Zf (Zc6 (Zde (Zb 1) (Zb 3)))
  (Zj (Zc6 (Zme PySem.F.slot_list_extend PySem.F.type_list_extend ZhN Zot (Zb 1) (Za (Zi C_between θ (hr.mono (by decide)) (Za (Zb 3) (Za (Zi C_following θ (hr.mono (by decide)) (Za (Zb 0) (Za (Zb 2) Zd))) Zd))) Zd))))))
  (Zj (ZA (Zb 1)))))
noncomputable abbrev Za0:Stmt:=top 30
theorem Zhk:FnScope ["rays"] ["rays"] (Zg Za0):=⟨rfl,rfl,rfl,by decide +kernel,rfl,by decide +kernel,by decide +kernel⟩
theorem Zhl {f:Addr} {fd:FuncData} (F:Fun K "numbers" "numbers" Za0 f fd) (T:Txt K mg) (C_ask_smooth:Cal P w K mg base "ask_smooth" 102 1 F_ask_smooth) (C_following:Cal P w K mg base "following" 1 2 F_following) (C_crossed:Cal P w K mg base "crossed" 1 2 F_crossed):FnOk P w K mg base (CXE P w) 103 f fd ["rays"] (spD K F_numbers):=
 Z0 F Zhk rfl rfl fun cdv A outer s H E hr θ=>(Zf (Zc6 (Zi C_ask_smooth θ (hr.mono (by decide)) (Za (Zb 0) Zd)))
  (Zj (ZA (Zdd (Zl8 (XN:=["rays"]) (dn:=(Zg Za0).names) (N:=["at","rays"]) (k:=1) (fr:=[0]) rfl rfl rfl rfl (by decide +kernel)) (Zid T.b_range (Za (Zv Zu ZaB T.b_len PySem.boot_len (Za (Zb 0) Zd)) Zd)) (fun _ _ _ _=>(Zm 0 (show List.Nodup (["at","rays"]:List Str) by decide +kernel))) (fun _ _ _ _=>(Or.inl ⟨rfl,rfl⟩)) (fun _ _ _ _=>(Zi C_crossed Zdc (hr.mono (by decide)) (Za (Zi C_following Zdc (hr.mono (by decide)) (Za (Zb 1) (Za (Zb 0) Zd))) (Za (Zp (Zb 1) (Z8 (Zb 0) Ze)) Zd))))))))
noncomputable abbrev Z2:Stmt:=top 32
theorem Zcm:FnScope ["rays","least","own"] ["rays","least"] (Zg Z2):=⟨rfl,rfl,rfl,by decide +kernel,rfl,by decide +kernel,by decide +kernel⟩
theorem Zex {f:Addr} {fd:FuncData} (F:Fun K "marked_row" "marked_row" Z2 f fd) (T:Txt K mg) (C_numbers:Cal P w K mg base "numbers" 103 1 F_numbers):FnOk P w K mg base (CXE P w) 104 f fd ["rays","least"] (spD K F_marked_row):=
 Z0 F Zcm rfl rfl fun cdv A outer s H E hr θ=>(Zf (Zs 2 Zcm.nd (Zkf hr.units (Zro (N:=["ray"]) (k:=1) (by decide +kernel) rfl (by decide +kernel) rfl) (Zdb (Zb 0)) (fun _ _ _ _=>(Zm 0 (show List.Nodup (["ray"]:List Str) by decide +kernel))) (fun _ _ _ _=>(Or.inl ⟨rfl,rfl⟩)) (fun _ _ _ _=>(Zb 0)) (fun _ _ _ _=>ZfC)))
  (Zj (ZA (Zdd (Zl8 (XN:=["rays","least","own"]) (dn:=(Zg Z2).names) (N:=["number","ray","own"]) (k:=2) (fr:=[2]) rfl rfl rfl rfl (by decide +kernel)) (Zox (hr.hd (by decide)) T.b_zip (Za (Zi C_numbers θ (hr.mono (by decide)) (Za (Zb 1) Zd)) (Za (Zb 1) Zd))) (fun _ _ _ _=>(ZR (Zw hr (by decide)) (Zk (Zm 0 (show List.Nodup (["number","ray","own"]:List Str) by decide +kernel)) (Zk (Zm 1 (show List.Nodup (["number","ray","own"]:List Str) by decide +kernel)) ZH)) (hlen:=(Zn (Zn (fun _ _ _ h=>ZI h)))))) (fun _ _ _ _=>(Or.inl ⟨rfl,rfl⟩)) (fun _ _ _ _=>(Zx (Za (Zb 0) (Za (Zri (ZM (ZoE hr.units) ZoF (Zb 1) (Zb 2)) Ze Ze) Zd))))))))
noncomputable abbrev ZT:Stmt:=top 33
theorem Zq:FnScope ["rays","least","marked","best","two","at","ray","onward","backward","reading","beside"] ["rays"] (Zg ZT):=⟨rfl,rfl,rfl,by decide +kernel,rfl,by decide +kernel,by decide +kernel⟩
theorem ZcJ {f:Addr} {fd:FuncData} (F:Fun K "first_reading" "first_reading" ZT f fd) (T:Txt K mg) (C_least_round:Cal P w K mg base "least_round" 105 1 F_least_round) (C_marked_row:Cal P w K mg base "marked_row" 104 2 F_marked_row) (C_following:Cal P w K mg base "following" 1 2 F_following):FnOk P w K mg base (CXE P w) 106 f fd ["rays"] (spD K F_first_reading):=
 Z0 F Zq rfl rfl fun cdv A outer s H E hr θ=>(Zf (Zs 1 Zq.nd (Zi C_least_round θ (hr.mono (by decide)) (Za (Zb 0) Zd)))
  (Zf (Zs 2 Zq.nd (Zi C_marked_row θ (hr.mono (by decide)) (Za (Zb 0) (Za (Zb 1) Zd))))
  (Zf (Zs 3 Zq.nd ZeP)
  (Zf (Zs 4 Zq.nd ZeP)
  (Zf (ZfL θ.own (ZfM (hr.hd (by decide)) T.b_enumerate (Za (Zb 1) Zd)) (ZR (Zw hr (by decide)) (Zk (Zm 5 Zq.nd) (Zk (Zm 6 Zq.nd) ZH)) (hlen:=(Zn (Zn (fun _ _ _ h=>ZI h))))) (Zf (Zs 7 Zq.nd (ZJ (Zdh (Zb 2) (Zdg (Zb 5)) Zdf) (Zdh (Zb 2) Zdf (Zdg (Zb 5)))))
  (Zf (Zs 8 Zq.nd (ZJ (Zdh (Zb 7) Zdf (Zdg Ze)) (Zrz (Zb 7))))
  (Zj (Zgq θ.own (Zah (Za (Zx (Za (Zb 7) (Za (Zi C_following θ (hr.mono (by decide)) (Za (Zb 1) (Za (Zb 5) Zd))) Zd))) (Za (Zx (Za (Zb 8) (Za (Zp (Zb 1) (Z8 (Zb 5) Ze)) Zd))) Zd))) (ZR (Zw hr (by decide)) (Zk (Zm 9 Zq.nd) (Zk (Zm 10 Zq.nd) ZH)) (hlen:=(Zn (Zn (fun _ _ _ h=>ZI h))))) (Zj (ZaF (Zns (ZfD (ZM Zoj Zrl (Zb 3) ZeP) (ZeQ (ZM (ZoL hr.units) ZoM (Zb 9) (Zb 3))))) (Zf (Zs 3 Zq.nd (Zb 9))
  (Zj (Zs 4 Zq.nd (Zx (Za (Zb 6) (Za (Zb 10) Zd)))))) ZL)))))))
  (Zj (ZA (Zx (Za (Zb 3) (Za (Zb 4) Zd))))))))))
noncomputable abbrev ZaQ:Stmt:=top 34
theorem Zae:FnScope ["one","other","one_row","ray","beside","other_row","ray_to","beside_to"] ["one","other"] (Zg ZaQ):=⟨rfl,rfl,rfl,by decide +kernel,rfl,by decide +kernel,by decide +kernel⟩
theorem Zf9 {f:Addr} {fd:FuncData} (F:Fun K "likeness" "likeness" ZaQ f fd) (T:Txt K mg) (C_first_reading:Cal P w K mg base "first_reading" 106 1 F_first_reading) (C_leading:Cal P w K mg base "leading" 103 4 F_leading):FnOk P w K mg base (CXE P w) 107 f fd ["one","other"] (spD K F_likeness):=
 Z0 F Zae rfl rfl fun cdv A outer s H E hr θ=>(Zf (Zcb (Zi C_first_reading θ (hr.mono (by decide)) (Za (Zb 0) Zd)) (ZR (Zw hr (by decide)) (Zk (Zm 2 Zae.nd) (Zk (ZR (Zw hr (by decide)) (Zk (Zm 3 Zae.nd) (Zk (Zm 4 Zae.nd) ZH)) (hlen:=(Zn (Zn (fun _ _ _ h=>ZI h))))) ZH)) (hlen:=(Zn (Zn (fun _ _ _ h=>ZI h))))))
  (Zf (Zcb (Zi C_first_reading θ (hr.mono (by decide)) (Za (Zb 1) Zd)) (ZR (Zw hr (by decide)) (Zk (Zm 5 Zae.nd) (Zk (ZR (Zw hr (by decide)) (Zk (Zm 6 Zae.nd) (Zk (Zm 7 Zae.nd) ZH)) (hlen:=(Zn (Zn (fun _ _ _ h=>ZI h))))) ZH)) (hlen:=(Zn (Zn (fun _ _ _ h=>ZI h))))))
  (Zf (ZaF (ZM (Zcy hr.units) ZeR (Zb 2) (Zb 5)) (Zj (ZA (Zx (Za ZcZ (Za (Zb 2) (Za (Zb 5) Zd)))))) ZL)
  (Zj (ZA (Zx (Za ZcZ (Za (Zi C_leading θ (hr.mono (by decide)) (Za (Zb 3) (Za (Zb 4) (Za (Zb 6) (Za (Zb 7) Zd))))) Zd))))))))
noncomputable abbrev Zav:Stmt:=top 36
theorem Za2:FnScope ["_law_script","_law_k","_law_cell","_law_large"] ["_law_script","_law_k"] (Zg Zav):=⟨rfl,rfl,rfl,by decide +kernel,rfl,by decide +kernel,by decide +kernel⟩
theorem Zfo {f:Addr} {fd:FuncData} (F:Fun K "_law_purse" "_law_purse" Zav f fd) (T:Txt K mg):FnOk P w K mg base (CXE P w) 1 f fd ["_law_script","_law_k"] (spD K F_law_purse):=
 Z0 F Za2 rfl rfl fun cdv A outer s H E hr θ=>(Zf (Zs 2 Za2.nd Ze)
  (Zf (ZaF (ZM ZlH ZlZ (Zb 1) (Zv Zu ZaB T.b_len PySem.boot_len (Za (Zb 0) Zd))) (Zj (Zs 2 Za2.nd (Zp (Zb 0) (Zb 1)))) ZL)
  (Zf (Zs 3 Za2.nd (Zbz (Zb 2) (Zy (Zh0 Ze Ze) (Zh0 Ze Ze))))
  (Zj (ZA (Zah (Za (Zy (Zb 3) (Zab Zbb ZdS T.b_int Zc9 (Za (Zb8 Zra Zrj (Zb 3) (Zh0 Ze Ze)) Zd))) (Za (ZJ (ZJ (Zbz (Zb 2) Ze) (Zy Ze (Zb 1))) Ze) Zd))))))))
noncomputable abbrev ZaR:Stmt:=top 37
theorem ZdD:FnScope ["_law_purse_here","_law_many","_law_digit"] ["_law_purse_here","_law_many"] (Zg ZaR):=⟨rfl,rfl,rfl,by decide +kernel,rfl,by decide +kernel,by decide +kernel⟩
theorem Zga {f:Addr} {fd:FuncData} (F:Fun K "_law_take" "_law_take" ZaR f fd) (T:Txt K mg):FnOk P w K mg base (CXE P w) 1 f fd ["_law_purse_here","_law_many"] (spD K F_law_take):=
 Z0 F ZdD rfl rfl fun cdv A outer s H E hr θ=>(Zf (ZaF (ZM Zd0 Zd6 (Zp (Zb 0) Ze) Ze) (Zf (Zs 2 ZdD.nd (Zbz (Zp (Zb 0) Ze) (Zb 1)))
  (Zf (ZkU (Zb 0) Ze (Zcx (Zp (Zb 0) Ze) (Zb 1)))
  (Zj (ZA (Zb 2))))) ZL)
  (Zf (ZkU (Zb 0) Ze (Zbz (ZJ (Zy (Zp (Zb 0) Ze) Ze) Ze) Ze))
  (Zj (ZA (Zbz (Zcx (Zbz (Zy (Zp (Zb 0) Ze) Ze) Ze) Ze) (Zb 1))))))
noncomputable abbrev Z7:Stmt:=top 38
theorem ZdM:FnScope ["_law_one","_law_other"] ["_law_one","_law_other"] (Zg Z7):=⟨rfl,rfl,rfl,by decide +kernel,rfl,by decide +kernel,by decide +kernel⟩
theorem ZdN {f:Addr} {fd:FuncData} (F:Fun K "_law_crossed" "_law_crossed" Z7 f fd) (T:Txt K mg):FnOk P w K mg base (CXE P w) 1 f fd ["_law_one","_law_other"] (spD K F_law_crossed):=
 Z0 F ZdM rfl rfl fun cdv A outer s H E hr θ=>(Zj (ZA (Z8 (Zy (Zp (Zb 0) Ze) (Zp (Zb 1) Ze)) (Zy (Zp (Zb 0) Ze) (Zp (Zb 1) Ze)))))
noncomputable abbrev Zaw:Stmt:=top 39
theorem ZbM:FnScope ["_law_pair","_law_one","_law_other"] ["_law_pair"] (Zg Zaw):=⟨rfl,rfl,rfl,by decide +kernel,rfl,by decide +kernel,by decide +kernel⟩
theorem Zfp {f:Addr} {fd:FuncData} (F:Fun K "_law_short" "_law_short" Zaw f fd) (T:Txt K mg):FnOk P w K mg base (CXE P w) 101 f fd ["_law_pair"] (spD K F_law_short):=
 Z0 F ZbM rfl rfl fun cdv A outer s H E hr θ=>(Zf (Zc7 1 2 (Zw hr (by decide)) ZbM.nd (Za (Zv Zbn Zc4 T.b_abs Zc8 (Za (Zp (Zb 0) Ze) Zd)) (Za (Zv Zbn Zc4 T.b_abs Zc8 (Za (Zp (Zb 0) Ze) Zd)) Zd)))
  (Zf (Zd9 θ.own (ZM Zd0 Zd6 (Zb 2) Ze) (Zj (Zc7 1 2 (Zw hr (by decide)) ZbM.nd (Za (Zb 2) (Za (Zbz (Zb 1) (Zb 2)) Zd)))))
  (Zf (ZaF (ZM (ZbA hr.units) Zc3 (Zb 1) Ze) (Zj (ZA (Zx (Za Ze (Za Ze Zd))))) ZL)
  (Zj (ZA (Zx (Za (Zcx (Zp (Zb 0) Ze) (Zb 1)) (Za (Zcx (Zp (Zb 0) Ze) (Zb 1)) Zd))))))))
noncomputable abbrev ZZ:Stmt:=top 40
theorem ZdE:FnScope ["_law_rays"] ["_law_rays"] (Zg ZZ):=⟨rfl,rfl,rfl,by decide +kernel,rfl,by decide +kernel,by decide +kernel⟩
theorem ZdF {f:Addr} {fd:FuncData} (F:Fun K "_law_greatest" "_law_greatest" ZZ f fd) (T:Txt K mg):FnOk P w K mg base (CXE P w) 101 f fd ["_law_rays"] (spD K F_law_greatest):=
 Z0 F ZdE rfl rfl fun cdv A outer s H E hr θ=>(Zj (ZA (Zv (Zim (Zw hr (by decide))) Zmi T.b_max Zgr (Za (Zdd (Zro (N:=["_law_ray"]) (k:=1) (by decide +kernel) rfl (by decide +kernel) rfl) (Zdb (Zb 0)) (fun _ _ _ _=>(Zm 0 (show List.Nodup (["_law_ray"]:List Str) by decide +kernel))) (fun _ _ _ _=>(Or.inl ⟨rfl,rfl⟩)) (fun _ _ _ _=>(Zv (ZcW (Zw hr (by decide))) Zh5 T.b_max Zgr (Za (Zv Zbn Zc4 T.b_abs Zc8 (Za (Zp (Zb 0) Ze) Zd)) (Za (Zv Zbn Zc4 T.b_abs Zc8 (Za (Zp (Zb 0) Ze) Zd)) Zd))))) Zd))))
noncomputable abbrev Zbk:Stmt:=top 41
theorem Zbl:FnScope ["_law_rays","_law_at","_law_turn","_law_here","_law_after","_law_new"] ["_law_rays","_law_at"] (Zg Zbk):=⟨rfl,rfl,rfl,by decide +kernel,rfl,by decide +kernel,by decide +kernel⟩
theorem Zhm {f:Addr} {fd:FuncData} (F:Fun K "_law_put" "_law_put" Zbk f fd) (T:Txt K mg):FnOk P w K mg base (CXE P w) 101 f fd ["_law_rays","_law_at"] (spD K F_law_put):=
 Z0 F Zbl rfl rfl fun cdv A outer s H E hr θ=>(Zf (Zcd θ.own T.b_range (Za (Zv Zu ZaB T.b_len PySem.boot_len (Za (Zb 0) Zd)) Zd) (Zm 2 Zbl.nd) (Zf (Zs 3 Zbl.nd (Zbz (ZJ (Zb 1) (Zb 2)) (Zv Zu ZaB T.b_len PySem.boot_len (Za (Zb 0) Zd))))
  (Zf (Zs 4 Zbl.nd (Zp (Zb 0) (Zbz (ZJ (Zb 3) Ze) (Zv Zu ZaB T.b_len PySem.boot_len (Za (Zb 0) Zd)))))
  (Zf (Zs 5 Zbl.nd (Zx (Za (ZJ (Zp (Zp (Zb 0) (Zb 3)) Ze) (Zp (Zb 4) Ze)) (Za (ZJ (Zp (Zp (Zb 0) (Zb 3)) Ze) (Zp (Zb 4) Ze)) Zd))))
  (Zj (ZaF (ZM ZlH ZlZ (Zv (ZcW (Zw hr (by decide))) Zh5 T.b_max Zgr (Za (Zv Zbn Zc4 T.b_abs Zc8 (Za (Zp (Zb 5) Ze) Zd)) (Za (Zv Zbn Zc4 T.b_abs Zc8 (Za (Zp (Zb 5) Ze) Zd)) Zd))) Ze) (Zj (ZA (ZJ (ZJ (Zdh (Zb 0) Zdf (Zdg (ZJ (Zb 3) Ze))) (Zah (Za (Zb 5) Zd))) (Zdh (Zb 0) (Zdg (ZJ (Zb 3) Ze)) Zdf)))) ZL))))))
  (Zj (ZA (Zb 0))))
noncomputable abbrev ZW:Stmt:=top 42
theorem ZbW:FnScope ["_law_rays","_law_many","_law_way","_law_found"] ["_law_rays","_law_many","_law_way"] (Zg ZW):=⟨rfl,rfl,rfl,by decide +kernel,rfl,by decide +kernel,by decide +kernel⟩
theorem ZdO {f:Addr} {fd:FuncData} (F:Fun K "_law_sheared" "_law_sheared" ZW f fd) (T:Txt K mg) (C_law_greatest:Cal P w K mg base "_law_greatest" 101 1 F_law_greatest):FnOk P w K mg base (CXE P w) 102 f fd ["_law_rays","_law_many","_law_way"] (spD K F_law_sheared):=
 Z0 F ZbW rfl rfl fun cdv A outer s H E hr θ=>(Zf (Zeg 3 ZbW.nd (Zl8 (XN:=["_law_rays","_law_many","_law_way","_law_found"]) (dn:=(Zg ZW).names) (N:=["_law_x","_law_y","_law_many","_law_way"]) (k:=2) (fr:=[1,2]) rfl rfl rfl rfl (by decide +kernel)) (Zdb (Zb 0)) (fun _ _ _ _=>(ZR (Zw hr (by decide)) (Zk (Zm 0 (show List.Nodup (["_law_x","_law_y","_law_many","_law_way"]:List Str) by decide +kernel)) (Zk (Zm 1 (show List.Nodup (["_law_x","_law_y","_law_many","_law_way"]:List Str) by decide +kernel)) ZH)) (hlen:=(Zn (Zn (fun _ _ _ h=>ZI h)))))) (fun _ _ _ _=>(Or.inl ⟨rfl,rfl⟩)) (fun _ _ _ _=>(Zp (Zah (Za (Zx (Za (ZJ (Zb 0) (Zy (Zb 2) (Zb 1))) (Za (Zb 1) Zd))) (Za (Zx (Za (Zb 0) (Za (ZJ (Zb 1) (Zy (Zb 2) (Zb 0))) Zd))) Zd))) (Zb 3))))
  (Zf (ZaF (ZM Zd0 Zd6 (Zi C_law_greatest θ (hr.mono (by decide)) (Za (Zb 3) Zd)) Ze) (Zj (ZA (Zb 0))) ZL)
  (Zj (ZA (Zb 3)))))
noncomputable abbrev Zal:Stmt:=top 43
theorem ZE:FnScope ["_law_purse_here","_law_most","_law_lean","_law_rays","_law_many","_law_turn","_law_width","_law_often","_law_at"] ["_law_purse_here","_law_most"] (Zg Zal):=⟨rfl,rfl,rfl,by decide +kernel,rfl,by decide +kernel,by decide +kernel⟩
theorem Zey {f:Addr} {fd:FuncData} (F:Fun K "_law_smooth" "_law_smooth" Zal f fd) (T:Txt K mg) (C_law_take:Cal P w K mg base "_law_take" 1 2 F_law_take) (C_law_put:Cal P w K mg base "_law_put" 101 2 F_law_put) (C_law_sheared:Cal P w K mg base "_law_sheared" 102 3 F_law_sheared):FnOk P w K mg base (CXE P w) 103 f fd ["_law_purse_here","_law_most"] (spD K F_law_smooth):=
 Z0 F ZE rfl rfl fun cdv A outer s H E hr θ=>(Zf (Zs 2 ZE.nd (Zi C_law_take θ (hr.mono (by decide)) (Za (Zb 0) (Za Ze Zd))))
  (Zf (Zs 3 ZE.nd (Zp (Zah (Za (Zah (Za (Zx (Za Ze (Za Ze Zd))) (Za (Zx (Za Ze (Za Ze Zd))) (Za (Zx (Za (Zbv Ze) (Za (Zbv Ze) Zd))) Zd)))) (Za (Zah (Za (Zx (Za Ze (Za Ze Zd))) (Za (Zx (Za Ze (Za Ze Zd))) (Za (Zx (Za (Zbv Ze) (Za (Z8 (Zb 2) Ze) Zd))) (Za (Zx (Za Ze (Za (Zbv Ze) Zd))) Zd))))) Zd))) (Zab Zbb ZdS T.b_int Zc9 (Za (Zb8 Zd0 Zd6 (Zb 2) Ze) Zd))))
  (Zf (Zs 4 ZE.nd (Zp (Zah (Za (ZJ Ze (Zi C_law_take θ (hr.mono (by decide)) (Za (Zb 0) (Za (Z8 (Zb 1) Ze) Zd)))) (Za (Zb 1) Zd))) (Zab Zbb ZdS T.b_int Zc9 (Za (Zb8 (ZbA hr.units) Zc3 (Zi C_law_take θ (hr.mono (by decide)) (Za (Zb 0) (Za Ze Zd))) Ze) Zd))))
  (Zf (Zcd θ.own T.b_range (Za (Z8 (Zb 4) (Zv Zu ZaB T.b_len PySem.boot_len (Za (Zb 3) Zd))) Zd) (Zm 5 ZE.nd) (Zj (Zs 3 ZE.nd (Zi C_law_put θ (hr.mono (by decide)) (Za (Zb 3) (Za (Zi C_law_take θ (hr.mono (by decide)) (Za (Zb 0) (Za (Zv Zu ZaB T.b_len PySem.boot_len (Za (Zb 3) Zd)) Zd))) Zd))))))
  (Zf (Zs 6 ZE.nd (Zp (Zah (Za Ze (Za Ze Zd))) (Zab Zbb ZdS T.b_int Zc9 (Za (Zb8 (ZbA hr.units) Zc3 (Zi C_law_take θ (hr.mono (by decide)) (Za (Zb 0) (Za Ze Zd))) Ze) Zd))))
  (Zf (Zcd θ.own T.b_range (Za (Zi C_law_take θ (hr.mono (by decide)) (Za (Zb 0) (Za Ze Zd))) Zd) (Zm 5 ZE.nd) (Zf (Zs 7 ZE.nd (Z8 (Zi C_law_take θ (hr.mono (by decide)) (Za (Zb 0) (Za (Zb 6) Zd))) (Zcx (Zb 6) Ze)))
  (Zj (Zs 3 ZE.nd (Zi C_law_sheared θ (hr.mono (by decide)) (Za (Zb 3) (Za (Zb 7) (Za (Zi C_law_take θ (hr.mono (by decide)) (Za (Zb 0) (Za Ze Zd))) Zd))))))))
  (Zf (ZaF (ZM (ZbA hr.units) Zc3 (Zi C_law_take θ (hr.mono (by decide)) (Za (Zb 0) (Za Ze Zd))) Ze) (Zj (Zeg 3 ZE.nd (Zro (N:=["_law_x","_law_y"]) (k:=2) (by decide +kernel) rfl (by decide +kernel) rfl) (ZoI (hr.hd (by decide)) T.b_reversed (Za (Zb 3) Zd)) (fun _ _ _ _=>(ZR (Zw hr (by decide)) (Zk (Zm 0 (show List.Nodup (["_law_x","_law_y"]:List Str) by decide +kernel)) (Zk (Zm 1 (show List.Nodup (["_law_x","_law_y"]:List Str) by decide +kernel)) ZH)) (hlen:=(Zn (Zn (fun _ _ _ h=>ZI h)))))) (fun _ _ _ _=>(Or.inl ⟨rfl,rfl⟩)) (fun _ _ _ _=>(Zx (Za (Zb 1) (Za (Zb 0) Zd)))))) ZL)
  (Zf (Zs 8 ZE.nd (Zi C_law_take θ (hr.mono (by decide)) (Za (Zb 0) (Za (Zv Zu ZaB T.b_len PySem.boot_len (Za (Zb 3) Zd)) Zd))))
  (Zj (ZA (ZJ (Zdh (Zb 3) (Zdg (Zb 8)) Zdf) (Zdh (Zb 3) Zdf (Zdg (Zb 8))))))))))))))
noncomputable abbrev Zaf:Stmt:=top 44
theorem ZF:FnScope ["_law_purse_here","_law_most","_law_rays","_law_width","_law_a","_law_d","_law_b","_law_c","_law_found","_law_ray","_law_at","_law_without"] ["_law_purse_here","_law_most"] (Zg Zaf):=⟨rfl,rfl,rfl,by decide +kernel,rfl,by decide +kernel,by decide +kernel⟩
theorem Zfq {f:Addr} {fd:FuncData} (F:Fun K "_law_round" "_law_round" Zaf f fd) (T:Txt K mg) (C_law_smooth:Cal P w K mg base "_law_smooth" 103 2 F_law_smooth) (C_law_take:Cal P w K mg base "_law_take" 1 2 F_law_take) (C_law_short:Cal P w K mg base "_law_short" 101 1 F_law_short) (C_law_greatest:Cal P w K mg base "_law_greatest" 101 1 F_law_greatest) (C_law_crossed:Cal P w K mg base "_law_crossed" 1 2 F_law_crossed):FnOk P w K mg base (CXE P w) 104 f fd ["_law_purse_here","_law_most"] (spD K F_law_round):=
 Z0 F ZF rfl rfl fun cdv A outer s H E hr θ=>(Zf (Zs 2 ZF.nd (Zi C_law_smooth θ (hr.mono (by decide)) (Za (Zb 0) (Za (Zb 1) Zd))))
  (Zf (Zs 3 ZF.nd (Zp (Zah (Za Ze (Za Ze Zd))) (Zab Zbb ZdS T.b_int Zc9 (Za (Zb8 (ZbA hr.units) Zc3 (Zi C_law_take θ (hr.mono (by decide)) (Za (Zb 0) (Za Ze Zd))) Ze) Zd))))
  (Zf (Zcb (Zx (Za (ZJ Ze (Zi C_law_take θ (hr.mono (by decide)) (Za (Zb 0) (Za (Zb 3) Zd)))) (Za (ZJ Ze (Zi C_law_take θ (hr.mono (by decide)) (Za (Zb 0) (Za Ze Zd)))) Zd))) (ZR (Zw hr (by decide)) (Zk (Zm 4 ZF.nd) (Zk (Zm 5 ZF.nd) ZH)) (hlen:=(Zn (Zn (fun _ _ _ h=>ZI h))))))
  (Zf (Zs 6 ZF.nd (Z8 (Zi C_law_take θ (hr.mono (by decide)) (Za (Zb 0) (Za Ze Zd))) Ze))
  (Zf (Zs 7 ZF.nd (Zy (Z8 (Zi C_law_take θ (hr.mono (by decide)) (Za (Zb 0) (Za Ze Zd))) Ze) (Zab Zbb ZdS T.b_int Zc9 (Za (Zb8 Zd0 Zd6 (Zy (Zb 4) (Zb 5)) Ze) Zd))))
  (Zf (Zeg 8 ZF.nd (Zl8 (XN:=["_law_purse_here","_law_most","_law_rays","_law_width","_law_a","_law_d","_law_b","_law_c","_law_found","_law_ray","_law_at","_law_without"]) (dn:=(Zg Zaf).names) (N:=["_law_x","_law_y","_law_a","_law_d","_law_b","_law_c"]) (k:=2) (fr:=[4,5,6,7]) rfl rfl rfl rfl (by decide +kernel)) (Zdb (Zb 2)) (fun _ _ _ _=>(ZR (Zw hr (by decide)) (Zk (Zm 0 (show List.Nodup (["_law_x","_law_y","_law_a","_law_d","_law_b","_law_c"]:List Str) by decide +kernel)) (Zk (Zm 1 (show List.Nodup (["_law_x","_law_y","_law_a","_law_d","_law_b","_law_c"]:List Str) by decide +kernel)) ZH)) (hlen:=(Zn (Zn (fun _ _ _ h=>ZI h)))))) (fun _ _ _ _=>(Or.inl ⟨rfl,rfl⟩)) (fun _ _ _ _=>(Zi C_law_short Zdc (hr.mono (by decide)) (Za (Zx (Za (ZJ (Zy (Zb 2) (Zb 0)) (Zy (Zb 4) (Zb 1))) (Za (ZJ (Zy (Zb 5) (Zb 0)) (Zy (Zb 3) (Zb 1))) Zd))) Zd))))
  (Zf (ZaF (ZM ZnV Zoh (Zi C_law_greatest θ (hr.mono (by decide)) (Za (Zb 8) Zd)) Ze) (Zj (Zs 2 ZF.nd (Zb 8))) ZL)
  (Zf (Zgq θ.own (Zab Za1 Zd8 T.b_list Zda (Za (Zb 2) Zd)) (Zm 9 ZF.nd) (Zf (Zs 10 ZF.nd (Zme PySem.F.slot_list_index PySem.F.type_list_index (ZoA hr.units) ZoB (Zb 2) (Za (Zb 9) Zd)))
  (Zf (Zs 11 ZF.nd (ZJ (Zdh (Zb 2) Zdf (Zdg (Zb 10))) (Zdh (Zb 2) (Zdg (ZJ (Zb 10) Ze)) Zdf)))
  (Zj (ZaF (Zns (Zn9 (ZM Zd0 Zd6 (Zv Zu ZaB T.b_len PySem.boot_len (Za (Zb 11) Zd)) Ze) (ZlW (ZM (ZbA hr.units) Zc3 (Zi C_law_take θ (hr.mono (by decide)) (Za (Zb 0) (Za Ze Zd))) Ze)))) (Zj (ZaF (ZM Zd0 Zd6 (Zi C_law_crossed θ (hr.mono (by decide)) (Za (Zp (Zb 11) (Z8 (Zb 10) Ze)) (Za (Zp (Zb 11) (Zbz (Zb 10) (Zv Zu ZaB T.b_len PySem.boot_len (Za (Zb 11) Zd)))) Zd))) Ze) (Zj (Zs 2 ZF.nd (Zb 11))) ZL)) ZL)))))
  (Zj (ZA (Zb 2)))))))))))
noncomputable abbrev Zax:Stmt:=top 45
theorem Z3:FnScope ["_law_purse_here","_law_table_here","_law_turn","_law_many"] ["_law_purse_here"] (Zg Zax):=⟨rfl,rfl,rfl,by decide +kernel,rfl,by decide +kernel,by decide +kernel⟩
theorem Zfr {f:Addr} {fd:FuncData} (F:Fun K "_law_table" "_law_table" Zax f fd) (T:Txt K mg) (C_law_take:Cal P w K mg base "_law_take" 1 2 F_law_take):FnOk P w K mg base (CXE P w) 2 f fd ["_law_purse_here"] (spD K F_law_table):=
 Z0 F Z3 rfl rfl fun cdv A outer s H E hr θ=>(Zf (Zs 1 Z3.nd (Zah (Za Ze (Za Ze (Za Ze (Za Ze Zd))))))
  (Zf (Zcd θ.own T.b_range (Za (Zi C_law_take θ (hr.mono (by decide)) (Za (Zb 0) (Za Ze Zd))) Zd) (Zm 2 Z3.nd) (Zf (Zs 3 Z3.nd (Z8 (Zi C_law_take θ (hr.mono (by decide)) (Za (Zb 0) (Za Ze Zd))) Ze))
  (Zj (ZaF (ZM (ZbA hr.units) Zc3 (Zi C_law_take θ (hr.mono (by decide)) (Za (Zb 0) (Za Ze Zd))) Ze) (Zj (Zs 1 Z3.nd (Zah (Za (ZJ (Zp (Zb 1) Ze) (Zy (Zb 3) (Zp (Zb 1) Ze))) (Za (ZJ (Zp (Zb 1) Ze) (Zy (Zb 3) (Zp (Zb 1) Ze))) (Za (Zp (Zb 1) Ze) (Za (Zp (Zb 1) Ze) Zd))))))) (Zj (Zs 1 Z3.nd (Zah (Za (Zp (Zb 1) Ze) (Za (Zp (Zb 1) Ze) (Za (ZJ (Zp (Zb 1) Ze) (Zy (Zb 3) (Zp (Zb 1) Ze))) (Za (ZJ (Zp (Zb 1) Ze) (Zy (Zb 3) (Zp (Zb 1) Ze))) Zd)))))))))))
  (Zf (ZaF (ZM (ZbA hr.units) Zc3 (Zi C_law_take θ (hr.mono (by decide)) (Za (Zb 0) (Za Ze Zd))) Ze) (Zj (Zs 1 Z3.nd (Zah (Za (Zp (Zb 1) Ze) (Za (Zp (Zb 1) Ze) (Za (Zp (Zb 1) Ze) (Za (Zp (Zb 1) Ze) Zd))))))) ZL)
  (Zj (ZA (Zb 1))))))
noncomputable abbrev Zbm:Stmt:=top 46
theorem Zhn:FnScope ["_law_table_here","_law_pair"] ["_law_table_here","_law_pair"] (Zg Zbm):=⟨rfl,rfl,rfl,by decide +kernel,rfl,by decide +kernel,by decide +kernel⟩
theorem Zho {f:Addr} {fd:FuncData} (F:Fun K "_law_led" "_law_led" Zbm f fd) (T:Txt K mg):FnOk P w K mg base (CXE P w) 1 f fd ["_law_table_here","_law_pair"] (spD K F_law_led):=
 Z0 F Zhn rfl rfl fun cdv A outer s H E hr θ=>(Zj (ZA (Zx (Za (ZJ (Zy (Zp (Zb 0) Ze) (Zp (Zb 1) Ze)) (Zy (Zp (Zb 0) Ze) (Zp (Zb 1) Ze))) (Za (ZJ (Zy (Zp (Zb 0) Ze) (Zp (Zb 1) Ze)) (Zy (Zp (Zb 0) Ze) (Zp (Zb 1) Ze))) Zd)))))
noncomputable abbrev Zam:Stmt:=top 47
theorem Zay:FnScope ["_law_purse_here","_law_rays","_law_table_here","_law_found","_law_at"] ["_law_purse_here","_law_rays"] (Zg Zam):=⟨rfl,rfl,rfl,by decide +kernel,rfl,by decide +kernel,by decide +kernel⟩
theorem Zgb {f:Addr} {fd:FuncData} (F:Fun K "_law_copy" "_law_copy" Zam f fd) (T:Txt K mg) (C_law_table:Cal P w K mg base "_law_table" 2 1 F_law_table) (C_law_led:Cal P w K mg base "_law_led" 1 2 F_law_led) (C_law_greatest:Cal P w K mg base "_law_greatest" 101 1 F_law_greatest) (C_law_take:Cal P w K mg base "_law_take" 1 2 F_law_take):FnOk P w K mg base (CXE P w) 102 f fd ["_law_purse_here","_law_rays"] (spD K F_law_copy):=
 Z0 F Zay rfl rfl fun cdv A outer s H E hr θ=>(Zf (Zs 2 Zay.nd (Zi C_law_table θ (hr.mono (by decide)) (Za (Zb 0) Zd)))
  (Zf (ZaF (ZM Zd0 Zd6 (Zi C_law_greatest θ (hr.mono (by decide)) (Za (Zdd (Zl8 (XN:=["_law_purse_here","_law_rays","_law_table_here","_law_found","_law_at"]) (dn:=(Zg Zam).names) (N:=["_law_ray","_law_table_here"]) (k:=1) (fr:=[2]) rfl rfl rfl rfl (by decide +kernel)) (Zdb (Zb 1)) (fun _ _ _ _=>(Zm 0 (show List.Nodup (["_law_ray","_law_table_here"]:List Str) by decide +kernel))) (fun _ _ _ _=>(Or.inl ⟨rfl,rfl⟩)) (fun _ _ _ _=>(Zi C_law_led Zdc (hr.mono (by decide)) (Za (Zb 1) (Za (Zb 0) Zd))))) Zd)) Ze) (Zj (Zs 2 Zay.nd (Zah (Za Ze (Za Ze (Za Ze (Za Ze Zd))))))) ZL)
  (Zf (Zeg 3 Zay.nd (Zl8 (XN:=["_law_purse_here","_law_rays","_law_table_here","_law_found","_law_at"]) (dn:=(Zg Zam).names) (N:=["_law_ray","_law_table_here"]) (k:=1) (fr:=[2]) rfl rfl rfl rfl (by decide +kernel)) (Zdb (Zb 1)) (fun _ _ _ _=>(Zm 0 (show List.Nodup (["_law_ray","_law_table_here"]:List Str) by decide +kernel))) (fun _ _ _ _=>(Or.inl ⟨rfl,rfl⟩)) (fun _ _ _ _=>(Zi C_law_led Zdc (hr.mono (by decide)) (Za (Zb 1) (Za (Zb 0) Zd)))))
  (Zf (ZaF (ZM ZlH ZlZ (Z8 (Zy (Zp (Zb 2) Ze) (Zp (Zb 2) Ze)) (Zy (Zp (Zb 2) Ze) (Zp (Zb 2) Ze))) Ze) (Zj (Zs 3 Zay.nd (Zru (hr.hd (by decide)) T.b_list T.b_reversed (Za (Zb 3) Zd)))) ZL)
  (Zf (Zs 4 Zay.nd (Zi C_law_take θ (hr.mono (by decide)) (Za (Zb 0) (Za (Zv Zu ZaB T.b_len PySem.boot_len (Za (Zb 3) Zd)) Zd))))
  (Zj (ZA (ZJ (Zdh (Zb 3) (Zdg (Zb 4)) Zdf) (Zdh (Zb 3) Zdf (Zdg (Zb 4)))))))))))
noncomputable abbrev ZO:Stmt:=top 48
theorem Z4:FnScope ["_law_one","_law_other","_law_found","_law_a","_law_b","_law_c","_law_d"] ["_law_one","_law_other","_law_found"] (Zg ZO):=⟨rfl,rfl,rfl,by decide +kernel,rfl,by decide +kernel,by decide +kernel⟩
theorem ZdG {f:Addr} {fd:FuncData} (F:Fun K "_law_is_alike" "_law_is_alike" ZO f fd) (T:Txt K mg):FnOk P w K mg base (CXE P w) 101 f fd ["_law_one","_law_other","_law_found"] (spD K F_law_is_alike):=
 Z0 F Z4 rfl rfl fun cdv A outer s H E hr θ=>(Zf (ZaF (Zns (ZfD (Zc2 (Zc0 (ZdT Zca T.b_isinstance T.b_tuple ZcP (Zb 2)))) (ZfD (ZM (Zcy hr.units) ZeR (Zv Zu ZaB T.b_len PySem.boot_len (Za (Zb 2) Zd)) Ze) (ZfD (ZM (Zcy hr.units) ZeR (Zp (Zb 2) Ze) ZcZ) (ZeQ (Zc2 (Zc0 (ZdT Zca T.b_isinstance T.b_tuple ZcP (Zp (Zb 2) Ze))))))))) (Zj (ZA ZfC)) ZL)
  (Zf (Zcb (Zp (Zb 2) Ze) (ZR (Zw hr (by decide)) (Zk (ZR (Zw hr (by decide)) (Zk (Zm 3 Z4.nd) (Zk (Zm 4 Z4.nd) ZH)) (hlen:=(Zn (Zn (fun _ _ _ h=>ZI h))))) (Zk (ZR (Zw hr (by decide)) (Zk (Zm 5 Z4.nd) (Zk (Zm 6 Z4.nd) ZH)) (hlen:=(Zn (Zn (fun _ _ _ h=>ZI h))))) ZH)) (hlen:=(Zn (Zn (fun _ _ _ h=>ZI h))))))
  (Zf (ZaF (ZM ZeK ZjY (Z8 (Zy (Zb 3) (Zb 6)) (Zy (Zb 4) (Zb 5))) (Zx (Za Ze (Za (Zbv Ze) Zd)))) (Zj (ZA ZfC)) ZL)
  (Zj (ZA (Zb8 (ZbA hr.units) Zc3 (Zv Zdm Ze5 T.b_sorted Ze2 (Za (Zdd (Zl8 (XN:=["_law_one","_law_other","_law_found","_law_a","_law_b","_law_c","_law_d"]) (dn:=(Zg ZO).names) (N:=["_law_x","_law_y","_law_a","_law_b","_law_c","_law_d"]) (k:=2) (fr:=[3,4,5,6]) rfl rfl rfl rfl (by decide +kernel)) (Zdb (Zb 0)) (fun _ _ _ _=>(ZR (Zw hr (by decide)) (Zk (Zm 0 (show List.Nodup (["_law_x","_law_y","_law_a","_law_b","_law_c","_law_d"]:List Str) by decide +kernel)) (Zk (Zm 1 (show List.Nodup (["_law_x","_law_y","_law_a","_law_b","_law_c","_law_d"]:List Str) by decide +kernel)) ZH)) (hlen:=(Zn (Zn (fun _ _ _ h=>ZI h)))))) (fun _ _ _ _=>(Or.inl ⟨rfl,rfl⟩)) (fun _ _ _ _=>(Zx (Za (ZJ (Zy (Zb 2) (Zb 0)) (Zy (Zb 3) (Zb 1))) (Za (ZJ (Zy (Zb 4) (Zb 0)) (Zy (Zb 5) (Zb 1))) Zd))))) Zd)) (Zv Zdm Ze5 T.b_sorted Ze2 (Za (Zb 1) Zd))))))))
noncomputable abbrev Zez:Stmt:=top 49
noncomputable def ZeA:Sv:=(ZK (ZQ (gNm 7) (Zaq (Zc (Zl bList (Zc (Zh 5) aNil)) (Zc (Zl bList (Zc (Zh 6) aNil)) aNil))))
 (ZK (ZQ (gNm 8) (Zl F_likeness (Zc (e2 dIx (Zh 7) (eC (.int 0))) (Zc (e2 dIx (Zh 7) (eC (.int 1))) aNil))))
 (ZK (sIf (Zju (Zc1 (tv (Zl F_law_is_alike (Zc (Zh 5) (Zc (Zh 6) (Zc (Zh 8) aNil)))))) (Zc1 (tv (Zl F_is_turning (Zc (e2 dIx (Zh 8) (eC (.int 1))) aNil))))) (Zar (eC (.bl false))) sNil)
 (sIf (tv (e2 dNe (Zh 7) (Zaq (Zc (Zh 5) (Zc (Zh 6) aNil))))) (Zar (eC (.bl false))) sNil))))
noncomputable def ZeB:Sv:=(ZK (ZQ (gNm 2) (Zl F_law_purse (Zc (Zh 0) (Zc (Zh 1) aNil))))
 (ZK (ZQ (gNm 3) (Zl F_law_round (Zc (Zh 2) (Zc (eC (.int 8)) aNil))))
 (ZK (sIf (tv (e2 dGt (Zl bLen (Zc (Zl F_least_round (Zc (Zl bList (Zc (Zh 3) aNil)) aNil)) aNil)) (eC (.int 300)))) (ZQ (gNm 3) (ZcN (Zc (Zaq (Zc (eC (.int 1)) (Zc (eC (.int 0)) aNil))) (Zc (Zaq (Zc (eC (.int 0)) (Zc (eC (.int 1)) aNil))) (Zc (Zaq (Zc (ZfE (eC (.int 1))) (Zc (ZfE (eC (.int 1))) aNil))) aNil))))) sNil)
 (ZK (ZQ (gNm 4) (Zl F_law_copy (Zc (Zh 2) (Zc (Zh 3) aNil))))
 (Zl2 (gTp (gCs (gNm 5) (gCs (gNm 6) gNl))) (ZcN (Zc (Zaq (Zc (Zh 3) (Zc (Zh 4) aNil))) (Zc (Zaq (Zc (Zh 4) (Zc (Zh 3) aNil))) (Zc (Zaq (Zc (Zh 3) (Zc (Zh 3) aNil))) aNil)))) ZeA)))))
noncomputable def ZqL:Sv:=(ZK (Zcc (gNm 1) (Zc (Zl bMax (Zc (eC (.int 1)) (Zc (Zl bMin (Zc (eC (.int 2)) (Zc (Zl bLen (Zc (Zh 0) aNil)) aNil))) aNil))) aNil) ZeB)
 (Zar (eC (.bl true))))
noncomputable def Zgc:List D->Sto->Out D:=fnF ZqL 1 8
theorem ZbX:FnScope ["_law_script","_law_k","_law_purse_here","_law_one","_law_other","_law_mine","_law_yours","_law_handed","_law_found"] ["_law_script"] (Zg Zez):=⟨rfl,rfl,rfl,by decide +kernel,rfl,by decide +kernel,by decide +kernel⟩
theorem ZqM {f:Addr} {fd:FuncData} (F:Fun K "law" "law" Zez f fd) (T:Txt K mg) (C_law_purse:Cal P w K mg base "_law_purse" 1 2 F_law_purse) (C_law_round:Cal P w K mg base "_law_round" 104 2 F_law_round) (C_least_round:Cal P w K mg base "least_round" 105 1 F_least_round) (C_law_copy:Cal P w K mg base "_law_copy" 102 2 F_law_copy) (C_likeness:Cal P w K mg base "likeness" 107 2 F_likeness) (C_law_is_alike:Cal P w K mg base "_law_is_alike" 101 3 F_law_is_alike) (C_is_turning:Cal P w K mg base "is_turning" 3 1 F_is_turning):FnOk P w K mg base (CXE P w) 108 f fd ["_law_script"] (spD K Zgc):=
 Z0 F ZbX rfl rfl fun cdv A outer s H E hr θ=>(Zf (Zcd θ.own T.b_range (Za (Zv (ZcW (Zw hr (by decide))) Zh5 T.b_max Zgr (Za Ze (Za (Zv (ZhF (Zw hr (by decide))) Zom T.b_min Zop (Za Ze (Za (Zv Zu ZaB T.b_len PySem.boot_len (Za (Zb 0) Zd)) Zd))) Zd))) Zd) (Zm 1 ZbX.nd) (Zf (Zs 2 ZbX.nd (Zi C_law_purse θ (hr.mono (by decide)) (Za (Zb 0) (Za (Zb 1) Zd))))
  (Zf (Zs 3 ZbX.nd (Zi C_law_round θ (hr.mono (by decide)) (Za (Zb 2) (Za Ze Zd))))
  (Zf (ZaF (ZM Zd0 Zd6 (Zv Zu ZaB T.b_len PySem.boot_len (Za (Zi C_least_round θ (hr.mono (by decide)) (Za (Zab Za1 Zd8 T.b_list Zda (Za (Zb 3) Zd)) Zd)) Zd)) Ze) (Zj (Zs 3 ZbX.nd (Zah (Za (Zx (Za Ze (Za Ze Zd))) (Za (Zx (Za Ze (Za Ze Zd))) (Za (Zx (Za (Zbv Ze) (Za (Zbv Ze) Zd))) Zd)))))) ZL)
  (Zf (Zs 4 ZbX.nd (Zi C_law_copy θ (hr.mono (by decide)) (Za (Zb 2) (Za (Zb 3) Zd))))
  (Zj (Zgq θ.own (Zah (Za (Zx (Za (Zb 3) (Za (Zb 4) Zd))) (Za (Zx (Za (Zb 4) (Za (Zb 3) Zd))) (Za (Zx (Za (Zb 3) (Za (Zb 3) Zd))) Zd)))) (ZR (Zw hr (by decide)) (Zk (Zm 5 ZbX.nd) (Zk (Zm 6 ZbX.nd) ZH)) (hlen:=(Zn (Zn (fun _ _ _ h=>ZI h))))) (Zf (Zs 7 ZbX.nd (Zx (Za (Zab Za1 Zd8 T.b_list Zda (Za (Zb 5) Zd)) (Za (Zab Za1 Zd8 T.b_list Zda (Za (Zb 6) Zd)) Zd))))
  (Zf (Zs 8 ZbX.nd (Zi C_likeness θ (hr.mono (by decide)) (Za (Zp (Zb 7) Ze) (Za (Zp (Zb 7) Ze) Zd))))
  (Zf (ZaF (Zns (ZfD (Zc2 (Zc0 (Zi C_law_is_alike θ (hr.mono (by decide)) (Za (Zb 5) (Za (Zb 6) (Za (Zb 8) Zd)))))) (ZeQ (Zc2 (Zc0 (Zi C_is_turning θ (hr.mono (by decide)) (Za (Zp (Zb 8) Ze) Zd))))))) (Zj (ZA ZfC)) ZL)
  (Zj (ZaF (ZM (Zcy hr.units) ZeR (Zb 7) (Zx (Za (Zb 5) (Za (Zb 6) Zd)))) (Zj (ZA ZfC)) ZL))))))))))))
  (Zj (ZA ZfC)))
end
theorem Zhp {α:Type} {P:List α->Prop} (h: ∀ x0,P [x0]): ∀ us:List α,us.length=1->P us
 | [x0],_=>h x0
theorem ZdY {α:Type} {P:List α->Prop} (h: ∀ x0 x1,P [x0,x1]): ∀ us:List α,us.length=2->P us
 | [x0,x1],_=>h x0 x1
theorem Zuj {α:Type} {P:List α->Prop} (h: ∀ x0 x1 x2,P [x0,x1,x2]): ∀ us:List α,us.length=3->P us
 | [x0,x1,x2],_=>h x0 x1 x2
theorem ZvC {α:Type} {P:List α->Prop} (h: ∀ x0 x1 x2 x3,P [x0,x1,x2,x3]): ∀ us:List α,us.length=4->P us
 | [x0,x1,x2,x3],_=>h x0 x1 x2 x3
theorem ZqN {l:PySem.W.OpenLaw} {w:World} {K:PySem.W.Frag} {h:Heap} {mg:Str->Option Value} {fa f1 f2 f3 f4 f5 f6 f7 f8 f9 f10 f11 f12 f13 f14 f15 f16 f17 f18 f19 f20 f21 f22 f23 f24 f25 f26 f27 f28 f29 f30 f31 f32 f33 f34 f35 f36 f37:Addr} (X:K.In h) (G:h.Ns mainGlobals mg) (hfa:mg "law"=some (.ref fa))
  {od1 an1 od2 an2 od3 an3 od4 an4 od5 an5 od6 an6 od7 an7 od8 an8 od9 an9 od10 an10 od11 an11 od12 an12 od13 an13 od14 an14 od15 an15 od16 an16 od17 an17 od18 an18 od19 an19 od20 an20 od21 an21 od22 an22 od23 an23 od24 an24 od25 an25 od26 an26 od27 an27 od28 an28 od29 an29 od30 an30 od31 an31 od32 an32 od33 an33 od34 an34 od35 an35 od36 an36 od37 an37:Option Addr} {sl1 sl2 sl3 sl4 sl5 sl6 sl7 sl8 sl9 sl10 sl11 sl12 sl13 sl14 sl15 sl16 sl17 sl18 sl19 sl20 sl21 sl22 sl23 sl24 sl25 sl26 sl27 sl28 sl29 sl30 sl31 sl32 sl33 sl34 sl35 sl36 sl37:Array (Option Value)} {oc1 kV1 dc1 pm1 cd1 ct1 oc2 kV2 dc2 pm2 cd2 ct2 oc3 kV3 dc3 pm3 cd3 ct3 oc4 kV4 dc4 pm4 cd4 ct4 oc5 kV5 dc5 pm5 cd5 ct5 oc6 kV6 dc6 pm6 cd6 ct6 oc7 kV7 dc7 pm7 cd7 ct7 oc8 kV8 dc8 pm8 cd8 ct8 oc9 kV9 dc9 pm9 cd9 ct9 oc10 kV10 dc10 pm10 cd10 ct10 oc11 kV11 dc11 pm11 cd11 ct11 oc12 kV12 dc12 pm12 cd12 ct12 oc13 kV13 dc13 pm13 cd13 ct13 oc14 kV14 dc14 pm14 cd14 ct14 oc15 kV15 dc15 pm15 cd15 ct15 oc16 kV16 dc16 pm16 cd16 ct16 oc17 kV17 dc17 pm17 cd17 ct17 oc18 kV18 dc18 pm18 cd18 ct18 oc19 kV19 dc19 pm19 cd19 ct19 oc20 kV20 dc20 pm20 cd20 ct20 oc21 kV21 dc21 pm21 cd21 ct21 oc22 kV22 dc22 pm22 cd22 ct22 oc23 kV23 dc23 pm23 cd23 ct23 oc24 kV24 dc24 pm24 cd24 ct24 oc25 kV25 dc25 pm25 cd25 ct25 oc26 kV26 dc26 pm26 cd26 ct26 oc27 kV27 dc27 pm27 cd27 ct27 oc28 kV28 dc28 pm28 cd28 ct28 oc29 kV29 dc29 pm29 cd29 ct29 oc30 kV30 dc30 pm30 cd30 ct30 oc31 kV31 dc31 pm31 cd31 ct31 oc32 kV32 dc32 pm32 cd32 ct32 oc33 kV33 dc33 pm33 cd33 ct33 oc34 kV34 dc34 pm34 cd34 ct34 oc35 kV35 dc35 pm35 cd35 ct35 oc36 kV36 dc36 pm36 cd36 ct36 oc37 kV37 dc37 pm37 cd37 ct37:Value}
  (a1:PySem.W.nsIn K mainGlobals "is_whole"=some (some (.ref f1))) (l1:K.lookup f1=some ⟨oc1,od1,.func (PySem.W.fnOf "is_whole" "is_whole" (Zt ZaN) (Zr ZaN) (Zg ZaN) .none kV1 dc1 pm1 an1 cd1 ct1),sl1⟩) (c1:PySem.W.codeIn K cd1 "is_whole"=true) (k1:PySem.W.keepIn K (.ref f1)=true)
  (a2:PySem.W.nsIn K mainGlobals "is_pair"=some (some (.ref f2))) (l2:K.lookup f2=some ⟨oc2,od2,.func (PySem.W.fnOf "is_pair" "is_pair" (Zt Zbe) (Zr Zbe) (Zg Zbe) .none kV2 dc2 pm2 an2 cd2 ct2),sl2⟩) (c2:PySem.W.codeIn K cd2 "is_pair"=true) (k2:PySem.W.keepIn K (.ref f2)=true)
  (a3:PySem.W.nsIn K mainGlobals "crossed"=some (some (.ref f3))) (l3:K.lookup f3=some ⟨oc3,od3,.func (PySem.W.fnOf "crossed" "crossed" (Zt Zbf) (Zr Zbf) (Zg Zbf) .none kV3 dc3 pm3 an3 cd3 ct3),sl3⟩) (c3:PySem.W.codeIn K cd3 "crossed"=true) (k3:PySem.W.keepIn K (.ref f3)=true)
  (a4:PySem.W.nsIn K mainGlobals "spanned"=some (some (.ref f4))) (l4:K.lookup f4=some ⟨oc4,od4,.func (PySem.W.fnOf "spanned" "spanned" (Zt Zbg) (Zr Zbg) (Zg Zbg) .none kV4 dc4 pm4 an4 cd4 ct4),sl4⟩) (c4:PySem.W.codeIn K cd4 "spanned"=true) (k4:PySem.W.keepIn K (.ref f4)=true)
  (a5:PySem.W.nsIn K mainGlobals "is_turning"=some (some (.ref f5))) (l5:K.lookup f5=some ⟨oc5,od5,.func (PySem.W.fnOf "is_turning" "is_turning" (Zt Zai) (Zr Zai) (Zg Zai) .none kV5 dc5 pm5 an5 cd5 ct5),sl5⟩) (c5:PySem.W.codeIn K cd5 "is_turning"=true) (k5:PySem.W.keepIn K (.ref f5)=true)
  (a6:PySem.W.nsIn K mainGlobals "turned"=some (some (.ref f6))) (l6:K.lookup f6=some ⟨oc6,od6,.func (PySem.W.fnOf "turned" "turned" (Zt ZbN) (Zr ZbN) (Zg ZbN) .none kV6 dc6 pm6 an6 cd6 ct6),sl6⟩) (c6:PySem.W.codeIn K cd6 "turned"=true) (k6:PySem.W.keepIn K (.ref f6)=true)
  (a7:PySem.W.nsIn K mainGlobals "back"=some (some (.ref f7))) (l7:K.lookup f7=some ⟨oc7,od7,.func (PySem.W.fnOf "back" "back" (Zt ZdW) (Zr ZdW) (Zg ZdW) .none kV7 dc7 pm7 an7 cd7 ct7),sl7⟩) (c7:PySem.W.codeIn K cd7 "back"=true) (k7:PySem.W.keepIn K (.ref f7)=true)
  (a8:PySem.W.nsIn K mainGlobals "beside"=some (some (.ref f8))) (l8:K.lookup f8=some ⟨oc8,od8,.func (PySem.W.fnOf "beside" "beside" (Zt ZbO) (Zr ZbO) (Zg ZbO) .none kV8 dc8 pm8 an8 cd8 ct8),sl8⟩) (c8:PySem.W.codeIn K cd8 "beside"=true) (k8:PySem.W.keepIn K (.ref f8)=true)
  (a9:PySem.W.nsIn K mainGlobals "then"=some (some (.ref f9))) (l9:K.lookup f9=some ⟨oc9,od9,.func (PySem.W.fnOf "then" "then" (Zt ZdX) (Zr ZdX) (Zg ZdX) .none kV9 dc9 pm9 an9 cd9 ct9),sl9⟩) (c9:PySem.W.codeIn K cd9 "then"=true) (k9:PySem.W.keepIn K (.ref f9)=true)
  (a10:PySem.W.nsIn K mainGlobals "leading"=some (some (.ref f10))) (l10:K.lookup f10=some ⟨oc10,od10,.func (PySem.W.fnOf "leading" "leading" (Zt Zbh) (Zr Zbh) (Zg Zbh) .none kV10 dc10 pm10 an10 cd10 ct10),sl10⟩) (c10:PySem.W.codeIn K cd10 "leading"=true) (k10:PySem.W.keepIn K (.ref f10)=true)
  (a11:PySem.W.nsIn K mainGlobals "following"=some (some (.ref f11))) (l11:K.lookup f11=some ⟨oc11,od11,.func (PySem.W.fnOf "following" "following" (Zt Zat) (Zr Zat) (Zg Zat) .none kV11 dc11 pm11 an11 cd11 ct11),sl11⟩) (c11:PySem.W.codeIn K cd11 "following"=true) (k11:PySem.W.keepIn K (.ref f11)=true)
  (a12:PySem.W.nsIn K mainGlobals "unspanned"=some (some (.ref f12))) (l12:K.lookup f12=some ⟨oc12,od12,.func (PySem.W.fnOf "unspanned" "unspanned" (Zt Zau) (Zr Zau) (Zg Zau) .none kV12 dc12 pm12 an12 cd12 ct12),sl12⟩) (c12:PySem.W.codeIn K cd12 "unspanned"=true) (k12:PySem.W.keepIn K (.ref f12)=true)
  (a13:PySem.W.nsIn K mainGlobals "ask_smooth"=some (some (.ref f13))) (l13:K.lookup f13=some ⟨oc13,od13,.func (PySem.W.fnOf "ask_smooth" "ask_smooth" (Zt Zaj) (Zr Zaj) (Zg Zaj) .none kV13 dc13 pm13 an13 cd13 ct13),sl13⟩) (c13:PySem.W.codeIn K cd13 "ask_smooth"=true) (k13:PySem.W.keepIn K (.ref f13)=true)
  (a14:PySem.W.nsIn K mainGlobals "partner"=some (some (.ref f14))) (l14:K.lookup f14=some ⟨oc14,od14,.func (PySem.W.fnOf "partner" "partner" (Zt Zbi) (Zr Zbi) (Zg Zbi) .none kV14 dc14 pm14 an14 cd14 ct14),sl14⟩) (c14:PySem.W.codeIn K cd14 "partner"=true) (k14:PySem.W.keepIn K (.ref f14)=true)
  (a15:PySem.W.nsIn K mainGlobals "first_behind"=some (some (.ref f15))) (l15:K.lookup f15=some ⟨oc15,od15,.func (PySem.W.fnOf "first_behind" "first_behind" (Zt ZY) (Zr ZY) (Zg ZY) .none kV15 dc15 pm15 an15 cd15 ct15),sl15⟩) (c15:PySem.W.codeIn K cd15 "first_behind"=true) (k15:PySem.W.keepIn K (.ref f15)=true)
  (a16:PySem.W.nsIn K mainGlobals "expanded"=some (some (.ref f16))) (l16:K.lookup f16=some ⟨oc16,od16,.func (PySem.W.fnOf "expanded" "expanded" (Zt ZaO) (Zr ZaO) (Zg ZaO) .none kV16 dc16 pm16 an16 cd16 ct16),sl16⟩) (c16:PySem.W.codeIn K cd16 "expanded"=true) (k16:PySem.W.keepIn K (.ref f16)=true)
  (a17:PySem.W.nsIn K mainGlobals "row"=some (some (.ref f17))) (l17:K.lookup f17=some ⟨oc17,od17,.func (PySem.W.fnOf "row" "row" (Zt Zhi) (Zr Zhi) (Zg Zhi) .none kV17 dc17 pm17 an17 cd17 ct17),sl17⟩) (c17:PySem.W.codeIn K cd17 "row"=true) (k17:PySem.W.keepIn K (.ref f17)=true)
  (a18:PySem.W.nsIn K mainGlobals "between"=some (some (.ref f18))) (l18:K.lookup f18=some ⟨oc18,od18,.func (PySem.W.fnOf "between" "between" (Zt Zbj) (Zr Zbj) (Zg Zbj) .none kV18 dc18 pm18 an18 cd18 ct18),sl18⟩) (c18:PySem.W.codeIn K cd18 "between"=true) (k18:PySem.W.keepIn K (.ref f18)=true)
  (a19:PySem.W.nsIn K mainGlobals "least_round"=some (some (.ref f19))) (l19:K.lookup f19=some ⟨oc19,od19,.func (PySem.W.fnOf "least_round" "least_round" (Zt Z6) (Zr Z6) (Zg Z6) .none kV19 dc19 pm19 an19 cd19 ct19),sl19⟩) (c19:PySem.W.codeIn K cd19 "least_round"=true) (k19:PySem.W.keepIn K (.ref f19)=true)
  (a20:PySem.W.nsIn K mainGlobals "numbers"=some (some (.ref f20))) (l20:K.lookup f20=some ⟨oc20,od20,.func (PySem.W.fnOf "numbers" "numbers" (Zt Za0) (Zr Za0) (Zg Za0) .none kV20 dc20 pm20 an20 cd20 ct20),sl20⟩) (c20:PySem.W.codeIn K cd20 "numbers"=true) (k20:PySem.W.keepIn K (.ref f20)=true)
  (a21:PySem.W.nsIn K mainGlobals "marked_row"=some (some (.ref f21))) (l21:K.lookup f21=some ⟨oc21,od21,.func (PySem.W.fnOf "marked_row" "marked_row" (Zt Z2) (Zr Z2) (Zg Z2) .none kV21 dc21 pm21 an21 cd21 ct21),sl21⟩) (c21:PySem.W.codeIn K cd21 "marked_row"=true) (k21:PySem.W.keepIn K (.ref f21)=true)
  (a22:PySem.W.nsIn K mainGlobals "first_reading"=some (some (.ref f22))) (l22:K.lookup f22=some ⟨oc22,od22,.func (PySem.W.fnOf "first_reading" "first_reading" (Zt ZT) (Zr ZT) (Zg ZT) .none kV22 dc22 pm22 an22 cd22 ct22),sl22⟩) (c22:PySem.W.codeIn K cd22 "first_reading"=true) (k22:PySem.W.keepIn K (.ref f22)=true)
  (a23:PySem.W.nsIn K mainGlobals "likeness"=some (some (.ref f23))) (l23:K.lookup f23=some ⟨oc23,od23,.func (PySem.W.fnOf "likeness" "likeness" (Zt ZaQ) (Zr ZaQ) (Zg ZaQ) .none kV23 dc23 pm23 an23 cd23 ct23),sl23⟩) (c23:PySem.W.codeIn K cd23 "likeness"=true) (k23:PySem.W.keepIn K (.ref f23)=true)
  (a24:PySem.W.nsIn K mainGlobals "_law_purse"=some (some (.ref f24))) (l24:K.lookup f24=some ⟨oc24,od24,.func (PySem.W.fnOf "_law_purse" "_law_purse" (Zt Zav) (Zr Zav) (Zg Zav) .none kV24 dc24 pm24 an24 cd24 ct24),sl24⟩) (c24:PySem.W.codeIn K cd24 "_law_purse"=true) (k24:PySem.W.keepIn K (.ref f24)=true)
  (a25:PySem.W.nsIn K mainGlobals "_law_take"=some (some (.ref f25))) (l25:K.lookup f25=some ⟨oc25,od25,.func (PySem.W.fnOf "_law_take" "_law_take" (Zt ZaR) (Zr ZaR) (Zg ZaR) .none kV25 dc25 pm25 an25 cd25 ct25),sl25⟩) (c25:PySem.W.codeIn K cd25 "_law_take"=true) (k25:PySem.W.keepIn K (.ref f25)=true)
  (a26:PySem.W.nsIn K mainGlobals "_law_crossed"=some (some (.ref f26))) (l26:K.lookup f26=some ⟨oc26,od26,.func (PySem.W.fnOf "_law_crossed" "_law_crossed" (Zt Z7) (Zr Z7) (Zg Z7) .none kV26 dc26 pm26 an26 cd26 ct26),sl26⟩) (c26:PySem.W.codeIn K cd26 "_law_crossed"=true) (k26:PySem.W.keepIn K (.ref f26)=true)
  (a27:PySem.W.nsIn K mainGlobals "_law_short"=some (some (.ref f27))) (l27:K.lookup f27=some ⟨oc27,od27,.func (PySem.W.fnOf "_law_short" "_law_short" (Zt Zaw) (Zr Zaw) (Zg Zaw) .none kV27 dc27 pm27 an27 cd27 ct27),sl27⟩) (c27:PySem.W.codeIn K cd27 "_law_short"=true) (k27:PySem.W.keepIn K (.ref f27)=true)
  (a28:PySem.W.nsIn K mainGlobals "_law_greatest"=some (some (.ref f28))) (l28:K.lookup f28=some ⟨oc28,od28,.func (PySem.W.fnOf "_law_greatest" "_law_greatest" (Zt ZZ) (Zr ZZ) (Zg ZZ) .none kV28 dc28 pm28 an28 cd28 ct28),sl28⟩) (c28:PySem.W.codeIn K cd28 "_law_greatest"=true) (k28:PySem.W.keepIn K (.ref f28)=true)
  (a29:PySem.W.nsIn K mainGlobals "_law_put"=some (some (.ref f29))) (l29:K.lookup f29=some ⟨oc29,od29,.func (PySem.W.fnOf "_law_put" "_law_put" (Zt Zbk) (Zr Zbk) (Zg Zbk) .none kV29 dc29 pm29 an29 cd29 ct29),sl29⟩) (c29:PySem.W.codeIn K cd29 "_law_put"=true) (k29:PySem.W.keepIn K (.ref f29)=true)
  (a30:PySem.W.nsIn K mainGlobals "_law_sheared"=some (some (.ref f30))) (l30:K.lookup f30=some ⟨oc30,od30,.func (PySem.W.fnOf "_law_sheared" "_law_sheared" (Zt ZW) (Zr ZW) (Zg ZW) .none kV30 dc30 pm30 an30 cd30 ct30),sl30⟩) (c30:PySem.W.codeIn K cd30 "_law_sheared"=true) (k30:PySem.W.keepIn K (.ref f30)=true)
  (a31:PySem.W.nsIn K mainGlobals "_law_smooth"=some (some (.ref f31))) (l31:K.lookup f31=some ⟨oc31,od31,.func (PySem.W.fnOf "_law_smooth" "_law_smooth" (Zt Zal) (Zr Zal) (Zg Zal) .none kV31 dc31 pm31 an31 cd31 ct31),sl31⟩) (c31:PySem.W.codeIn K cd31 "_law_smooth"=true) (k31:PySem.W.keepIn K (.ref f31)=true)
  (a32:PySem.W.nsIn K mainGlobals "_law_round"=some (some (.ref f32))) (l32:K.lookup f32=some ⟨oc32,od32,.func (PySem.W.fnOf "_law_round" "_law_round" (Zt Zaf) (Zr Zaf) (Zg Zaf) .none kV32 dc32 pm32 an32 cd32 ct32),sl32⟩) (c32:PySem.W.codeIn K cd32 "_law_round"=true) (k32:PySem.W.keepIn K (.ref f32)=true)
  (a33:PySem.W.nsIn K mainGlobals "_law_table"=some (some (.ref f33))) (l33:K.lookup f33=some ⟨oc33,od33,.func (PySem.W.fnOf "_law_table" "_law_table" (Zt Zax) (Zr Zax) (Zg Zax) .none kV33 dc33 pm33 an33 cd33 ct33),sl33⟩) (c33:PySem.W.codeIn K cd33 "_law_table"=true) (k33:PySem.W.keepIn K (.ref f33)=true)
  (a34:PySem.W.nsIn K mainGlobals "_law_led"=some (some (.ref f34))) (l34:K.lookup f34=some ⟨oc34,od34,.func (PySem.W.fnOf "_law_led" "_law_led" (Zt Zbm) (Zr Zbm) (Zg Zbm) .none kV34 dc34 pm34 an34 cd34 ct34),sl34⟩) (c34:PySem.W.codeIn K cd34 "_law_led"=true) (k34:PySem.W.keepIn K (.ref f34)=true)
  (a35:PySem.W.nsIn K mainGlobals "_law_copy"=some (some (.ref f35))) (l35:K.lookup f35=some ⟨oc35,od35,.func (PySem.W.fnOf "_law_copy" "_law_copy" (Zt Zam) (Zr Zam) (Zg Zam) .none kV35 dc35 pm35 an35 cd35 ct35),sl35⟩) (c35:PySem.W.codeIn K cd35 "_law_copy"=true) (k35:PySem.W.keepIn K (.ref f35)=true)
  (a36:PySem.W.nsIn K mainGlobals "_law_is_alike"=some (some (.ref f36))) (l36:K.lookup f36=some ⟨oc36,od36,.func (PySem.W.fnOf "_law_is_alike" "_law_is_alike" (Zt ZO) (Zr ZO) (Zg ZO) .none kV36 dc36 pm36 an36 cd36 ct36),sl36⟩) (c36:PySem.W.codeIn K cd36 "_law_is_alike"=true) (k36:PySem.W.keepIn K (.ref f36)=true)
  (a37:PySem.W.nsIn K mainGlobals "law"=some (some (.ref f37))) (l37:K.lookup f37=some ⟨oc37,od37,.func (PySem.W.fnOf "law" "law" (Zt Zez) (Zr Zez) (Zg Zez) .none kV37 dc37 pm37 an37 cd37 ct37),sl37⟩) (c37:PySem.W.codeIn K cd37 "law"=true) (k37:PySem.W.keepIn K (.ref f37)=true)
  (z_isinstance:PySem.W.nsIn K mainGlobals "isinstance"=some none)
  (z_int:PySem.W.nsIn K mainGlobals "int"=some none)
  (z_bool:PySem.W.nsIn K mainGlobals "bool"=some none)
  (z_tuple:PySem.W.nsIn K mainGlobals "tuple"=some none)
  (z_len:PySem.W.nsIn K mainGlobals "len"=some none)
  (z_abs:PySem.W.nsIn K mainGlobals "abs"=some none)
  (z_enumerate:PySem.W.nsIn K mainGlobals "enumerate"=some none)
  (z_range:PySem.W.nsIn K mainGlobals "range"=some none)
  (z_zip:PySem.W.nsIn K mainGlobals "zip"=some none)
  (z_max:PySem.W.nsIn K mainGlobals "max"=some none)
  (z_reversed:PySem.W.nsIn K mainGlobals "reversed"=some none)
  (z_list:PySem.W.nsIn K mainGlobals "list"=some none)
  (z_sorted:PySem.W.nsIn K mainGlobals "sorted"=some none)
  (z_min:PySem.W.nsIn K mainGlobals "min"=some none)
  (q_ex_NoTurning:Zj8 K "NoTurning"=true)
  (q_ex_NotSmooth:Zj8 K "NotSmooth"=true)
  (q_ex_NoWedge:Zj8 K "NoWedge"=true)
  : ∃ fd:FuncData,(∀ (s:Shared) (v:Value),BindsTo s fd ⟨[v],[]⟩ [("_law_script",v)])/\ ∀ base:Heap,K.In base->base.Ns mainGlobals mg->FnOk l.prog w K mg base (CXE l.prog w) 108 fa fd ["_law_script"] (spD K Zgc):=by
 have e:=hfa.symm.trans (PySem.W.mg_of X G a37)
 cases e
 have T:Txt K mg:=⟨fun c v e=>PySem.W.mg_of X G e,PySem.W.mg_none_of X G z_isinstance,PySem.W.mg_none_of X G z_int,PySem.W.mg_none_of X G z_bool,PySem.W.mg_none_of X G z_tuple,PySem.W.mg_none_of X G z_len,PySem.W.mg_none_of X G z_abs,PySem.W.mg_none_of X G z_enumerate,PySem.W.mg_none_of X G z_range,PySem.W.mg_none_of X G z_zip,PySem.W.mg_none_of X G z_max,PySem.W.mg_none_of X G z_reversed,PySem.W.mg_none_of X G z_list,PySem.W.mg_none_of X G z_sorted,PySem.W.mg_none_of X G z_min,q_ex_NoTurning,q_ex_NotSmooth,q_ex_NoWedge⟩
 have R1:=ZG (st:=ZaN) l1 c1 k1
 have R2:=ZG (st:=Zbe) l2 c2 k2
 have R3:=ZG (st:=Zbf) l3 c3 k3
 have R4:=ZG (st:=Zbg) l4 c4 k4
 have R5:=ZG (st:=Zai) l5 c5 k5
 have R6:=ZG (st:=ZbN) l6 c6 k6
 have R7:=ZG (st:=ZdW) l7 c7 k7
 have R8:=ZG (st:=ZbO) l8 c8 k8
 have R9:=ZG (st:=ZdX) l9 c9 k9
 have R10:=ZG (st:=Zbh) l10 c10 k10
 have R11:=ZG (st:=Zat) l11 c11 k11
 have R12:=ZG (st:=Zau) l12 c12 k12
 have R13:=ZG (st:=Zaj) l13 c13 k13
 have R14:=ZG (st:=Zbi) l14 c14 k14
 have R15:=ZG (st:=ZY) l15 c15 k15
 have R16:=ZG (st:=ZaO) l16 c16 k16
 have R17:=ZG (st:=Zhi) l17 c17 k17
 have R18:=ZG (st:=Zbj) l18 c18 k18
 have R19:=ZG (st:=Z6) l19 c19 k19
 have R20:=ZG (st:=Za0) l20 c20 k20
 have R21:=ZG (st:=Z2) l21 c21 k21
 have R22:=ZG (st:=ZT) l22 c22 k22
 have R23:=ZG (st:=ZaQ) l23 c23 k23
 have R24:=ZG (st:=Zav) l24 c24 k24
 have R25:=ZG (st:=ZaR) l25 c25 k25
 have R26:=ZG (st:=Z7) l26 c26 k26
 have R27:=ZG (st:=Zaw) l27 c27 k27
 have R28:=ZG (st:=ZZ) l28 c28 k28
 have R29:=ZG (st:=Zbk) l29 c29 k29
 have R30:=ZG (st:=ZW) l30 c30 k30
 have R31:=ZG (st:=Zal) l31 c31 k31
 have R32:=ZG (st:=Zaf) l32 c32 k32
 have R33:=ZG (st:=Zax) l33 c33 k33
 have R34:=ZG (st:=Zbm) l34 c34 k34
 have R35:=ZG (st:=Zam) l35 c35 k35
 have R36:=ZG (st:=ZO) l36 c36 k36
 have R37:=ZG (st:=Zez) l37 c37 k37
 refine ⟨PySem.W.fnOf "law" "law" (Zt Zez) (Zr Zez) (Zg Zez) .none kV37 dc37 pm37 an37 cd37 ct37,fun s v=> .of_eq rfl,fun base _ _=> ?_⟩
 have C1:Cal l.prog w K mg base "is_whole" 1 1 F_is_whole:=⟨f1,_,["thing"],Zf6 R1 T,PySem.W.mg_of X G a1,k1,rfl,R1.binds (ps:=["thing"]) fun _ _ _ _ _ _=>Zhp fun _=>rfl⟩
 have C2:Cal l.prog w K mg base "is_pair" 2 1 F_is_pair:=⟨f2,_,["thing"],Zha R2 T C1,PySem.W.mg_of X G a2,k2,rfl,R2.binds (ps:=["thing"]) fun _ _ _ _ _ _=>Zhp fun _=>rfl⟩
 have C3:Cal l.prog w K mg base "crossed" 1 2 F_crossed:=⟨f3,_,["one","other"],Zhc R3 T,PySem.W.mg_of X G a3,k3,rfl,R3.binds (ps:=["one","other"]) fun _ _ _ _ _ _=>ZdY fun _ _=>rfl⟩
 have C4:Cal l.prog w K mg base "spanned" 2 2 F_spanned:=⟨f4,_,["one","other"],Zhe R4 T C3,PySem.W.mg_of X G a4,k4,rfl,R4.binds (ps:=["one","other"]) fun _ _ _ _ _ _=>ZdY fun _ _=>rfl⟩
 have C5:Cal l.prog w K mg base "is_turning" 3 1 F_is_turning:=⟨f5,_,["thing"],Zev R5 T C2 C4,PySem.W.mg_of X G a5,k5,rfl,R5.binds (ps:=["thing"]) fun _ _ _ _ _ _=>Zhp fun _=>rfl⟩
 have C6:Cal l.prog w K mg base "turned" 101 2 F_turned:=⟨f6,_,["turning","pair"],Zjn R6 T,PySem.W.mg_of X G a6,k6,rfl,R6.binds (ps:=["turning","pair"]) fun _ _ _ _ _ _=>ZdY fun _ _=>rfl⟩
 have C7:Cal l.prog w K mg base "back" 101 1 F_back:=⟨f7,_,["turning"],Zno R7 T C3,PySem.W.mg_of X G a7,k7,rfl,R7.binds (ps:=["turning"]) fun _ _ _ _ _ _=>Zhp fun _=>rfl⟩
 have C8:Cal l.prog w K mg base "beside" 1 2 F_beside:=⟨f8,_,["first","second"],Zjp R8 T,PySem.W.mg_of X G a8,k8,rfl,R8.binds (ps:=["first","second"]) fun _ _ _ _ _ _=>ZdY fun _ _=>rfl⟩
 have C9:Cal l.prog w K mg base "then" 102 2 F_then:=⟨f9,_,["one","other"],Znp R9 T C6 C8,PySem.W.mg_of X G a9,k9,rfl,R9.binds (ps:=["one","other"]) fun _ _ _ _ _ _=>ZdY fun _ _=>rfl⟩
 have C10:Cal l.prog w K mg base "leading" 103 4 F_leading:=⟨f10,_,["one","other","one_to","other_to"],Zhg R10 T C4 C8 C7 C9,PySem.W.mg_of X G a10,k10,rfl,R10.binds (ps:=["one","other","one_to","other_to"]) fun _ _ _ _ _ _=>ZvC fun _ _ _ _=>rfl⟩
 have C11:Cal l.prog w K mg base "following" 1 2 F_following:=⟨f11,_,["things","at"],Zfm R11 T,PySem.W.mg_of X G a11,k11,rfl,R11.binds (ps:=["things","at"]) fun _ _ _ _ _ _=>ZdY fun _ _=>rfl⟩
 have C12:Cal l.prog w K mg base "unspanned" 101 1 F_unspanned:=⟨f12,_,["rays"],Zfn R12 T C11 C3,PySem.W.mg_of X G a12,k12,rfl,R12.binds (ps:=["rays"]) fun _ _ _ _ _ _=>Zhp fun _=>rfl⟩
 have C13:Cal l.prog w K mg base "ask_smooth" 102 1 F_ask_smooth:=⟨f13,_,["rays"],Zew R13 T C12,PySem.W.mg_of X G a13,k13,rfl,R13.binds (ps:=["rays"]) fun _ _ _ _ _ _=>Zhp fun _=>rfl⟩
 have C14:Cal l.prog w K mg base "partner" 101 1 F_partner:=⟨f14,_,["ray"],Zhh R14 T,PySem.W.mg_of X G a14,k14,rfl,R14.binds (ps:=["ray"]) fun _ _ _ _ _ _=>Zhp fun _=>rfl⟩
 have C15:Cal l.prog w K mg base "first_behind" 102 2 F_first_behind:=⟨f15,_,["u","v"],ZdC R15 T C14 C3,PySem.W.mg_of X G a15,k15,rfl,R15.binds (ps:=["u","v"]) fun _ _ _ _ _ _=>ZdY fun _ _=>rfl⟩
 have C16:Cal l.prog w K mg base "expanded" 101 2 F_expanded:=⟨f16,_,["top","bottom"],Zf8 R16 T,PySem.W.mg_of X G a16,k16,rfl,R16.binds (ps:=["top","bottom"]) fun _ _ _ _ _ _=>ZdY fun _ _=>rfl⟩
 have C17:Cal l.prog w K mg base "row" 103 2 F_row:=⟨f17,_,["u","v"],ZqK R17 T C3 C15 C16,PySem.W.mg_of X G a17,k17,rfl,R17.binds (ps:=["u","v"]) fun _ _ _ _ _ _=>ZdY fun _ _=>rfl⟩
 have C18:Cal l.prog w K mg base "between" 104 2 F_between:=⟨f18,_,["u","v"],Zhj R18 T C17 C15,PySem.W.mg_of X G a18,k18,rfl,R18.binds (ps:=["u","v"]) fun _ _ _ _ _ _=>ZdY fun _ _=>rfl⟩
 have C19:Cal l.prog w K mg base "least_round" 105 1 F_least_round:=⟨f19,_,["rays"],ZdL R19 T C11 C18,PySem.W.mg_of X G a19,k19,rfl,R19.binds (ps:=["rays"]) fun _ _ _ _ _ _=>Zhp fun _=>rfl⟩
 have C20:Cal l.prog w K mg base "numbers" 103 1 F_numbers:=⟨f20,_,["rays"],Zhl R20 T C13 C11 C3,PySem.W.mg_of X G a20,k20,rfl,R20.binds (ps:=["rays"]) fun _ _ _ _ _ _=>Zhp fun _=>rfl⟩
 have C21:Cal l.prog w K mg base "marked_row" 104 2 F_marked_row:=⟨f21,_,["rays","least"],Zex R21 T C20,PySem.W.mg_of X G a21,k21,rfl,R21.binds (ps:=["rays","least"]) fun _ _ _ _ _ _=>ZdY fun _ _=>rfl⟩
 have C22:Cal l.prog w K mg base "first_reading" 106 1 F_first_reading:=⟨f22,_,["rays"],ZcJ R22 T C19 C21 C11,PySem.W.mg_of X G a22,k22,rfl,R22.binds (ps:=["rays"]) fun _ _ _ _ _ _=>Zhp fun _=>rfl⟩
 have C23:Cal l.prog w K mg base "likeness" 107 2 F_likeness:=⟨f23,_,["one","other"],Zf9 R23 T C22 C10,PySem.W.mg_of X G a23,k23,rfl,R23.binds (ps:=["one","other"]) fun _ _ _ _ _ _=>ZdY fun _ _=>rfl⟩
 have C24:Cal l.prog w K mg base "_law_purse" 1 2 F_law_purse:=⟨f24,_,["_law_script","_law_k"],Zfo R24 T,PySem.W.mg_of X G a24,k24,rfl,R24.binds (ps:=["_law_script","_law_k"]) fun _ _ _ _ _ _=>ZdY fun _ _=>rfl⟩
 have C25:Cal l.prog w K mg base "_law_take" 1 2 F_law_take:=⟨f25,_,["_law_purse_here","_law_many"],Zga R25 T,PySem.W.mg_of X G a25,k25,rfl,R25.binds (ps:=["_law_purse_here","_law_many"]) fun _ _ _ _ _ _=>ZdY fun _ _=>rfl⟩
 have C26:Cal l.prog w K mg base "_law_crossed" 1 2 F_law_crossed:=⟨f26,_,["_law_one","_law_other"],ZdN R26 T,PySem.W.mg_of X G a26,k26,rfl,R26.binds (ps:=["_law_one","_law_other"]) fun _ _ _ _ _ _=>ZdY fun _ _=>rfl⟩
 have C27:Cal l.prog w K mg base "_law_short" 101 1 F_law_short:=⟨f27,_,["_law_pair"],Zfp R27 T,PySem.W.mg_of X G a27,k27,rfl,R27.binds (ps:=["_law_pair"]) fun _ _ _ _ _ _=>Zhp fun _=>rfl⟩
 have C28:Cal l.prog w K mg base "_law_greatest" 101 1 F_law_greatest:=⟨f28,_,["_law_rays"],ZdF R28 T,PySem.W.mg_of X G a28,k28,rfl,R28.binds (ps:=["_law_rays"]) fun _ _ _ _ _ _=>Zhp fun _=>rfl⟩
 have C29:Cal l.prog w K mg base "_law_put" 101 2 F_law_put:=⟨f29,_,["_law_rays","_law_at"],Zhm R29 T,PySem.W.mg_of X G a29,k29,rfl,R29.binds (ps:=["_law_rays","_law_at"]) fun _ _ _ _ _ _=>ZdY fun _ _=>rfl⟩
 have C30:Cal l.prog w K mg base "_law_sheared" 102 3 F_law_sheared:=⟨f30,_,["_law_rays","_law_many","_law_way"],ZdO R30 T C28,PySem.W.mg_of X G a30,k30,rfl,R30.binds (ps:=["_law_rays","_law_many","_law_way"]) fun _ _ _ _ _ _=>Zuj fun _ _ _=>rfl⟩
 have C31:Cal l.prog w K mg base "_law_smooth" 103 2 F_law_smooth:=⟨f31,_,["_law_purse_here","_law_most"],Zey R31 T C25 C29 C30,PySem.W.mg_of X G a31,k31,rfl,R31.binds (ps:=["_law_purse_here","_law_most"]) fun _ _ _ _ _ _=>ZdY fun _ _=>rfl⟩
 have C32:Cal l.prog w K mg base "_law_round" 104 2 F_law_round:=⟨f32,_,["_law_purse_here","_law_most"],Zfq R32 T C31 C25 C27 C28 C26,PySem.W.mg_of X G a32,k32,rfl,R32.binds (ps:=["_law_purse_here","_law_most"]) fun _ _ _ _ _ _=>ZdY fun _ _=>rfl⟩
 have C33:Cal l.prog w K mg base "_law_table" 2 1 F_law_table:=⟨f33,_,["_law_purse_here"],Zfr R33 T C25,PySem.W.mg_of X G a33,k33,rfl,R33.binds (ps:=["_law_purse_here"]) fun _ _ _ _ _ _=>Zhp fun _=>rfl⟩
 have C34:Cal l.prog w K mg base "_law_led" 1 2 F_law_led:=⟨f34,_,["_law_table_here","_law_pair"],Zho R34 T,PySem.W.mg_of X G a34,k34,rfl,R34.binds (ps:=["_law_table_here","_law_pair"]) fun _ _ _ _ _ _=>ZdY fun _ _=>rfl⟩
 have C35:Cal l.prog w K mg base "_law_copy" 102 2 F_law_copy:=⟨f35,_,["_law_purse_here","_law_rays"],Zgb R35 T C33 C34 C28 C25,PySem.W.mg_of X G a35,k35,rfl,R35.binds (ps:=["_law_purse_here","_law_rays"]) fun _ _ _ _ _ _=>ZdY fun _ _=>rfl⟩
 have C36:Cal l.prog w K mg base "_law_is_alike" 101 3 F_law_is_alike:=⟨f36,_,["_law_one","_law_other","_law_found"],ZdG R36 T,PySem.W.mg_of X G a36,k36,rfl,R36.binds (ps:=["_law_one","_law_other","_law_found"]) fun _ _ _ _ _ _=>Zuj fun _ _ _=>rfl⟩
 exact ZqM R37 T C24 C32 C19 C35 C23 C36 C5
end K34
end
section
namespace K34
open PySem PySem.Spec L2 DL
open CB (Bd lrd)
open CV CX
open CD (gg sg)
open CC (F_crossed ZS)
open CP
section
variable {Q:D->Sto->Prop} {E:Str->Sto->Prop} {M:Sto} {n m p:Nat} {rs cs ls L:List Pt} {N B C:Ro->Sto->Prop} {R:D->Sto->Prop}
theorem Zfs {a b c d:Int} (hd:a * d - b * c=1\/a * d - b * c= -1) (h1:Bx a) (h2:Bx b) (h3:Bx c) (h4:Bx d) (q:Q (.bl true) M):wO (F_is_turning [.tup [pr a b,pr c d]] M) Q E:=by
 unfold Bx at h1 h2 h3 h4
 have e1:(a * d - b * c).natAbs=1:=by omega
 have e2:((a * d - b * c).natAbs:Int)=1:=by omega
 simp![F_is_turning,ZcG,F_is_pair,Zfk,F_is_whole,ZdV,F_spanned,Zck,F_crossed,ZS,e1,e2]
 exact q
theorem ZqO {a b a' b':Nat} (h1:eqF 11 M (.ref a) (.ref a')=some true) (h2:eqF 11 M (.ref b) (.ref b')=some true):eqF 12 M (.tup [.ref a,.ref b]) (.tup [.ref a',.ref b'])=some true:=by
 show eqL (eqF 11 M) [.ref a,.ref b] [.ref a',.ref b']=_
 simp only[eqL,h1,h2]
 rfl
theorem Zjq {a0 a1 a2 a3 a4 x7 x8:Option D} (h:M[n]?=some (.lst (prs rs))) (h':M[m]?=some (.lst (prs cs))) (hr:Rd0 rs) (hc:Rd0 cs) (S:Zjt rs cs) (hN: ∀ x7 x8 M',Kp M M'->N [a0,a1,a2,a3,a4,some (.ref n),some (.ref m),x7,x8] M'):
  wS (ZeA [a0,a1,a2,a3,a4,some (.ref n),some (.ref m),x7,x8] M) N R B C E:=by
 have ll:=hr.le
 have lc:=hc.le
 have hn:=ZB h
 have hm:=ZB h'
 simp![ZeA,h,h']
 generalize hM1:M ++ [SO.lst (prs rs),SO.lst (prs cs)]=M1
 have K1:Kp M M1:=by rw[<- hM1];exact Kp.app
 have r1:M1[M.length]?=some (.lst (prs rs)):=by rw[<- hM1,Zer];rfl
 have r2:M1[M.length + 1]?=some (.lst (prs cs)):=by rw[<- hM1,Zkm];rfl
 clear hM1
 generalize M.length + 1=o2 at *
 generalize M.length=o1 at *
 refine ZqI r1 r2 hr hc S fun a b c d M2 K2 hl=> ?_
 have h2:=(K1.trans K2).get h
 have h2':=(K1.trans K2).get h'
 simp![Zo]
 refine Znn h2 h2' hr hc hl fun M3 K3=> ?_
 simp![Zo]
 obtain ⟨-,hd,b1,b2,b3,b4⟩:=hl
 refine Zfs hd b1 b2 b3 b4 ?_
 have e1:eqF 11 M3 (.ref o1) (.ref n)=some (decide (rs=rs)):=CU.Zky (k:=8) (K3.get (K2.get r1)) (K3.get h2)
 have e2:eqF 11 M3 (.ref o2) (.ref m)=some (decide (cs=cs)):=CU.Zky (k:=8) (K3.get (K2.get r2)) (K3.get h2')
 rw[decide_eq_true rfl] at e1 e2
 have e3:=ZqO e1 e2
 simp![e3]
 exact hN _ _ _ ((K1.trans K2).trans K3)
theorem Zjr:Zjt rs rs:=fun i b i' b' h1 h2=>(Zjh (L:=mkr rs (lrd rs)) (L':=mkr rs (lrd rs)) (s:=1) (j:=0) (.inl rfl) rfl (fun k=>by rw[Int.one_mul,Int.add_zero]) (by rw[Z1];exact h1.1) (by rw[Z1];exact h2.1) (fun x y hx=>h1.2 x y (by rw[Z1] at hx;exact hx)) (fun x y hx=>h2.2 x y (by rw[Z1] at hx;exact hx))).symm
theorem Znq {ns:List Int} {i:Nat} {x2 x3 x4 x5 x6 x7 x8:Option D} (hi0:i < 1000) (hN: ∀ x2 x3 x4 x5 x6 x7 x8 M',N [some (.rol (ns.map D.int)),some (.int i),x2,x3,x4,x5,x6,x7,x8] M'):wS (ZeB [some (.rol (ns.map D.int)),some (.int i),x2,x3,x4,x5,x6,x7,x8] M) N R B C E:=by
 simp![ZeB]
 refine CB.ZmX hi0 fun a b ha=> ?_
 have B0:Bag M.length (M ++ [.lst [.int a,.int b]]):=⟨a,b,ha,by simp⟩
 generalize M ++ [SO.lst [.int a,.int b]]=M0 at *
 generalize M.length=n at *
 simp![Zo]
 refine CQ.Zm9 (by decide) B0 fun ss m M1 s1 s2 s3 s4 s5 G=> ?_
 have hm:=ZB s5
 simp![s5]
 have r2:(M1 ++ [SO.lst (prs ss)])[M1.length]?=some (.lst (prs ss)):=by simp
 have v2:(M1 ++ [SO.lst (prs ss)])[m]?=some (.lst (prs ss)):=by rw[ZaK hm];exact s5
 have B2:Bag n (M1 ++ [SO.lst (prs ss)]):=G.bag.app _
 generalize M1 ++ [SO.lst (prs ss)]=M2 at *
 refine CL.Zi6 r2 s1.ne (s1.wgs s2) (by omega) (fun x hx=>s2 x hx) fun M3 K3 r3=> ?_
 have v3:=K3.get v2
 have B3:Bag n M3:=(K3.gr B2).bag
 simp![r3]
 refine ZpT (fun ρ M'=> ∃ ss o,ρ=[some (.rol (ns.map D.int)),some (.int i),some (.ref n),some (.ref o),x4,x5,x6,x7,x8]/\Rd0 ss/\M'[o]?=some (.lst (prs ss))/\Bag n M') ?_ ?_
 ·refine brS (fun z=> ?_) (fun z=> ?_)
  ·simp![Zo]
   exact ⟨[(1,0),(0,1),(-1,-1)],_,rfl,⟨CC.ZsX.rn,fun x hx=>by simp at hx;rcases hx with rfl | rfl | rfl<;>simp,by simp,Zni⟩,by rw[Zer];rfl,B3.app _⟩
  ·simp![Zo]
   exact ⟨ss,m,rfl,⟨s1,s2,s3,by omega⟩,v3,B3⟩
 clear v3 B3 K3 r3 r2 v2 B2 s1 s2 s3 s4 s5 G hm
 rintro _ M4 ⟨ss,o,rfl,hr,v6,B6⟩
 have on:o≠n:=Znh B6 v6 hr.rn.len
 have s3:=hr.le
 have sl:=hr.ll
 simp![Zo]
 refine CQ.Zqs v6 on hr.rn.ne hr.nr (by omega) B6 fun a b c d k o2 M7 det hk nr ol r7 G7=> ?_
 have rn:=Znf (k:=k) hr.rn det
 obtain ⟨el,j,ej⟩:=Zne (k:=k) hr.rn hr.nr nr det (by omega)
 have lc:(sg (decide (a * d - b * c < 0)) k (ss.map (gg a b c d))).length=ss.length:=by rw[CD.Zff,List.length_map]
 have cn:Nr 200 (sg (decide (a * d - b * c < 0)) k (ss.map (gg a b c d))):=Zng nr
 generalize sg (decide (a * d - b * c < 0)) k (ss.map (gg a b c d))=cs at *
 generalize a * d - b * c=det' at *
 have v7:=CA.Gr.up v6 G7 on
 have hc:Rd0 cs:=⟨rn,cn,by omega,by omega⟩
 have S:Zjt ss cs:=fun i b i' b' h1 h2=>(Zjh det (by rw[Z1,Z1];exact el) ej (by rw[Z1];exact h1.1) (by rw[Z1];exact h2.1) (fun x y hx=>h1.2 x y (by rw[Z1] at hx;exact hx)) (fun x y hx=>h2.2 x y (by rw[Z1] at hx;exact hx))).symm
 clear v6 B6 G7 rn cn nr el ej lc ol
 simp![Zo]
 have K8:Kp M7 (M7 ++ [SO.lst [D.tup [D.ref o,D.ref o2],D.tup [D.ref o2,D.ref o],D.tup [D.ref o,D.ref o]]]):=Kp.app
 have r8:(M7 ++ [SO.lst [D.tup [D.ref o,D.ref o2],D.tup [D.ref o2,D.ref o],D.tup [D.ref o,D.ref o]]])[M7.length]?=some (.lst [D.tup [D.ref o,D.ref o2],D.tup [D.ref o2,D.ref o],D.tup [D.ref o,D.ref o]]):=by simp
 have v8:=K8.get v7
 have w8:=K8.get r7
 generalize M7 ++ [SO.lst [D.tup [D.ref o,D.ref o2],D.tup [D.ref o2,D.ref o],D.tup [D.ref o,D.ref o]]]=M8 at *
 refine Zep (fun t ρ M'=>Kp M8 M'/\ ∃ y5 y6 y7 y8,ρ=[some (.rol (ns.map D.int)),some (.int i),some (.ref n),some (.ref o),some (.ref o2),y5,y6,y7,y8]) r8 ⟨Kp.refl,_,_,_,_,rfl⟩ (fun t ρ M' hI=>hI.1.get r8) ?_ ?_
 ·rintro t ρ M' ht ⟨K,y5,y6,y7,y8,rfl⟩
  have:t=0\/t=1\/t=2:=by simp at ht;omega
  rcases this with rfl | rfl | rfl
  ·simp only[List.getElem_cons_zero]
   simp![Zo]
   exact Zjq (K.get v8) (K.get w8) hr hc S fun x7 x8 M' K'=>⟨K.trans K',_,_,_,_,rfl⟩
  ·simp only[List.getElem_cons_succ,List.getElem_cons_zero]
   simp![Zo]
   exact Zjq (K.get w8) (K.get v8) hc hr S.symm fun x7 x8 M' K'=>⟨K.trans K',_,_,_,_,rfl⟩
  ·simp only[List.getElem_cons_succ,List.getElem_cons_zero]
   simp![Zo]
   exact Zjq (K.get v8) (K.get v8) hr hr Zjr fun x7 x8 M' K'=>⟨K.trans K',_,_,_,_,rfl⟩
 ·rintro ρ M' ⟨K,y5,y6,y7,y8,rfl⟩
  exact hN _ _ _ _ _ _ _ _
theorem law_true (ns:List Int) (h:ns.length<=63): ∃ M',Zgc [.rol (ns.map D.int)] []= .ok (.bl true) M':=by
 have w:wO (Zgc [.rol (ns.map D.int)] []) (fun d _=>d= .bl true) (fun _ _=>False):=by
  simp![Zgc,ZqL]
  refine ⟨by omega,?_⟩
  refine Ze6 (fun _ ρ _=> ∃ x1 x2 x3 x4 x5 x6 x7 x8,ρ=[some (.rol (ns.map D.int)),x1,x2,x3,x4,x5,x6,x7,x8]) ⟨_,_,_,_,_,_,_,_,rfl⟩ ?_ ?_
  ·rintro i ρ M hi ⟨x1,x2,x3,x4,x5,x6,x7,x8,rfl⟩
   rw[show (0:Int) + (i:Int)=i by omega]
   simp![Zo]
   exact Znq (by omega) fun _ _ _ _ _ _ _ _=>⟨_,_,_,_,_,_,_,_,rfl⟩
  ·rintro ρ M ⟨x1,x2,x3,x4,x5,x6,x7,x8,rfl⟩
   simp![Zo]
 obtain ⟨d,M',e,rfl⟩:=ZiN w
 exact ⟨M',e⟩
end
end K34
end
namespace K34
open PySem PySem.Spec L2 DL
noncomputable abbrev zz1 (P:Params) (s:String) (n:Nat) (v:Value):DictEntry:={ hash:=PyData.keyHash P (Str.ofString s),key:=Value.str (Str.ofString s) n,val:=v }
noncomputable abbrev zz2 (x:Array Value):Obj:={ cls:=Value.type "code",data:=Data.fields x }
noncomputable abbrev zz3 (s:String) (n:Nat):Value:=Value.str (Str.ofString s) n
noncomputable abbrev zz4 (n:Int):Value:=Value.int n 0
noncomputable def fO (n:Str) (st:Stmt) (cd:Nat) (m:Str) (t:Nat):Obj:=⟨.type "function",none,.func (PySem.W.fnOf n n (Zt st) (Zr st) (Zg st) .none .none .none (.str m t) none (.ref cd) .none),#[]⟩
noncomputable def Zbw (p:Program) (i:Nat):Stmt:=p.main.body.getD i (.Pass ⟨0,0,0,0⟩)
noncomputable def Kf (p:Program) (P:Params):PySem.W.Frag:=[(3,{ cls:=Value.type "dict",data:=Data.dict #[zz1 P "__name__" 165 (zz3 "law_rayround_k34_alike_by_turnings" 491),zz1 P "__doc__" 166 (Value.none),zz1 P "__package__" 167 (Value.none),zz1 P "__loader__" 168 (Value.builtin "__main__.__loader__#opaque"),zz1 P "__spec__" 169 (Value.none),zz1 P "__annotations__" 170 (Value.ref 6),zz1 P "__builtins__" 171 (Value.ref 4),zz1 P "__file__" 173 (zz3 "/claim/cut.py" 172),zz1 P "__cached__" 174 (Value.none),zz1 P "RayError" 206 (Value.ref 24),zz1 P "NoTurning" 222 (Value.ref 37),zz1 P "NotSmooth" 238 (Value.ref 49),zz1 P "NoWedge" 254 (Value.ref 61),zz1 P "is_whole" 263 (Value.ref 70),zz1 P "is_pair" 272 (Value.ref 77),zz1 P "crossed" 280 (Value.ref 84),zz1 P "spanned" 288 (Value.ref 91),zz1 P "is_turning" 295 (Value.ref 98),zz1 P "turned" 309 (Value.ref 105),zz1 P "back" 321 (Value.ref 112),zz1 P "beside" 329 (Value.ref 119),zz1 P "then" 339 (Value.ref 126),zz1 P "leading" 349 (Value.ref 133),zz1 P "following" 359 (Value.ref 140),zz1 P "unspanned" 368 (Value.ref 147),zz1 P "ask_smooth" 376 (Value.ref 154),zz1 P "partner" 390 (Value.ref 161),zz1 P "first_behind" 400 (Value.ref 168),zz1 P "expanded" 410 (Value.ref 175),zz1 P "row" 418 (Value.ref 182),zz1 P "between" 431 (Value.ref 189),zz1 P "least_round" 443 (Value.ref 196),zz1 P "numbers" 451 (Value.ref 201),zz1 P "marked_row" 459 (Value.ref 206),zz1 P "first_reading" 476 (Value.ref 213),zz1 P "likeness" 490 (Value.ref 220),zz1 P "_law_purse" 502 (Value.ref 227),zz1 P "_law_take" 511 (Value.ref 234),zz1 P "_law_crossed" 519 (Value.ref 241),zz1 P "_law_short" 528 (Value.ref 248),zz1 P "_law_greatest" 534 (Value.ref 253),zz1 P "_law_put" 546 (Value.ref 260),zz1 P "_law_sheared" 552 (Value.ref 265),zz1 P "_law_smooth" 558 (Value.ref 270),zz1 P "_law_round" 564 (Value.ref 275),zz1 P "_law_table" 574 (Value.ref 282),zz1 P "_law_led" 582 (Value.ref 289),zz1 P "_law_copy" 588 (Value.ref 294),zz1 P "_law_is_alike" 594 (Value.ref 299),zz1 P "law" 609 (Value.ref 306)] 50 }),
 (70,fO "is_whole" (Zbw p 6) 69 "rayround.wholes" 255),
 (69,zz2 #[zz3 "is_whole" 257,zz3 "is_whole" 258,zz3 "/claim/cut.py" 259,zz4 11,zz4 1,zz4 0,zz4 0,zz4 3,Value.ref 64,Value.bool true,zz4 181,Value.ref 65,Value.none,Value.ref 66,Value.ref 67,Value.ref 68,zz4 261,zz4 11,zz3 "/claim/cut.py" 262]),
 (77,fO "is_pair" (Zbw p 8) 76 "rayround.pairs" 264),
 (76,zz2 #[zz3 "is_pair" 266,zz3 "is_pair" 267,zz3 "/claim/cut.py" 268,zz4 14,zz4 1,zz4 0,zz4 0,zz4 3,Value.ref 71,Value.bool true,zz4 181,Value.ref 72,Value.none,Value.ref 73,Value.ref 74,Value.ref 75,zz4 270,zz4 14,zz3 "/claim/cut.py" 271]),
 (84,fO "crossed" (Zbw p 9) 83 "rayround.pairs" 264),
 (83,zz2 #[zz3 "crossed" 273,zz3 "crossed" 274,zz3 "/claim/cut.py" 275,zz4 16,zz4 2,zz4 0,zz4 0,zz4 3,Value.ref 78,Value.bool true,zz4 181,Value.ref 79,Value.none,Value.ref 80,Value.ref 81,Value.ref 82,zz4 278,zz4 16,zz3 "/claim/cut.py" 279]),
 (91,fO "spanned" (Zbw p 10) 90 "rayround.pairs" 264),
 (90,zz2 #[zz3 "spanned" 281,zz3 "spanned" 282,zz3 "/claim/cut.py" 283,zz4 18,zz4 2,zz4 0,zz4 0,zz4 3,Value.ref 85,Value.bool true,zz4 181,Value.ref 86,Value.none,Value.ref 87,Value.ref 88,Value.ref 89,zz4 286,zz4 18,zz3 "/claim/cut.py" 287]),
 (98,fO "is_turning" (Zbw p 11) 97 "rayround.pairs" 264),
 (97,zz2 #[zz3 "is_turning" 289,zz3 "is_turning" 290,zz3 "/claim/cut.py" 291,zz4 20,zz4 1,zz4 0,zz4 0,zz4 3,Value.ref 92,Value.bool true,zz4 181,Value.ref 93,Value.none,Value.ref 94,Value.ref 95,Value.ref 96,zz4 293,zz4 20,zz3 "/claim/cut.py" 294]),
 (105,fO "turned" (Zbw p 12) 104 "rayround.pairs" 264),
 (104,zz2 #[zz3 "turned" 296,zz3 "turned" 297,zz3 "/claim/cut.py" 298,zz4 24,zz4 2,zz4 0,zz4 0,zz4 3,Value.ref 99,Value.bool true,zz4 181,Value.ref 100,Value.none,Value.ref 101,Value.ref 102,Value.ref 103,zz4 307,zz4 24,zz3 "/claim/cut.py" 308]),
 (112,fO "back" (Zbw p 13) 111 "rayround.pairs" 264),
 (111,zz2 #[zz3 "back" 310,zz3 "back" 311,zz3 "/claim/cut.py" 312,zz4 28,zz4 1,zz4 0,zz4 0,zz4 3,Value.ref 106,Value.bool true,zz4 181,Value.ref 107,Value.none,Value.ref 108,Value.ref 109,Value.ref 110,zz4 319,zz4 28,zz3 "/claim/cut.py" 320]),
 (119,fO "beside" (Zbw p 14) 118 "rayround.pairs" 264),
 (118,zz2 #[zz3 "beside" 322,zz3 "beside" 323,zz3 "/claim/cut.py" 324,zz4 32,zz4 2,zz4 0,zz4 0,zz4 3,Value.ref 113,Value.bool true,zz4 181,Value.ref 114,Value.none,Value.ref 115,Value.ref 116,Value.ref 117,zz4 327,zz4 32,zz3 "/claim/cut.py" 328]),
 (126,fO "then" (Zbw p 15) 125 "rayround.pairs" 264),
 (125,zz2 #[zz3 "then" 330,zz3 "then" 331,zz3 "/claim/cut.py" 332,zz4 34,zz4 2,zz4 0,zz4 0,zz4 3,Value.ref 120,Value.bool true,zz4 181,Value.ref 121,Value.none,Value.ref 122,Value.ref 123,Value.ref 124,zz4 337,zz4 34,zz3 "/claim/cut.py" 338]),
 (133,fO "leading" (Zbw p 16) 132 "rayround.pairs" 264),
 (132,zz2 #[zz3 "leading" 340,zz3 "leading" 341,zz3 "/claim/cut.py" 342,zz4 38,zz4 4,zz4 0,zz4 0,zz4 3,Value.ref 127,Value.bool true,zz4 181,Value.ref 128,Value.none,Value.ref 129,Value.ref 130,Value.ref 131,zz4 347,zz4 38,zz3 "/claim/cut.py" 348]),
 (140,fO "following" (Zbw p 18) 139 "rayround.rounds" 350),
 (139,zz2 #[zz3 "following" 352,zz3 "following" 353,zz3 "/claim/cut.py" 354,zz4 43,zz4 2,zz4 0,zz4 0,zz4 3,Value.ref 134,Value.bool true,zz4 181,Value.ref 135,Value.none,Value.ref 136,Value.ref 137,Value.ref 138,zz4 357,zz4 43,zz3 "/claim/cut.py" 358]),
 (147,fO "unspanned" (Zbw p 19) 146 "rayround.rounds" 350),
 (146,zz2 #[zz3 "unspanned" 360,zz3 "unspanned" 361,zz3 "/claim/cut.py" 362,zz4 45,zz4 1,zz4 0,zz4 0,zz4 3,Value.ref 141,Value.bool true,zz4 181,Value.ref 142,Value.none,Value.ref 143,Value.ref 144,Value.ref 145,zz4 366,zz4 45,zz3 "/claim/cut.py" 367]),
 (154,fO "ask_smooth" (Zbw p 20) 153 "rayround.rounds" 350),
 (153,zz2 #[zz3 "ask_smooth" 369,zz3 "ask_smooth" 370,zz3 "/claim/cut.py" 371,zz4 50,zz4 1,zz4 0,zz4 0,zz4 3,Value.ref 148,Value.bool true,zz4 181,Value.ref 149,Value.none,Value.ref 150,Value.ref 151,Value.ref 152,zz4 374,zz4 50,zz3 "/claim/cut.py" 375]),
 (161,fO "partner" (Zbw p 22) 160 "rayround.wedges" 377),
 (160,zz2 #[zz3 "partner" 379,zz3 "partner" 380,zz3 "/claim/cut.py" 381,zz4 55,zz4 1,zz4 0,zz4 0,zz4 3,Value.ref 155,Value.bool true,zz4 181,Value.ref 156,Value.none,Value.ref 157,Value.ref 158,Value.ref 159,zz4 388,zz4 55,zz3 "/claim/cut.py" 389]),
 (168,fO "first_behind" (Zbw p 23) 167 "rayround.wedges" 377),
 (167,zz2 #[zz3 "first_behind" 391,zz3 "first_behind" 392,zz3 "/claim/cut.py" 393,zz4 63,zz4 2,zz4 0,zz4 0,zz4 3,Value.ref 162,Value.bool true,zz4 181,Value.ref 163,Value.none,Value.ref 164,Value.ref 165,Value.ref 166,zz4 398,zz4 63,zz3 "/claim/cut.py" 399]),
 (175,fO "expanded" (Zbw p 24) 174 "rayround.wedges" 377),
 (174,zz2 #[zz3 "expanded" 401,zz3 "expanded" 402,zz3 "/claim/cut.py" 403,zz4 67,zz4 2,zz4 0,zz4 0,zz4 3,Value.ref 169,Value.bool true,zz4 181,Value.ref 170,Value.none,Value.ref 171,Value.ref 172,Value.ref 173,zz4 408,zz4 67,zz3 "/claim/cut.py" 409]),
 (182,fO "row" (Zbw p 25) 181 "rayround.wedges" 377),
 (181,zz2 #[zz3 "row" 411,zz3 "row" 412,zz3 "/claim/cut.py" 413,zz4 74,zz4 2,zz4 0,zz4 0,zz4 3,Value.ref 176,Value.bool true,zz4 181,Value.ref 177,Value.none,Value.ref 178,Value.ref 179,Value.ref 180,zz4 416,zz4 74,zz3 "/claim/cut.py" 417]),
 (189,fO "between" (Zbw p 26) 188 "rayround.wedges" 377),
 (188,zz2 #[zz3 "between" 419,zz3 "between" 420,zz3 "/claim/cut.py" 421,zz4 78,zz4 2,zz4 0,zz4 0,zz4 3,Value.ref 183,Value.bool true,zz4 181,Value.ref 184,Value.none,Value.ref 185,Value.ref 186,Value.ref 187,zz4 429,zz4 78,zz3 "/claim/cut.py" 430]),
 (196,fO "least_round" (Zbw p 28) 195 "rayround.leastrounds" 432),
 (195,zz2 #[zz3 "least_round" 434,zz3 "least_round" 435,zz3 "/claim/cut.py" 436,zz4 87,zz4 1,zz4 0,zz4 0,zz4 3,Value.ref 190,Value.bool true,zz4 181,Value.ref 191,Value.none,Value.ref 192,Value.ref 193,Value.ref 194,zz4 441,zz4 87,zz3 "/claim/cut.py" 442]),
 (201,fO "numbers" (Zbw p 30) 200 "rayround.numbers" 444),
 (200,zz2 #[zz3 "numbers" 446,zz3 "numbers" 447,zz3 "/claim/cut.py" 448,zz4 94,zz4 1,zz4 0,zz4 0,zz4 3,Value.ref 197,Value.bool true,zz4 181,Value.ref 198,Value.none,Value.none,Value.none,Value.ref 199,zz4 449,zz4 94,zz3 "/claim/cut.py" 450]),
 (206,fO "marked_row" (Zbw p 32) 205 "rayround.likeness" 452),
 (205,zz2 #[zz3 "marked_row" 454,zz3 "marked_row" 455,zz3 "/claim/cut.py" 456,zz4 98,zz4 2,zz4 0,zz4 0,zz4 3,Value.ref 202,Value.bool true,zz4 181,Value.ref 203,Value.none,Value.none,Value.none,Value.ref 204,zz4 457,zz4 98,zz3 "/claim/cut.py" 458]),
 (213,fO "first_reading" (Zbw p 33) 212 "rayround.likeness" 452),
 (212,zz2 #[zz3 "first_reading" 460,zz3 "first_reading" 461,zz3 "/claim/cut.py" 462,zz4 101,zz4 1,zz4 0,zz4 0,zz4 3,Value.ref 207,Value.bool true,zz4 181,Value.ref 208,Value.none,Value.ref 209,Value.ref 210,Value.ref 211,zz4 474,zz4 101,zz3 "/claim/cut.py" 475]),
 (220,fO "likeness" (Zbw p 34) 219 "rayround.likeness" 452),
 (219,zz2 #[zz3 "likeness" 477,zz3 "likeness" 478,zz3 "/claim/cut.py" 479,zz4 114,zz4 2,zz4 0,zz4 0,zz4 3,Value.ref 214,Value.bool true,zz4 181,Value.ref 215,Value.none,Value.ref 216,Value.ref 217,Value.ref 218,zz4 488,zz4 114,zz3 "/claim/cut.py" 489]),
 (227,fO "_law_purse" (Zbw p 36) 226 "law_rayround_k34_alike_by_turnings" 491),
 (226,zz2 #[zz3 "_law_purse" 493,zz3 "_law_purse" 494,zz3 "/claim/cut.py" 495,zz4 121,zz4 2,zz4 0,zz4 0,zz4 3,Value.ref 221,Value.bool true,zz4 181,Value.ref 222,Value.none,Value.ref 223,Value.ref 224,Value.ref 225,zz4 500,zz4 121,zz3 "/claim/cut.py" 501]),
 (234,fO "_law_take" (Zbw p 37) 233 "law_rayround_k34_alike_by_turnings" 491),
 (233,zz2 #[zz3 "_law_take" 503,zz3 "_law_take" 504,zz3 "/claim/cut.py" 505,zz4 127,zz4 2,zz4 0,zz4 0,zz4 3,Value.ref 228,Value.bool true,zz4 181,Value.ref 229,Value.none,Value.ref 230,Value.ref 231,Value.ref 232,zz4 509,zz4 127,zz3 "/claim/cut.py" 510]),
 (241,fO "_law_crossed" (Zbw p 38) 240 "law_rayround_k34_alike_by_turnings" 491),
 (240,zz2 #[zz3 "_law_crossed" 512,zz3 "_law_crossed" 513,zz3 "/claim/cut.py" 514,zz4 134,zz4 2,zz4 0,zz4 0,zz4 3,Value.ref 235,Value.bool true,zz4 181,Value.ref 236,Value.none,Value.ref 237,Value.ref 238,Value.ref 239,zz4 517,zz4 134,zz3 "/claim/cut.py" 518]),
 (248,fO "_law_short" (Zbw p 39) 247 "law_rayround_k34_alike_by_turnings" 491),
 (247,zz2 #[zz3 "_law_short" 520,zz3 "_law_short" 521,zz3 "/claim/cut.py" 522,zz4 136,zz4 1,zz4 0,zz4 0,zz4 3,Value.ref 242,Value.bool true,zz4 181,Value.ref 243,Value.none,Value.ref 244,Value.ref 245,Value.ref 246,zz4 526,zz4 136,zz3 "/claim/cut.py" 527]),
 (253,fO "_law_greatest" (Zbw p 40) 252 "law_rayround_k34_alike_by_turnings" 491),
 (252,zz2 #[zz3 "_law_greatest" 529,zz3 "_law_greatest" 530,zz3 "/claim/cut.py" 531,zz4 143,zz4 1,zz4 0,zz4 0,zz4 3,Value.ref 249,Value.bool true,zz4 181,Value.ref 250,Value.none,Value.none,Value.none,Value.ref 251,zz4 532,zz4 143,zz3 "/claim/cut.py" 533]),
 (260,fO "_law_put" (Zbw p 41) 259 "law_rayround_k34_alike_by_turnings" 491),
 (259,zz2 #[zz3 "_law_put" 535,zz3 "_law_put" 536,zz3 "/claim/cut.py" 537,zz4 145,zz4 2,zz4 0,zz4 0,zz4 3,Value.ref 254,Value.bool true,zz4 181,Value.ref 255,Value.none,Value.ref 256,Value.ref 257,Value.ref 258,zz4 544,zz4 145,zz3 "/claim/cut.py" 545]),
 (265,fO "_law_sheared" (Zbw p 42) 264 "law_rayround_k34_alike_by_turnings" 491),
 (264,zz2 #[zz3 "_law_sheared" 547,zz3 "_law_sheared" 548,zz3 "/claim/cut.py" 549,zz4 153,zz4 3,zz4 0,zz4 0,zz4 3,Value.ref 261,Value.bool true,zz4 181,Value.ref 262,Value.none,Value.none,Value.none,Value.ref 263,zz4 550,zz4 153,zz3 "/claim/cut.py" 551]),
 (270,fO "_law_smooth" (Zbw p 43) 269 "law_rayround_k34_alike_by_turnings" 491),
 (269,zz2 #[zz3 "_law_smooth" 553,zz3 "_law_smooth" 554,zz3 "/claim/cut.py" 555,zz4 158,zz4 2,zz4 0,zz4 0,zz4 3,Value.ref 266,Value.bool true,zz4 181,Value.ref 267,Value.none,Value.none,Value.none,Value.ref 268,zz4 556,zz4 158,zz3 "/claim/cut.py" 557]),
 (275,fO "_law_round" (Zbw p 44) 274 "law_rayround_k34_alike_by_turnings" 491),
 (274,zz2 #[zz3 "_law_round" 559,zz3 "_law_round" 560,zz3 "/claim/cut.py" 561,zz4 172,zz4 2,zz4 0,zz4 0,zz4 3,Value.ref 271,Value.bool true,zz4 181,Value.ref 272,Value.none,Value.none,Value.none,Value.ref 273,zz4 562,zz4 172,zz3 "/claim/cut.py" 563]),
 (282,fO "_law_table" (Zbw p 45) 281 "law_rayround_k34_alike_by_turnings" 491),
 (281,zz2 #[zz3 "_law_table" 565,zz3 "_law_table" 566,zz3 "/claim/cut.py" 567,zz4 188,zz4 1,zz4 0,zz4 0,zz4 3,Value.ref 276,Value.bool true,zz4 181,Value.ref 277,Value.none,Value.ref 278,Value.ref 279,Value.ref 280,zz4 572,zz4 188,zz3 "/claim/cut.py" 573]),
 (289,fO "_law_led" (Zbw p 46) 288 "law_rayround_k34_alike_by_turnings" 491),
 (288,zz2 #[zz3 "_law_led" 575,zz3 "_law_led" 576,zz3 "/claim/cut.py" 577,zz4 199,zz4 2,zz4 0,zz4 0,zz4 3,Value.ref 283,Value.bool true,zz4 181,Value.ref 284,Value.none,Value.ref 285,Value.ref 286,Value.ref 287,zz4 580,zz4 199,zz3 "/claim/cut.py" 581]),
 (294,fO "_law_copy" (Zbw p 47) 293 "law_rayround_k34_alike_by_turnings" 491),
 (293,zz2 #[zz3 "_law_copy" 583,zz3 "_law_copy" 584,zz3 "/claim/cut.py" 585,zz4 201,zz4 2,zz4 0,zz4 0,zz4 3,Value.ref 290,Value.bool true,zz4 181,Value.ref 291,Value.none,Value.none,Value.none,Value.ref 292,zz4 586,zz4 201,zz3 "/claim/cut.py" 587]),
 (299,fO "_law_is_alike" (Zbw p 48) 298 "law_rayround_k34_alike_by_turnings" 491),
 (298,zz2 #[zz3 "_law_is_alike" 589,zz3 "_law_is_alike" 590,zz3 "/claim/cut.py" 591,zz4 210,zz4 3,zz4 0,zz4 0,zz4 3,Value.ref 295,Value.bool true,zz4 181,Value.ref 296,Value.none,Value.none,Value.none,Value.ref 297,zz4 592,zz4 210,zz3 "/claim/cut.py" 593]),
 (306,fO "law" (Zbw p 49) 305 "law_rayround_k34_alike_by_turnings" 491),
 (305,zz2 #[zz3 "law" 595,zz3 "law" 596,zz3 "/claim/cut.py" 597,zz4 217,zz4 1,zz4 0,zz4 0,zz4 3,Value.ref 300,Value.bool true,zz4 181,Value.ref 301,Value.none,Value.ref 302,Value.ref 303,Value.ref 304,zz4 607,zz4 217,zz3 "/claim/cut.py" 608]),
 (23,{ cls:=Value.type "dict",data:=Data.dict #[zz1 P "__module__" 196 (zz3 "rayround.errors" 187),zz1 P "__firstlineno__" 200 (Value.int 2 199),zz1 P "__static_attributes__" 201 (Value.ref 22),zz1 P "__weakref__" 203 (Value.ref 25),zz1 P "__doc__" 204 (Value.none)] 3 }),
 (24,{ cls:=Value.type "type",data:=Data.cls { name:=Str.ofString "RayError",bases:=[Value.type "ValueError"],mro:=[Value.ref 24,Value.type "ValueError",Value.type "Exception",Value.type "BaseException",Value.type "object"],ns:=23,qualname:=Str.ofString "RayError",subclasses:=[Value.ref 37,Value.ref 49,Value.ref 61] },slots:= #[some (Value.ref 15),none,some (zz3 "RayError" 189),some (zz3 "RayError" 197),some (Value.builtin "ValueError.__new__"),some (Value.bool true)] }),
 (36,{ cls:=Value.type "dict",data:=Data.dict #[zz1 P "__module__" 214 (zz3 "rayround.errors" 187),zz1 P "__firstlineno__" 218 (Value.int 4 217),zz1 P "__static_attributes__" 219 (Value.ref 35),zz1 P "__doc__" 220 (Value.none)] 2 }),
 (37,{ cls:=Value.type "type",data:=Data.cls { name:=Str.ofString "NoTurning",bases:=[Value.ref 24],mro:=[Value.ref 37,Value.ref 24,Value.type "ValueError",Value.type "Exception",Value.type "BaseException",Value.type "object"],ns:=36,qualname:=Str.ofString "NoTurning" },slots:= #[some (Value.ref 28),none,some (zz3 "NoTurning" 207),some (zz3 "NoTurning" 215),some (Value.builtin "ValueError.__new__"),some (Value.bool true)] }),
 (48,{ cls:=Value.type "dict",data:=Data.dict #[zz1 P "__module__" 230 (zz3 "rayround.errors" 187),zz1 P "__firstlineno__" 234 (Value.int 6 233),zz1 P "__static_attributes__" 235 (Value.ref 47),zz1 P "__doc__" 236 (Value.none)] 2 }),
 (49,{ cls:=Value.type "type",data:=Data.cls { name:=Str.ofString "NotSmooth",bases:=[Value.ref 24],mro:=[Value.ref 49,Value.ref 24,Value.type "ValueError",Value.type "Exception",Value.type "BaseException",Value.type "object"],ns:=48,qualname:=Str.ofString "NotSmooth" },slots:= #[some (Value.ref 40),none,some (zz3 "NotSmooth" 223),some (zz3 "NotSmooth" 231),some (Value.builtin "ValueError.__new__"),some (Value.bool true)] }),
 (60,{ cls:=Value.type "dict",data:=Data.dict #[zz1 P "__module__" 246 (zz3 "rayround.errors" 187),zz1 P "__firstlineno__" 250 (Value.int 8 249),zz1 P "__static_attributes__" 251 (Value.ref 59),zz1 P "__doc__" 252 (Value.none)] 2 }),
 (61,{ cls:=Value.type "type",data:=Data.cls { name:=Str.ofString "NoWedge",bases:=[Value.ref 24],mro:=[Value.ref 61,Value.ref 24,Value.type "ValueError",Value.type "Exception",Value.type "BaseException",Value.type "object"],ns:=60,qualname:=Str.ofString "NoWedge" },slots:= #[some (Value.ref 52),none,some (zz3 "NoWedge" 239),some (zz3 "NoWedge" 247),some (Value.builtin "ValueError.__new__"),some (Value.bool true)] })]
noncomputable def asK:List Addr:=[3,70,69,77,76,84,83,91,90,98,97,105,104,112,111,119,118,126,125,133,132,140,139,147,146,154,153,161,160,168,167,175,174,182,181,189,188,196,195,201,200,206,205,213,212,220,219,227,226,234,233,241,240,248,247,253,252,260,259,265,264,270,269,275,274,282,281,289,288,294,293,299,298,306,305,23,24,36,37,48,49,60,61]
theorem ZqP (p:Program) (P:Params):asK=(Kf p P).map (·.1):=rfl
noncomputable def qf (p:Program):Program:={ p with main:={ p.main with body:=[Zbw p 49] } }
noncomputable def lo:List Str:=[("__name__":Str),("RayError":Str),("NoTurning":Str),("NotSmooth":Str),("NoWedge":Str),("is_whole":Str),("is_pair":Str),("crossed":Str),("spanned":Str),("is_turning":Str),("turned":Str),("back":Str),("beside":Str),("then":Str),("leading":Str),("following":Str),("unspanned":Str),("ask_smooth":Str),("partner":Str),("first_behind":Str),("expanded":Str),("row":Str),("between":Str),("least_round":Str),("numbers":Str),("marked_row":Str),("first_reading":Str),("likeness":Str),("_law_purse":Str),("_law_take":Str),("_law_crossed":Str),("_law_short":Str),("_law_greatest":Str),("_law_put":Str),("_law_sheared":Str),("_law_smooth":Str),("_law_round":Str),("_law_table":Str),("_law_led":Str),("_law_copy":Str),("_law_is_alike":Str)]
theorem ZvD {l:PySem.W.OpenLaw} {q:Program} {loose:List Str} {XP:(Str->Option Value)->Heap->Prop} {YP:World->Heap->Prop} {d:DefRec} {K:Params->PySem.W.Frag} (hn:l.most=some 63) (hdf:d.params.defaults=[])
  (hY: ∀ (w:World) (h:Heap),YP w h->(K w.params).In h)
  (F: ∀ (w:World) (mg:Str->Option Value) (fa:Addr) (h:Heap),(K w.params).In h->h.Ns mainGlobals mg->mg d.name=some (.ref fa)->
   ∃ fd:FuncData,(∀ (s:Shared) (u:Value),BindsTo s fd ⟨[u],[]⟩ [("_law_script",u)])/\ ∀ base:Heap,(K w.params).In base->base.Ns mainGlobals mg->FnOk l.prog w (K w.params) mg base (CXE l.prog w) 108 fa fd ["_law_script"] (spD (K w.params) Zgc)):
  PySem.W.WalkO q loose XP YP l.row.toRowW d [] (fun f vs=>PySem.call f vs):=
 L2.ZlT (n:=63) (k:=108) (x:="_law_script") (CX:=fun w=>CXE l.prog w) (sp:=fun w=>spD (K w.params) Zgc) hn (by decide) hdf ⟨fun _=>rfl,by decide,by decide⟩ hY F (fun _ _ a ns hl hO hS=>DL.Zoq hl hO hS (law_true ns hl)) fun _ _ _ _ _ ⟨_,_,_,_,_,_,_,_,_,_,_,_,_,q⟩=>q
end K34
open PySem PySem.W PyProof.Rows
lay_quick PySem.Challenge.pw_rayround_k34_alike_by_turnings
namespace K34
noncomputable abbrev Hk:Hook:=kHook (Kf PySem.Challenge.pw_rayround_k34_alike_by_turnings) asK (ZqP PySem.Challenge.pw_rayround_k34_alike_by_turnings)
noncomputable def Xs (s:Shared):Bool:=xlAt (qf PySem.Challenge.pw_rayround_k34_alike_by_turnings) [] s && recOk (RowW.records (OpenRow.toRowW (OpenLaw.row PySem.Challenge.rw_rayround_k34_alike_by_turnings))) s
set_option maxRecDepth 1000000 in
set_option maxHeartbeats 0 in
theorem ZrH (w:World) (os:OsState):(HD.ZqU through (HD.Zki (stepOk 11 (some (.ref 6))) (stepT (denote treeTable) PySem.Challenge.pw_rayround_k34_alike_by_turnings w)) 2086 (HD.T0 w os) (topStub PySem.Challenge.pw_rayround_k34_alike_by_turnings)).map (fun s=>((staticsOk (importedModules PySem.Challenge.pw_rayround_k34_alike_by_turnings.main.body) (boot_heap w.params) s.abs.heap && namesBound PySem.Challenge.pw_rayround_k34_alike_by_turnings s.abs.heap && gensDone s.abs && laidKept (boot_heap w.params) s.abs.heap),
  openSeen (qf PySem.Challenge.pw_rayround_k34_alike_by_turnings) lo (importedModules PySem.Challenge.pw_rayround_k34_alike_by_turnings.main.body) (fun s=>xlAt (qf PySem.Challenge.pw_rayround_k34_alike_by_turnings) [] s && recOk [] s) true s.abs,asK.map s.abs.heap.get?))=some (true,openGood (qf PySem.Challenge.pw_rayround_k34_alike_by_turnings) lo,(Kf PySem.Challenge.pw_rayround_k34_alike_by_turnings w.params).map fun x=>some x.2):=by
 rw[HD.ZrI,HD.Zmp,HD.ZoX,HD.ZoY,HD.Zmq,HD.ZoZ,PySem.W.Fast.te10221487043006509427]
 kernel_rfl
end K34
set_option maxRecDepth 1000000 in
set_option maxHeartbeats 0 in
theorem PySem.Challenge.cw_rayround_k34_alike_by_turnings_holds : PySem.Challenge.rw_rayround_k34_alike_by_turnings.Holds := by
 w_on;o_law
 refine holds_open (q:=K34.qf PySem.Challenge.pw_rayround_k34_alike_by_turnings) (loose:=K34.lo) (Xt:=fun s=>xlAt (K34.qf PySem.Challenge.pw_rayround_k34_alike_by_turnings) [] s && recOk [] s) (XP:=XL (K34.qf PySem.Challenge.pw_rayround_k34_alike_by_turnings) []) (Yf:=Hook.obs K34.Hk) (Ya:=Hook.val K34.Hk) (YP:=Hook.says K34.Hk) (N:=2686) ?hl (Hook.of K34.Hk) (Hook.keeps K34.Hk) (fun s e=>xl_of s (Bool.and_eq_true_iff.mp e).1) XL.keeps (by rfl) (by rfl) (by rfl) (fun s e=>recFacts_of (Bool.and_eq_true_iff.mp e).2) (by rfl) (by first | assumption | decide +kernel) (by decide +kernel) ⟨rfl,rfl,rfl,rfl,rfl,by decide +kernel⟩ ?hw ?hc
 case hl=>exact HD.ZiM rfl (by decide) (fun s=>rfl) (by decide) K34.ZrH
 case hw=>w_witness2
 case hc=>
  refine K34.ZvD (l:=PySem.Challenge.rw_rayround_k34_alike_by_turnings) rfl rfl (fun w h Y=>PySem.W.kIn_of Y) ?F
  intro w mg fa h KX G hmg
  refine K34.ZqN (f1:=70) (od1:=none) (an1:=none) (sl1:= #[]) (oc1:= .type "function") (kV1:= .none) (dc1:= .none) (pm1:= .str "rayround.wholes" 255) (cd1:= .ref 69) (ct1:= .none) (f2:=77) (od2:=none) (an2:=none) (sl2:= #[]) (oc2:= .type "function") (kV2:= .none) (dc2:= .none) (pm2:= .str "rayround.pairs" 264) (cd2:= .ref 76) (ct2:= .none) (f3:=84) (od3:=none) (an3:=none) (sl3:= #[]) (oc3:= .type "function") (kV3:= .none) (dc3:= .none) (pm3:= .str "rayround.pairs" 264) (cd3:= .ref 83) (ct3:= .none) (f4:=91) (od4:=none) (an4:=none) (sl4:= #[]) (oc4:= .type "function") (kV4:= .none) (dc4:= .none) (pm4:= .str "rayround.pairs" 264) (cd4:= .ref 90) (ct4:= .none) (f5:=98) (od5:=none) (an5:=none) (sl5:= #[]) (oc5:= .type "function") (kV5:= .none) (dc5:= .none) (pm5:= .str "rayround.pairs" 264) (cd5:= .ref 97) (ct5:= .none) (f6:=105) (od6:=none) (an6:=none) (sl6:= #[]) (oc6:= .type "function") (kV6:= .none) (dc6:= .none) (pm6:= .str "rayround.pairs" 264) (cd6:= .ref 104) (ct6:= .none) (f7:=112) (od7:=none) (an7:=none) (sl7:= #[]) (oc7:= .type "function") (kV7:= .none) (dc7:= .none) (pm7:= .str "rayround.pairs" 264) (cd7:= .ref 111) (ct7:= .none) (f8:=119) (od8:=none) (an8:=none) (sl8:= #[]) (oc8:= .type "function") (kV8:= .none) (dc8:= .none) (pm8:= .str "rayround.pairs" 264) (cd8:= .ref 118) (ct8:= .none) (f9:=126) (od9:=none) (an9:=none) (sl9:= #[]) (oc9:= .type "function") (kV9:= .none) (dc9:= .none) (pm9:= .str "rayround.pairs" 264) (cd9:= .ref 125) (ct9:= .none) (f10:=133) (od10:=none) (an10:=none) (sl10:= #[]) (oc10:= .type "function") (kV10:= .none) (dc10:= .none) (pm10:= .str "rayround.pairs" 264) (cd10:= .ref 132) (ct10:= .none) (f11:=140) (od11:=none) (an11:=none) (sl11:= #[]) (oc11:= .type "function") (kV11:= .none) (dc11:= .none) (pm11:= .str "rayround.rounds" 350) (cd11:= .ref 139) (ct11:= .none) (f12:=147) (od12:=none) (an12:=none) (sl12:= #[]) (oc12:= .type "function") (kV12:= .none) (dc12:= .none) (pm12:= .str "rayround.rounds" 350) (cd12:= .ref 146) (ct12:= .none) (f13:=154) (od13:=none) (an13:=none) (sl13:= #[]) (oc13:= .type "function") (kV13:= .none) (dc13:= .none) (pm13:= .str "rayround.rounds" 350) (cd13:= .ref 153) (ct13:= .none) (f14:=161) (od14:=none) (an14:=none) (sl14:= #[]) (oc14:= .type "function") (kV14:= .none) (dc14:= .none) (pm14:= .str "rayround.wedges" 377) (cd14:= .ref 160) (ct14:= .none) (f15:=168) (od15:=none) (an15:=none) (sl15:= #[]) (oc15:= .type "function") (kV15:= .none) (dc15:= .none) (pm15:= .str "rayround.wedges" 377) (cd15:= .ref 167) (ct15:= .none) (f16:=175) (od16:=none) (an16:=none) (sl16:= #[]) (oc16:= .type "function") (kV16:= .none) (dc16:= .none) (pm16:= .str "rayround.wedges" 377) (cd16:= .ref 174) (ct16:= .none) (f17:=182) (od17:=none) (an17:=none) (sl17:= #[]) (oc17:= .type "function") (kV17:= .none) (dc17:= .none) (pm17:= .str "rayround.wedges" 377) (cd17:= .ref 181) (ct17:= .none) (f18:=189) (od18:=none) (an18:=none) (sl18:= #[]) (oc18:= .type "function") (kV18:= .none) (dc18:= .none) (pm18:= .str "rayround.wedges" 377) (cd18:= .ref 188) (ct18:= .none) (f19:=196) (od19:=none) (an19:=none) (sl19:= #[]) (oc19:= .type "function") (kV19:= .none) (dc19:= .none) (pm19:= .str "rayround.leastrounds" 432) (cd19:= .ref 195) (ct19:= .none) (f20:=201) (od20:=none) (an20:=none) (sl20:= #[]) (oc20:= .type "function") (kV20:= .none) (dc20:= .none) (pm20:= .str "rayround.numbers" 444) (cd20:= .ref 200) (ct20:= .none) (f21:=206) (od21:=none) (an21:=none) (sl21:= #[]) (oc21:= .type "function") (kV21:= .none) (dc21:= .none) (pm21:= .str "rayround.likeness" 452) (cd21:= .ref 205) (ct21:= .none) (f22:=213) (od22:=none) (an22:=none) (sl22:= #[]) (oc22:= .type "function") (kV22:= .none) (dc22:= .none) (pm22:= .str "rayround.likeness" 452) (cd22:= .ref 212) (ct22:= .none) (f23:=220) (od23:=none) (an23:=none) (sl23:= #[]) (oc23:= .type "function") (kV23:= .none) (dc23:= .none) (pm23:= .str "rayround.likeness" 452) (cd23:= .ref 219) (ct23:= .none) (f24:=227) (od24:=none) (an24:=none) (sl24:= #[]) (oc24:= .type "function") (kV24:= .none) (dc24:= .none) (pm24:= .str "law_rayround_k34_alike_by_turnings" 491) (cd24:= .ref 226) (ct24:= .none) (f25:=234) (od25:=none) (an25:=none) (sl25:= #[]) (oc25:= .type "function") (kV25:= .none) (dc25:= .none) (pm25:= .str "law_rayround_k34_alike_by_turnings" 491) (cd25:= .ref 233) (ct25:= .none) (f26:=241) (od26:=none) (an26:=none) (sl26:= #[]) (oc26:= .type "function") (kV26:= .none) (dc26:= .none) (pm26:= .str "law_rayround_k34_alike_by_turnings" 491) (cd26:= .ref 240) (ct26:= .none) (f27:=248) (od27:=none) (an27:=none) (sl27:= #[]) (oc27:= .type "function") (kV27:= .none) (dc27:= .none) (pm27:= .str "law_rayround_k34_alike_by_turnings" 491) (cd27:= .ref 247) (ct27:= .none) (f28:=253) (od28:=none) (an28:=none) (sl28:= #[]) (oc28:= .type "function") (kV28:= .none) (dc28:= .none) (pm28:= .str "law_rayround_k34_alike_by_turnings" 491) (cd28:= .ref 252) (ct28:= .none) (f29:=260) (od29:=none) (an29:=none) (sl29:= #[]) (oc29:= .type "function") (kV29:= .none) (dc29:= .none) (pm29:= .str "law_rayround_k34_alike_by_turnings" 491) (cd29:= .ref 259) (ct29:= .none) (f30:=265) (od30:=none) (an30:=none) (sl30:= #[]) (oc30:= .type "function") (kV30:= .none) (dc30:= .none) (pm30:= .str "law_rayround_k34_alike_by_turnings" 491) (cd30:= .ref 264) (ct30:= .none) (f31:=270) (od31:=none) (an31:=none) (sl31:= #[]) (oc31:= .type "function") (kV31:= .none) (dc31:= .none) (pm31:= .str "law_rayround_k34_alike_by_turnings" 491) (cd31:= .ref 269) (ct31:= .none) (f32:=275) (od32:=none) (an32:=none) (sl32:= #[]) (oc32:= .type "function") (kV32:= .none) (dc32:= .none) (pm32:= .str "law_rayround_k34_alike_by_turnings" 491) (cd32:= .ref 274) (ct32:= .none) (f33:=282) (od33:=none) (an33:=none) (sl33:= #[]) (oc33:= .type "function") (kV33:= .none) (dc33:= .none) (pm33:= .str "law_rayround_k34_alike_by_turnings" 491) (cd33:= .ref 281) (ct33:= .none) (f34:=289) (od34:=none) (an34:=none) (sl34:= #[]) (oc34:= .type "function") (kV34:= .none) (dc34:= .none) (pm34:= .str "law_rayround_k34_alike_by_turnings" 491) (cd34:= .ref 288) (ct34:= .none) (f35:=294) (od35:=none) (an35:=none) (sl35:= #[]) (oc35:= .type "function") (kV35:= .none) (dc35:= .none) (pm35:= .str "law_rayround_k34_alike_by_turnings" 491) (cd35:= .ref 293) (ct35:= .none) (f36:=299) (od36:=none) (an36:=none) (sl36:= #[]) (oc36:= .type "function") (kV36:= .none) (dc36:= .none) (pm36:= .str "law_rayround_k34_alike_by_turnings" 491) (cd36:= .ref 298) (ct36:= .none) (f37:=306) (od37:=none) (an37:=none) (sl37:= #[]) (oc37:= .type "function") (kV37:= .none) (dc37:= .none) (pm37:= .str "law_rayround_k34_alike_by_turnings" 491) (cd37:= .ref 305) (ct37:= .none) KX G hmg ?a1 ?l1 ?c1 ?k1 ?a2 ?l2 ?c2 ?k2 ?a3 ?l3 ?c3 ?k3 ?a4 ?l4 ?c4 ?k4 ?a5 ?l5 ?c5 ?k5 ?a6 ?l6 ?c6 ?k6 ?a7 ?l7 ?c7 ?k7 ?a8 ?l8 ?c8 ?k8 ?a9 ?l9 ?c9 ?k9 ?a10 ?l10 ?c10 ?k10 ?a11 ?l11 ?c11 ?k11 ?a12 ?l12 ?c12 ?k12 ?a13 ?l13 ?c13 ?k13 ?a14 ?l14 ?c14 ?k14 ?a15 ?l15 ?c15 ?k15 ?a16 ?l16 ?c16 ?k16 ?a17 ?l17 ?c17 ?k17 ?a18 ?l18 ?c18 ?k18 ?a19 ?l19 ?c19 ?k19 ?a20 ?l20 ?c20 ?k20 ?a21 ?l21 ?c21 ?k21 ?a22 ?l22 ?c22 ?k22 ?a23 ?l23 ?c23 ?k23 ?a24 ?l24 ?c24 ?k24 ?a25 ?l25 ?c25 ?k25 ?a26 ?l26 ?c26 ?k26 ?a27 ?l27 ?c27 ?k27 ?a28 ?l28 ?c28 ?k28 ?a29 ?l29 ?c29 ?k29 ?a30 ?l30 ?c30 ?k30 ?a31 ?l31 ?c31 ?k31 ?a32 ?l32 ?c32 ?k32 ?a33 ?l33 ?c33 ?k33 ?a34 ?l34 ?c34 ?k34 ?a35 ?l35 ?c35 ?k35 ?a36 ?l36 ?c36 ?k36 ?a37 ?l37 ?c37 ?k37 ?z_isinstance ?z_int ?z_bool ?z_tuple ?z_len ?z_abs ?z_enumerate ?z_range ?z_zip ?z_max ?z_reversed ?z_list ?z_sorted ?z_min ?q_ex_NoTurning ?q_ex_NotSmooth ?q_ex_NoWedge
  all_goals kernel_rfl
