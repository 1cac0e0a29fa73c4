import PyProof.Rows.All
import Wide.All
import OpenK.AllK
import Wide.FinOn
import Lean
import PyProof.EqAt
import PyProof.EqKinds
import PyProof.TupleCall
import PySem.Challenge.RW_rayround_k51_no_dots_no_corners
set_option maxRecDepth 100000
set_option linter.all false
set_option Elab.async false
set_option maxHeartbeats 4000000
noncomputable section
set_option bootstrap.genMatcherCode false
set_option genSizeOf false
set_option genSizeOfSpec false
set_option compiler.extract_closed false
section
namespace DQ
open PySem PySem.Spec PyProof.Rows
noncomputable def Zbw (A:Around) (h:Heap):Prop:=A.handled=none\/ ∃ ea oe vs,A.handled=some (.ref ea)/\h.get? ea=some oe/\oe.data= .fields vs/\vs[2]?=some .none
theorem Zbw.keeps {A:Around} {h h':Heap} (q:Zbw A h) (k: ∀ b o,h.get? b=some o->h'.get? b=some o):Zbw A h':=by
 rcases q with q | ⟨ea,oe,vs,e1,e2,e3,e4⟩
 ·exact .inl q
 ·exact .inr ⟨ea,oe,vs,e1,k _ _ e2,e3,e4⟩
theorem Zed:entryFor table "proto.unchain"=some Builtin.«proto.unchain» :=entryFor_of_fast (by kernel_rfl)
section
variable {prog:Program} {w:World} {A:Around} {E:Value->Shared->Prop} {s:Shared}
theorem ZfE {α:Type} {Q:α->Shared->Prop} {e:Addr} {oe:Obj} {vs:Array Value} (q:Zbw A s.heap) (he:s.heap.get? e=some oe) (hd:oe.data= .fields vs) (hz:2 < vs.size)
  (h: ∀ h',(∀ b o,b≠e->s.heap.get? b=some o->h'.get? b=some o)->(∃ o,h'.get? e=some o/\o.cls=oe.cls)->E (.ref e) { s with heap:=h' }):wpAny (model prog w) A (raiseNew (.ref e):Sem α) Q E s:=by
 have same:E (.ref e) s:=h s.heap (fun _ _ _ x=>x) ⟨oe,he,rfl⟩
 unfold raiseNew
 refine wpAny_bind (wpAny_handled ?_)
 rcases q with q | ⟨ea,oa,ws,q1,q2,q3,q4⟩
 ·rw[q]
  exact wpAny_bind (wpAny_pure (wpAny_throw same))
 ·rw[q1]
  dsimp only
  by_cases c:(Value.ref ea != Value.ref e)=true
  ·rw[if_pos c]
   refine wpAny_bind (wpAny_holding (wpAny_runValue (codeAny_builtin Zed ?_)))
   unfold Builtin.«proto.unchain»
   refine wpAny_bind (wpAny_field q2 q3 q4 ?_)
   refine wpAny_bind (wpAny_pure ?_)
   have sf:wpAny (model prog w) A (setField (.ref e) 2 (.ref ea)) (fun _ s'=>wpAny (model prog w) A (throw (Value.ref e):Sem α) Q E s') E s:=by
    refine wpAny_setField he hd hz (wpAny_throw (h _ (fun b o hb x=> ?_) ⟨_,Heap.get?_update_self _ he (Obj.isFreed_of_fields (Obj.data_mapFields hd _)),Obj.cls_mapFields _ _⟩))
    rw[Heap.get?_update_other _ _ (Ne.symm hb)]
    exact x
   exact wpAny_pure (wpAny_bind sf)
  ·rw[if_neg c]
   exact wpAny_throw same
theorem ZbR {α:Type} {Q:α->Shared->Prop} (q:Zbw A s.heap)
  (h: ∀ h' e,(∀ b o,s.heap.get? b=some o->h'.get? b=some o)->(∃ o,h'.get? e=some o/\o.cls= .type "StopIteration")->E (.ref e) { s with heap:=h' }):
  wpAny (model prog w) A (newExc (.type "StopIteration") [] >>= fun x=>(raiseNew x:Sem α)) Q E s:=by
 refine wpAny_bind ?_
 simp only[newExc,newTuple]
 refine wpAny_bind (wpAny_newObj_type ?_ (by size_fits))
 refine wpAny_bind (m:=firstArgMember _ _) (wpAny_of_eq (a:=Value.none) (by first | rfl | (simp only[firstArgMember];rfl)) ?_)
 refine wpAny_newObj_type ?_ (by size_fits)
 refine ZfE (q.keeps fun b o x=>Heap.get?_push_of_some _ (Heap.get?_push_of_some _ x)) (Heap.get?_push_size _ rfl) rfl (by rw[Array.size_append];exact Nat.lt_of_lt_of_le (by decide:2 < 6) (Nat.le_add_right _ _)) fun h' k he=> ?_
 exact h h' _ (fun b o x=>k b o (Nat.ne_of_lt (Nat.lt_of_lt_of_le (Heap.lt_size x) (by rw[Heap.size_push];exact Nat.le_succ _))) (Heap.get?_push_of_some _ (Heap.get?_push_of_some _ x))) he
theorem Zls {e:Addr} {Q:Bool->Shared->Prop} (he: ∃ o,s.heap.get? e=some o/\o.cls= .type "StopIteration") (h:Q true s):wpAny (model prog w) A (isInstance (.ref e) (.type "StopIteration")) Q E s:=
 let ⟨o,e1,e2⟩:=he
 wpAny_isInstance (T:="StopIteration") (b:=true) ⟨o,e1,e2⟩ isSubtype_stop h
theorem Zbw.in1 {h:Heap} (q:Zbw A h):Zbw A.in1 h:=q
noncomputable def Zgr (it:Addr) (s:Shared) (e:Value) (s':Shared):Prop:= ∃ a,e= .ref a/\(∃ o,s'.heap.get? a=some o/\o.cls= .type "StopIteration")/\ ∃ h',Heap.ExtBut it s.heap h'/\s'={ s with heap:=h' }
theorem Zgs {it:Addr} {T id:String} {b:Builtin} {Q:Option Value->Shared->Prop} (hT:s.TypeIs (.ref it) T) (sl:Slot T (Str.ofString "__next__") id) (hb:entryFor table id=some b) (ha:argsOk id ⟨[.ref it],[]⟩)
  (h:wpAny (model prog w) A.in1 (b ⟨[.ref it],[]⟩) (fun _ _=>False) (Zgr it s) s) (hQ: ∀ h',Heap.ExtBut it s.heap h'->Q none { s with heap:=h' }):wpAny (model prog w) A (pyNext (.ref it)) Q E s:=by
 unfold pyNext
 refine wpAny_bind (wpAny_attempt (wpAny_callSpecial?_slot (name:=Str.ofString "__next__") hT sl (wpAny_call_entry sl hT hb (wpAny_mono h (fun _ _ z=>z.elim) fun e s' z=> ?_) ha)))
 obtain ⟨a,rfl,ho,h',eb,rfl⟩:=z
 exact wpAny_bind (Zls ho (wpAny_pure (hQ h' eb)))
theorem Zhw {it:Addr} {x left step:Int} {Q:Option Value->Shared->Prop} (q:Zbw A s.heap) (hit:IsRangeIter s.heap it x left step) (hl:left<=0)
  (hQ: ∀ h',Heap.ExtBut it s.heap h'->Q none { s with heap:=h' }):wpAny (model prog w) A (pyNext (.ref it)) Q E s:=by
 refine Zgs ⟨_,hit,rfl⟩ F.slot_range_iterator_next F.entry_range_iterator_next (F.args_range_iterator_next_1 _) ?_ hQ
 refine wpAny_bind (m:=field (.ref it) 0) (wpAny_field hit rfl (x:=rawInt x) rfl ?_)
 refine wpAny_bind (m:=field (.ref it) 1) (wpAny_field hit rfl (x:=rawInt left) rfl ?_)
 refine wpAny_bind (m:=field (.ref it) 2) (wpAny_field hit rfl (x:=rawInt step) rfl ?_)
 dsimp only[rawInt]
 rw[if_pos hl]
 refine wpAny_bind (wpAny_rule (wpAny_bind ?_))
 exact ZbR q.in1 fun h' e k ho=>⟨e,rfl,ho,h',fun b o _ z=>k b o z,rfl⟩
theorem Znt {it l:Addr} {i:Nat} {o ol:Obj} {items:Array Value} {n:Nat} (q:Zbw A s.heap) (ho:s.heap.get? it=some o) (hd:o.data= .fields #[.ref l,.int i 0]) (hol:s.heap.get? l=some ol) (hdl:ol.data= .seq items n) (hx:items[i]?=none):
  wpAny (model prog w) A.in1 (Builtin.«list_iterator.__next__» ⟨[.ref it],[]⟩) (fun _ _=>False) (Zgr it s) s:=by
 refine wpAny_bind (m:=field (.ref it) 0) (wpAny_field ho hd (x:= .ref l) rfl ?_)
 dsimp only
 rw[if_neg (show ¬ ((Value.ref l == Value.none)=true) from Bool.false_ne_true)]
 refine wpAny_bind (m:=field (.ref it) 1) (wpAny_field ho hd (x:= .int i 0) rfl ?_)
 refine wpAny_bind (m:=seqItems? (.ref l)) (wpAny_seqItems hol hdl ?_)
 simp only[Int.toNat_natCast,hx]
 refine wpAny_bind (wpAny_rule (wpAny_bind (wpAny_setField ho hd (by simp) ?_)))
 have q2:Zbw A.in1 (s.heap.update it (Obj.mapFields (·.setIfInBounds 0 Value.none))):=by
  rcases q with q | ⟨ea,oe,vs,e1,e2,e3,e4⟩
  ·exact .inl q
  ·refine .inr ⟨ea,oe,vs,e1,?_,e3,e4⟩
   rw[Heap.get?_update_other _ _ (fun z=> ?_)]
   ·exact e2
   ·rw[<- z,ho] at e2
    cases e2
    rw[hd] at e3
    cases e3
    simp at e4
 refine ZbR q2 fun h' e k ho=>⟨e,rfl,ho,h',fun b o hb z=>k b o ?_,rfl⟩
 rw[Heap.get?_update_other _ _ (Ne.symm hb)]
 exact z
theorem Znu {it l:Addr} {i:Nat} {o ol:Obj} {items:Array Value} {n:Nat} (q:Zbw A s.heap) (ho:s.heap.get? it=some o) (hd:o.data= .fields #[.ref l,.int i 0]) (hol:s.heap.get? l=some ol) (hdl:ol.data= .seq items n) (hx:items[i]?=none):
  wpAny (model prog w) A.in1 (Builtin.«tuple_iterator.__next__» ⟨[.ref it],[]⟩) (fun _ _=>False) (Zgr it s) s:=by
 refine wpAny_bind (m:=field (.ref it) 0) (wpAny_field ho hd (x:= .ref l) rfl ?_)
 dsimp only
 rw[if_neg (show ¬ ((Value.ref l == Value.none)=true) from Bool.false_ne_true)]
 refine wpAny_bind (m:=field (.ref it) 1) (wpAny_field ho hd (x:= .int i 0) rfl ?_)
 refine wpAny_bind (m:=seqItems? (.ref l)) (wpAny_seqItems hol hdl ?_)
 simp only[Int.toNat_natCast,hx]
 refine wpAny_bind (wpAny_rule (wpAny_bind (wpAny_setField ho hd (by simp) ?_)))
 have q2:Zbw A.in1 (s.heap.update it (Obj.mapFields (·.setIfInBounds 0 Value.none))):=by
  rcases q with q | ⟨ea,oe,vs,e1,e2,e3,e4⟩
  ·exact .inl q
  ·refine .inr ⟨ea,oe,vs,e1,?_,e3,e4⟩
   rw[Heap.get?_update_other _ _ (fun z=> ?_)]
   ·exact e2
   ·rw[<- z,ho] at e2
    cases e2
    rw[hd] at e3
    cases e3
    simp at e4
 refine ZbR q2 fun h' e k ho=>⟨e,rfl,ho,h',fun b o hb z=>k b o ?_,rfl⟩
 rw[Heap.get?_update_other _ _ (Ne.symm hb)]
 exact z
theorem Zjp {it l:Addr} {i:Nat} {items} {Q:Option Value->Shared->Prop} (q:Zbw A s.heap) (hit:s.heap.IsListIter it l i) (hl:s.heap.IsList l items) (hx:items[i]?=none)
  (hQ: ∀ h',Heap.ExtBut it s.heap h'->Q none { s with heap:=h' }):wpAny (model prog w) A (pyNext (.ref it)) Q E s:=by
 obtain ⟨o,ho,hc,hd⟩:=id hit
 obtain ⟨ol,hol,_,nl,hdl⟩:=hl
 exact Zgs hit.typeIs slot_listiter_next entry_listiter_next (args_listiter_next _) (Znt q ho hd hol hdl hx) hQ
theorem Zhx {it l:Addr} {i:Nat} {items} {Q:Option Value->Shared->Prop} (q:Zbw A s.heap) (hit:s.heap.IsTupleIter it l i) (hl:s.heap.IsTuple l items) (hx:items[i]?=none)
  (hQ: ∀ h',Heap.ExtBut it s.heap h'->Q none { s with heap:=h' }):wpAny (model prog w) A (pyNext (.ref it)) Q E s:=by
 obtain ⟨o,ho,hc,hd⟩:=id hit
 obtain ⟨ol,hol,_,nl,hdl⟩:=hl
 exact Zgs hit.typeIs F.slot_tuple_iterator_next F.entry_tuple_iterator_next (F.args_tuple_iterator_next_1 _) (Znu q ho hd hol hdl hx) hQ
end
end DQ
end
section
namespace L2
open PySem PySem.Spec PyProof.Rows
noncomputable abbrev Key:=Sum Int Str
noncomputable def ZfF:Key->Value->Bool
 | .inl k,v=>Value.isInt k v
 | .inr x,v=>Value.isStrOf x v
noncomputable def Ztv (w:World):Key->Int
 | .inl k=>hashInt k
 | .inr x=>hashStr w x
theorem ZS: ∀ {k:Key} {v:Value},ZfF k v=true->(∃ i t,k=Sum.inl i/\v=Value.int i t)\/(∃ x t,k=Sum.inr x/\v=Value.str x t)
 | .inl i,v,h=>by
  obtain ⟨t,e⟩:=Value.isInt_shape (k:=i) (v:=v) h
  exact .inl ⟨i,t,rfl,e⟩
 | .inr x,v,h=>by
  obtain ⟨t,e⟩:=Value.isStrOf_shape (x:=x) (v:=v) h
  exact .inr ⟨x,t,rfl,e⟩
theorem Zhy (i:Int) (t:Tok):ZfF (.inl i) (.int i t)=true:=by simp[ZfF,Value.isInt]
theorem Zhz (x:Str) (t:Tok):ZfF (.inr x) (.str x t)=true:=by simp[ZfF,Value.isStrOf]
theorem Znv (a b:Int):decide ((Sum.inl a:Key)=Sum.inl b)=(a == b):=by
 by_cases e:a=b
 ·subst e;simp
 ·have h: ¬ (Sum.inl a:Key)=Sum.inl b:=fun q=>e (Sum.inl.inj q)
  rw[decide_eq_false h]
  exact (beq_eq_false_iff_ne.mpr e).symm
theorem Znw (a b:Str):decide ((Sum.inr a:Key)=Sum.inr b)=decide (a=b):=by
 by_cases e:a=b
 ·subst e;simp
 ·have h: ¬ (Sum.inr a:Key)=Sum.inr b:=fun q=>e (Sum.inr.inj q)
  rw[decide_eq_false h,decide_eq_false e]
theorem Znx (a:Int) (b:Str):decide ((Sum.inl a:Key)=Sum.inr b)=false:=decide_eq_false (fun q=>nomatch q)
theorem Zny (a:Str) (b:Int):decide ((Sum.inr a:Key)=Sum.inl b)=false:=decide_eq_false (fun q=>nomatch q)
noncomputable def Zaj (prog:Program) (w:World):PySem.KeyKind prog w Key where
 is:=ZfF
 hash:=Ztv w
 inj:=fun v a b ha hb=>by
  rcases ZS ha with ⟨i,t,rfl,rfl⟩ | ⟨x,t,rfl,rfl⟩
  ·rcases ZS hb with ⟨j,u,rfl,e⟩ | ⟨y,u,rfl,e⟩
   ·injection e with e1 _;rw[e1]
   ·exact nomatch e
  ·rcases ZS hb with ⟨j,u,rfl,e⟩ | ⟨y,u,rfl,e⟩
   ·exact nomatch e
   ·injection e with e1 _;rw[e1]
 byValue:=fun k v h=>by
  rcases ZS h with ⟨i,t,rfl,rfl⟩ | ⟨x,t,rfl,rfl⟩<;>rfl
 pyHash:=fun hv h=>by
  rcases ZS hv with ⟨i,t,rfl,rfl⟩ | ⟨x,t,rfl,rfl⟩
  ·exact wpAny_pyHash_int h
  ·exact wpAny_pyHash_str h
 eqBool:=fun hu hv h=>by
  rcases ZS hu with ⟨i,t,rfl,rfl⟩ | ⟨x,t,rfl,rfl⟩
  ·rcases ZS hv with ⟨j,u,rfl,rfl⟩ | ⟨y,u,rfl,rfl⟩
   ·rw[Znv] at h;exact wpAny_eqBool_int h
   ·rw[Znx] at h;exact SeqAt.EqAt.int_str i t y u _ _ _ _ h
  ·rcases ZS hv with ⟨j,u,rfl,rfl⟩ | ⟨y,u,rfl,rfl⟩
   ·rw[Zny] at h;exact SeqAt.EqAt.str_int x t j u _ _ _ _ h
   ·rw[Znw] at h;exact wpAny_eqBool_str h
 «strs» :=fun k x t v h=>by
  rcases ZS h with ⟨i,u,rfl,e⟩ | ⟨y,u,rfl,e⟩
  ·exact nomatch e
  ·injection e with e1 _
   subst e1
   cases v<;>rfl
theorem ZfG (prog:Program) (w:World) (i:Int) (t:Tok):(Zaj prog w).is (.inl i) (.int i t)=true:=Zhy i t
theorem ZfH (prog:Program) (w:World) (x:Str) (t:Tok):(Zaj prog w).is (.inr x) (.str x t)=true:=Zhz x t
end L2
namespace L2
open PySem PySem.Spec PyProof.Rows
inductive V where
 |non | bl (b:Bool) | int (i:Int) | str (x:Str) | byt (b:Array UInt8) | flt (b:UInt64) | ref (a:Addr) | ty (n:String)
 deriving DecidableEq
noncomputable def Z9:V->Value->Prop
 | .non,u=>u=Value.none
 | .bl b,u=>u=Value.bool b
 | .int i,u=> ∃ t,u=Value.int i t
 | .str x,u=> ∃ t,u=Value.str x t
 | .byt b,u=> ∃ t,u=Value.bytes b t
 | .flt b,u=> ∃ t,u=Value.float b t
 | .ref a,u=>u=Value.ref a
 | .ty n,u=>u=Value.type n
noncomputable abbrev Z2:List V->List Value->Prop:=Paired Z9
theorem Z2.length {xs:List V} {us:List Value} (r:Z2 xs us):xs.length=us.length:=Paired.length r
theorem Z2.get: ∀ {xs:List V} {us:List Value} {i:Nat} {x:V},Z2 xs us->xs[i]?=some x-> ∃ u,us[i]?=some u/\Z9 x u
 |_,_,_,_,.nil,e=>by simp at e
 |_,_,0,_,.cons r _,e=>by simp at e;subst e;exact ⟨_,rfl,r⟩
 |_,_,i + 1,x,.cons _ t,e=>by
  obtain ⟨u,h1,h2⟩:=Z2.get (i:=i) (x:=x) t (by simpa using e)
  exact ⟨u,by simpa using h1,h2⟩
theorem Z2.set {x:V} {u:Value} (r:Z9 x u): ∀ {xs:List V} {us:List Value} (i:Nat),Z2 xs us->Z2 (xs.set i x) (us.set i u)
 |_,_,_,.nil=> .nil
 |_,_,0,.cons _ t=> .cons r t
 |_,_,i + 1,.cons q t=> .cons q (Z2.set r i t)
theorem Z2.append: ∀ {xs ys:List V} {us ws:List Value},Z2 xs us->Z2 ys ws->Z2 (xs ++ ys) (us ++ ws)
 |_,_,_,_,.nil,s=>s
 |_,_,_,_,.cons r t,s=> .cons r (Z2.append t s)
theorem Z2.take: ∀ {xs:List V} {us:List Value} (n:Nat),Z2 xs us->Z2 (xs.take n) (us.take n)
 |_,_,0,_=> .nil
 |_,_,_ + 1,.nil=> .nil
 |_,_,n + 1,.cons r t=> .cons r (Z2.take n t)
theorem Z2.drop: ∀ {xs:List V} {us:List Value} (n:Nat),Z2 xs us->Z2 (xs.drop n) (us.drop n)
 |_,_,0,r=>r
 |_,_,_ + 1,.nil=> .nil
 |_,_,n + 1,.cons _ t=>Z2.drop n t
noncomputable def ZkH:Option V->Option Value->Prop
 |some v,some u=>Z9 v u
 |none,none=>True
 |_,_=>False
noncomputable def KV {κ:Type}:List (κ × V)->List (κ × Value)->Prop:=Paired fun (p:κ × V) (q:κ × Value)=>p.1=q.1/\Z9 p.2 q.2
noncomputable def kV:Key->V
 | .inl i=> .int i
 | .inr x=> .str x
inductive HO where
 |lst (xs:List V)
 |tup (xs:List V)
 |dK (kvs:List (Key × V)) | dT (kvs:List (List Key × V))
 |set (S:Int->Bool) (n:Nat)
 |ins (C dx:Addr) (fs:List (Str × V))
 |own (x:Addr)
 |xd (fs:List (Str × V))
 |met (f x:Addr)
 |rng (lo hi:Int)
 |frz (o:Obj) (u:HO)
 |tbl (ps:Array Value)
 |ext (φ:Heap->Prop)
noncomputable abbrev Hp:=Addr->Option HO
noncomputable def upd (H:Hp) (a:Addr) (o:HO):Hp:=fun b=>if b=a then some o else H b
theorem Zt {H:Hp} {a:Addr} {o:HO}:upd H a o a=some o:=by unfold upd;rw[if_pos rfl]
theorem ZE {H:Hp} {a b:Addr} {o:HO} (h:b≠a):upd H a o b=H b:=by unfold upd;rw[if_neg h]
theorem Zao {H:Hp} {a b:Addr} {o:HO} (h:H a=some o) (h':H b=none):a≠b:=by
 intro e;subst e;rw[h] at h';cases h'
section
variable (P:Program) (w:World)
noncomputable def Za6 (H:Hp) (h:Heap) (a:Addr):HO->Prop
 | .lst xs=>xs.length<=sizeLine/\ ∃ (its:List Value) (n:Nat),Z2 xs its/\h.get? a=some { cls:= .type "list",data:= .seq its.toArray n }
 | .tup xs=>xs.length<=sizeLine/\ ∃ its:List Value,Z2 xs its/\IsTup h a its.toArray
 | .dK kvs=>kvs.length<=sizeLine/\(a == sysModules)=false/\ ∃ vs,KV kvs vs/\h.DictOf (Zaj P w) a vs
 | .dT kvs=>kvs.length<=sizeLine/\(a == sysModules)=false/\ ∃ xs:List (List Key × Addr × Value),
   Paired (fun (p:List Key × V) (q:List Key × Addr × Value)=>p.1=q.1/\H q.2.1=some (.tup (p.1.map kV))/\Z9 p.2 q.2.2) kvs xs/\
   ∃ o es ep,h.get? a=some o/\o.ExactDict/\o.data= .dict es ep/\es.toList=xs.map (entryOfKey (tupleKind (Zaj P w)))/\(xs.map (·.1)).Nodup
 | .set S n=>h.SetOf (intKind P w) a S n
 | .ins C dx fs=>H dx=some (.own a)/\fs.length<=1000/\dx≠a/\h.get? a=some (PySem.W.instObj C dx)/\
   ∃ mA,h.Ns1 dx mA/\(∀ f,ZkH (fs.lookup f) (mA f))/\PySem.Within mA (fs.map (·.1))
 | .own _=> ∃ o,h.get? a=some o
 | .xd fs=> ∃ mA,h.Ns1 a mA/\ ∀ f,ZkH (fs.lookup f) (mA f)
 | .rng lo hi=> ∃ t u v,h.get? a=some { cls:= .type "range",data:= .fields #[.int lo t,.int hi u,.int 1 v] }
 | .frz o u=>h.get? a=some o/\Za6 H h a u
 | .tbl ps=>h.get? a=some { cls:= .none,data:= .fields ps }
 | .met f x=>h.get? a=some (PySem.W.methodObj (.ref f) (.ref x))
 | .ext φ=>φ h/\(∃ o,h.get? a=some o)/\ ∀ h1 h2:Heap,φ h1->(∀ o,h1.get? a=some o->h2.get? a=some o)->φ h2
noncomputable def HOk (H:Hp) (h:Heap):Prop:= ∀ a o,H a=some o->Za6 P w H h a o
end
section
variable {P:Program} {w:World} {H H':Hp} {h h':Heap} {a:Addr} {o:HO}
theorem Za6.lt (x:Za6 P w H h a o):a < h.objs.size:=by
 cases o with
 |lst xs=>obtain ⟨_,_,_,_,e⟩:=x;exact Heap.lt_size e
 |tup xs=>obtain ⟨_,_,_,p⟩:=x;exact p.lt
 |dK kvs=>obtain ⟨_,_,_,_,o,_,_,e,_⟩:=x;exact Heap.lt_size e
 |dT kvs=>obtain ⟨_,_,_,_,o,_,_,e,_⟩:=x;exact Heap.lt_size e
 |set S n=>obtain ⟨o,_,_,_,e,_⟩:=x;exact Heap.lt_size e
 |ins C dx fs=>obtain ⟨_,_,_,e,_⟩:=x;exact Heap.lt_size e
 |own y=>obtain ⟨_,e⟩:=x;exact Heap.lt_size e
 |xd fs=>obtain ⟨_,⟨_,_,_,e,_⟩,_⟩:=x;exact Heap.lt_size e
 |rng lo hi=>obtain ⟨_,_,_,e⟩:=x;exact Heap.lt_size e
 |frz ob u=>obtain ⟨e,_⟩:=x;exact Heap.lt_size e
 |tbl ps=>exact Heap.lt_size (show h.get? a=some _ from x)
 |met f y=>exact Heap.lt_size (show h.get? a=some _ from x)
 |ext φ=>obtain ⟨_,⟨_,e⟩,_⟩:=x;exact Heap.lt_size e
theorem Paired.mapP {α β:Type} {F G:α->β->Prop}: ∀ {l₁:List α} {l₂:List β},Paired F l₁ l₂->(∀ a b,F a b->G a b)->Paired G l₁ l₂
 |_,_,.nil,_=> .nil
 |_,_,.cons r t,f=> .cons (f _ _ r) (Paired.mapP t f)
theorem Za6.stay (x:Za6 P w H h a o) (k: ∀ b u,(b=a\/H b=some (.own a))->h.get? b=some u->h'.get? b=some u)
  (ho: ∀ b,H b=some (.own a)->H' b=some (.own a)) (ht: ∀ b xs,H b=some (.tup xs)->H' b=some (.tup xs)):Za6 P w H' h' a o:=by
 induction o with
 |lst xs=>obtain ⟨z,its,n,r,e⟩:=x;exact ⟨z,its,n,r,k _ _ (.inl rfl) e⟩
 |tup xs=>obtain ⟨z,its,r,ob,e,c⟩:=x;exact ⟨z,its,r,ob,k _ _ (.inl rfl) e,c⟩
 |dK kvs=>obtain ⟨z,y,vs,r,ob,es,ep,e,c⟩:=x;exact ⟨z,y,vs,r,ob,es,ep,k _ _ (.inl rfl) e,c⟩
 |dT kvs=>
  obtain ⟨z,y,xs,r,ob,es,ep,e,c⟩:=x
  exact ⟨z,y,xs,Paired.mapP r fun p q z=>⟨z.1,ht _ _ z.2.1,z.2.2⟩,ob,es,ep,k _ _ (.inl rfl) e,c⟩
 |set S n=>obtain ⟨ob,es,ep,t,e,c⟩:=x;exact ⟨ob,es,ep,t,k _ _ (.inl rfl) e,c⟩
 |ins C dx fs=>
  obtain ⟨d,z,ne,e,mA,⟨od,es,ep,e2,c⟩,r⟩:=x
  exact ⟨ho _ d,z,ne,k _ _ (.inl rfl) e,mA,⟨od,es,ep,k _ _ (.inr d) e2,c⟩,r⟩
 |own y=>obtain ⟨ob,e⟩:=x;exact ⟨ob,k _ _ (.inl rfl) e⟩
 |xd fs=>obtain ⟨mA,⟨od,es,ep,e,c⟩,r⟩:=x;exact ⟨mA,⟨od,es,ep,k _ _ (.inl rfl) e,c⟩,r⟩
 |rng lo hi=>obtain ⟨t,u,v,e⟩:=x;exact ⟨t,u,v,k _ _ (.inl rfl) e⟩
 |frz ob u ih=>obtain ⟨e,q⟩:=x;exact ⟨k _ _ (.inl rfl) e,ih q⟩
 |tbl ps=>
  have e:h.get? a=some { cls:= .none,data:= .fields ps }:=x
  show h'.get? a=some { cls:= .none,data:= .fields ps }
  exact k a _ (.inl rfl) e
 |met f y=>
  have e:h.get? a=some (PySem.W.methodObj (.ref f) (.ref y)):=x
  show h'.get? a=some (PySem.W.methodObj (.ref f) (.ref y))
  exact k a _ (.inl rfl) e
 |ext φ=>obtain ⟨p,⟨o,e⟩,st⟩:=x;exact ⟨st _ _ p fun o q=>k _ _ (.inl rfl) q,⟨o,k _ _ (.inl rfl) e⟩,st⟩
theorem HOk.lt (x:HOk P w H h) (e:H a=some o):a < h.objs.size:=(x a o e).lt
theorem HOk.fresh (x:HOk P w H h) (e:h.objs.size<=a):H a=none:=by
 cases q:H a with
 |none=>rfl
 |some u=>exact absurd (Nat.lt_of_lt_of_le (x.lt q) e) (Nat.lt_irrefl _)
theorem HOk.kept (x:HOk P w H h) (k: ∀ b u,h.get? b=some u->h'.get? b=some u):HOk P w H h':=fun a o e=>
 (x a o e).stay (fun b u _ q=>k b u q) (fun _ q=>q) fun _ _ q=>q
theorem HOk.laid (x:HOk P w H h) (k: ∀ b u,h.get? b=some u->h'.get? b=some u) (hp:h.objs.size<=a) (new:Za6 P w (upd H a o) h' a o):HOk P w (upd H a o) h':=fun b u e=>by
 have hn:=x.fresh hp
 by_cases hb:b=a
 ·subst hb;rw[Zt] at e;cases e;exact new
 ·rw[ZE hb] at e
  exact (x b u e).stay (fun c v _ q=>k c v q) (fun c q=>by rw[ZE (Zao q hn)];exact q) fun c xs q=>by rw[ZE (Zao q hn)];exact q
end
noncomputable def Rd (H:Hp) (a:Addr) (u:HO):Prop:=H a=some u\/ ∃ o,H a=some (.frz o u)
theorem Rd.ok {P:Program} {w:World} {H:Hp} {h:Heap} {a:Addr} {u:HO} (r:Rd H a u) (x:HOk P w H h):Za6 P w H h a u:=by
 rcases r with r | ⟨o,r⟩
 ·exact x a u r
 ·obtain ⟨_,q⟩:=x a _ r
  exact q
noncomputable def Mut:Option HO->Prop
 |some (.lst _)=>True
 |some (.dK _)=>True
 |some (.dT _)=>True
 |some (.set _ _)=>True
 |some (.ins _ _ _)=>True
 |some (.ext _)=>True
 |_=>False
section
variable {P:Program} {w:World} {H:Hp} {h h':Heap} {x e:Addr} {o':HO}
theorem HOk.write (ok:HOk P w H h) (mu:Mut (H x)) (he:e=x\/H e=some (.own x)) (k: ∀ b u,b≠e->h.get? b=some u->h'.get? b=some u) (heo: ∃ u,h'.get? e=some u)
  (new:Za6 P w (upd H x o') h' x o'):HOk P w (upd H x o') h':=fun b u q=>by
 have nown: ∀ c y,H c=some (.own y)->c≠x:=fun c y r z=>by subst z;rw[r] at mu;exact mu
 have ntup: ∀ c xs,H c=some (.tup xs)->c≠x:=fun c xs r z=>by subst z;rw[r] at mu;exact mu
 by_cases hb:b=x
 ·subst hb;rw[Zt] at q;cases q;exact new
 ·rw[ZE hb] at q
  by_cases hbe:b=e
  ·have q':H b=some (.own x):=by
    rcases he with z | z
    ·exact absurd (hbe.trans z) hb
    ·rw[hbe];exact z
   rw[q] at q';cases q'
   obtain ⟨v,hv⟩:=heo
   exact ⟨v,by rw[hbe];exact hv⟩
  ·refine (ok b u q).stay (fun c v hc r=>k c v ?_ r) (fun c r=>by rw[ZE (nown c b r)];exact r) fun c xs r=>by rw[ZE (ntup c xs r)];exact r
   rcases hc with rfl | hc
   ·exact hbe
   ·rintro rfl
    rcases he with z | z
    ·exact nown c b hc z
    ·rw[hc] at z;cases z;exact hb rfl
end
structure Un (fs ex:List Addr) (H H':Hp) (h h':Heap):Prop where
 keep: ∀ b o,h.get? b=some o->H b=none->b ∉ fs->b ∉ ex->h'.get? b=some o
 slot: ∀ b o,h.get? b=some o->H b=none->b∈fs->b ∉ ex-> ∃ sl,h'.get? b=some { o with slots:=sl }
 free: ∀ b o,h.get? b=some o->H b=none->b ∉ ex->H' b=none
 there: ∀ b o,h.get? b=some o->b ∉ ex-> ∃ o',h'.get? b=some o'
 tups: ∀ b xs,H b=some (.tup xs)->H' b=some (.tup xs)
 frzs: ∀ b o u,H b=some (.frz o u)->H' b=some (.frz o u)
 tbls: ∀ b ps,H b=some (.tbl ps)-> ∃ more,H' b=some (.tbl (ps ++ more))
section
variable {fs fs' ex ex':List Addr} {H H1 H2:Hp} {h h1 h2 h':Heap} {a x e:Addr} {o:HO}
theorem Un.any (u:Un fs ex H H1 h h1) {b:Addr} {ob:Obj} (q:h.get? b=some ob) (n:H b=none) (hx:b ∉ ex): ∃ sl,h1.get? b=some { ob with slots:=sl }:=by
 by_cases hb:b∈fs
 ·exact u.slot b ob q n hb hx
 ·exact ⟨ob.slots,u.keep b ob q n hb hx⟩
theorem Un.kept (k: ∀ b u,h.get? b=some u->h'.get? b=some u):Un fs ex H H h h':=
 ⟨fun b ob q _ _ _=>k b ob q,fun b ob q _ _ _=>⟨ob.slots,k b ob q⟩,fun _ _ _ n _=>n,fun b ob q _=>⟨ob,k b ob q⟩,fun _ _ q=>q,fun _ _ _ q=>q,fun _ ps q=>⟨#[],by rw[q];simp⟩⟩
theorem Un.refl:Un fs ex H H h h:=Un.kept fun _ _ q=>q
theorem Un.laid (k: ∀ b u,h.get? b=some u->h'.get? b=some u) (hp:h.objs.size<=a) (hn:H a=none):Un fs ex H (upd H a o) h h' where
 keep:=fun b u q _ _ _=>k b u q
 slot:=fun b u q _ _ _=>⟨u.slots,k b u q⟩
 free:=fun b u q n _=>by rw[ZE (Nat.ne_of_lt (Nat.lt_of_lt_of_le (Heap.lt_size q) hp))];exact n
 there:=fun b u q _=>⟨u,k b u q⟩
 tups:=fun b xs q=>by rw[ZE (Zao q hn)];exact q
 frzs:=fun b u xs q=>by rw[ZE (Zao q hn)];exact q
 tbls:=fun b ps q=>⟨#[],by rw[ZE (Zao q hn),q];simp⟩
theorem Un.write (mu:Mut (H x)) (he:e=x\/H e=some (.own x)) (k: ∀ b u,b≠e->h.get? b=some u->h'.get? b=some u) (heo: ∃ u,h'.get? e=some u):Un fs ex H (upd H x o) h h':=by
 have hx: ∀ b,H b=none->b≠x:=fun b n z=>by subst z;rw[n] at mu;exact mu
 have hb: ∀ b,H b=none->b≠e:=fun b n z=>by
  subst z
  rcases he with r | r
  ·exact hx b n r
  ·rw[n] at r;cases r
 have hm: ∀ b u,H b=some u-> ¬ Mut (some u)->b≠x:=fun b u q nm z=>by subst z;rw[q] at mu;exact nm mu
 refine ⟨fun b u q n _ _=>k b u (hb b n) q,fun b u q n _ _=>⟨u.slots,k b u (hb b n) q⟩,fun b u q n _=>by rw[ZE (hx b n)];exact n,fun b u q _=> ?_,
  fun b xs q=>by rw[ZE (hm b _ q fun z=>z)];exact q,fun b u xs q=>by rw[ZE (hm b _ q fun z=>z)];exact q,fun b ps q=>⟨#[],by rw[ZE (hm b _ q fun z=>z),q];simp⟩⟩
 by_cases hbe:b=e
 ·subst hbe;exact heo
 ·exact ⟨u,k b u hbe q⟩
end
noncomputable def trk (h:Heap) (H:Hp):List Addr:=(List.range h.objs.size).filter fun a=>(H a).isSome
noncomputable def Zjl (h:Heap) (H:Hp):Heap:=PySem.W.hideAll h (trk h H)
theorem ZhA (h:Heap) (H:Hp):(Zjl h H).objs.size=h.objs.size:=PySem.W.hideAll_size _ _
theorem Zgt {h:Heap} {H:Hp} {b:Addr} {o:Obj} (e:h.get? b=some o) (n:H b=none):(Zjl h H).get? b=some o:=
 PySem.W.hideAll_get _ e fun hm=>by
  have q:(H b).isSome=true:=(List.mem_filter.mp hm).2
  rw[n] at q;simp at q
theorem ZhB {h:Heap} {H:Hp} {b:Addr} {o:Obj} (e:(Zjl h H).get? b=some o):h.get? b=some o/\H b=none:=by
 have e':h.get? b=some o:=PySem.W.of_hideAll (trk h H) e
 refine ⟨e',?_⟩
 cases q:H b with
 |none=>rfl
 |some x=>
  have hm:b∈trk h H:=List.mem_filter.mpr ⟨List.mem_range.mpr (Heap.lt_size e'),by simp[q]⟩
  have z:(Zjl h H).get? b=none:=PySem.W.hideAll_none (trk h H) hm
  rw[z] at e;cases e
end L2
namespace L2
open PySem PySem.Spec PyProof.Rows
structure Mod (K:PySem.W.Frag) (mg:Str->Option Value) (base:Heap):Prop where
 kin:K.In base
 glob:base.Ns mainGlobals mg
 blt: ∃ mb,base.Ns builtinsNs mb/\ ∀ x:Str,x≠"__name__"->mb x=bootBuiltins x
 nolimit:base.NoLimit
structure Cx where
 prog:Program
 w:World
 K:PySem.W.Frag
 mg:Str->Option Value
 base:Heap
 A:Around
 N:List Str
 s₀:Shared
 H₀:Hp
 env:Env
 outer:List Env
 stack:List Env
 ex:List Addr
 fn:Str->Bool
 calm:Bool
 pn:List (Addr × Obj)
 xe:Value->Shared->Prop
 fxs:Option (List Bool × List (Option V))
noncomputable def frs (l:List Env):List Addr:=l.filterMap (·.frame)
noncomputable abbrev Cx.fs (X:Cx):List Addr:=frs X.outer
noncomputable def Vis (sc:Scope) (x:Str):Prop:=sc.names.lookup x=some .local\/sc.names.lookup x=some .cell\/sc.names.lookup x=some .free
noncomputable def Loc (sc:Scope) (x:Str):Prop:=sc.names.lookup x=some .local\/sc.names.lookup x=some .cell
noncomputable def Ztw (env:Env) (h:Heap) (m:Str->Option Value) (x:Str) (u:Value):Prop:=
 (env.kindOf x=some .local/\m x=some u)\/((env.kindOf x=some .cell\/env.kindOf x=some .free)/\ ∃ c,env.cells.lookup x=some c/\h.IsCell c (some u))
structure Cx.Ok (X:Cx):Prop where
 mod:Mod X.K X.mg X.base
 kind:X.env.scope.kind= .function
 glob:X.env.globals=mainGlobals
 blt:X.env.builtins=builtinsNs
 above:X.s₀.heap.objs.size<=X.env.locals
 inj: ∀ x y c,X.env.cells.lookup x=some c->X.env.cells.lookup y=some c->x=y
 has: ∀ x,(X.env.kindOf x=some .cell\/X.env.kindOf x=some .free)-> ∃ c,X.env.cells.lookup x=some c
 cab: ∀ x c,X.fn x=true->X.env.cells.lookup x=some c->X.s₀.heap.objs.size<=c
 hd:X.calm=true->X.A.handled=none
 frames:X.A.frames=some X.stack
 stk:X.stack=X.outer\/(X.stack=X.env :: X.outer/\X.env.frame=some X.env.locals)
 exf: ∀ b∈X.ex,b≠X.env.locals/\ ∀ x c,X.env.cells.lookup x=some c->c≠b
 bs: ∀ b o,X.base.get? b=some o->X.s₀.heap.get? b=some o/\X.H₀ b=none
 bsz:X.base.objs.size<=X.s₀.heap.objs.size
 noex: ∀ b o,X.base.get? b=some o->b ∉ X.ex
 exfs: ∀ b∈X.ex,b ∉ X.fs
 funs:X.s₀.heap.FunFrames X.base X.outer
 frf: ∀ b∈X.fs,X.H₀ b=none
noncomputable def Qd (A:Around) (H:Hp):Prop:=A.handled=none\/ ∃ ea oe u vs,A.handled=some (.ref ea)/\H ea=some (.frz oe u)/\oe.data= .fields vs/\vs[2]?=some .none
theorem Qd.mono {A:Around} {H H':Hp} (q:Qd A H) (k: ∀ b o u,H b=some (.frz o u)->H' b=some (.frz o u)):Qd A H':=by
 rcases q with q | ⟨ea,oe,u,vs,e1,e2,e3,e4⟩
 ·exact .inl q
 ·exact .inr ⟨ea,oe,u,vs,e1,k _ _ _ e2,e3,e4⟩
noncomputable def Cx.may (X:Cx) (i:Nat):Bool:=match X.fxs with | none=>true | some (W,_)=>W[i]? == some true
noncomputable def Cx.Fx (X:Cx) (σ:List (Option V)):Prop:= ∀ W σ0,X.fxs=some (W,σ0)-> ∀ j:Nat,W[j]?=some false->σ[j]?=σ0[j]?
theorem Cx.Fx.free {X:Cx} {σ:List (Option V)} (h:X.fxs=none):X.Fx σ:=fun W σ0 e=>by rw[h] at e;cases e
theorem Cx.Fx.set {X:Cx} {σ:List (Option V)} {i:Nat} {v:Option V} (h:X.Fx σ) (m:X.may i=true):X.Fx (σ.set i v):=fun W σ0 e j hj=>by
 have ne:i≠j:=fun z=>by
  unfold Cx.may at m
  rw[e,z] at m
  have m':(W[j]? == some true)=true:=m
  rw[hj] at m'
  cases m'
 rw[List.getElem?_set_ne ne]
 exact h W σ0 e j hj
structure Inv (X:Cx) (pins:List (Addr × Obj)) (σ:List (Option V)) (H:Hp) (s:Shared):Prop where
 ok:X.Ok
 os:s.os=X.s₀.os
 bare:AllBare s.gens
 base:Un X.fs X.ex X.H₀ H X.s₀.heap s.heap
 loc: ∃ m,s.heap.Ns X.env.locals m/\ ∀ (i:Nat) (x:Str) (v:V),X.N[i]?=some x->σ[i]?=some (some v)->Vis X.env.scope x-> ∃ u,Z9 v u/\Ztw X.env s.heap m x u
 cell: ∀ x c,X.env.cells.lookup x=some c-> ∃ v,s.heap.IsCell c v
 free:H X.env.locals=none
 freeC: ∀ x c,X.env.cells.lookup x=some c->H c=none
 pin: ∀ p∈X.pn ++ pins,s.heap.get? p.1=some p.2/\H p.1=none/\p.1≠X.env.locals/\p.1 ∉ X.fs/\ ∀ v,p.2.data≠ .cell v
 hok:HOk X.prog X.w H s.heap
 len:σ.length=X.N.length
 qd:Qd X.A H
 fx:X.Fx σ
section
variable {X:Cx} {pins:List (Addr × Obj)} {σ:List (Option V)} {H H':Hp} {s:Shared} {h':Heap}
theorem Cx.Ok.nofr (ok:X.Ok) {b:Addr} {o:Obj} (e:X.base.get? b=some o):b ∉ X.fs:=fun hb=>by
 have:=(ok.funs.mem hb).1
 rw[e] at this;cases this
theorem Inv.bs (I:Inv X pins σ H s): ∀ b o,X.base.get? b=some o->s.heap.get? b=some o/\H b=none:=fun b o e=>
 ⟨I.base.keep b o (I.ok.bs b o e).1 (I.ok.bs b o e).2 (I.ok.nofr e) (I.ok.noex b o e),I.base.free b o (I.ok.bs b o e).1 (I.ok.bs b o e).2 (I.ok.noex b o e)⟩
theorem Inv.qh (I:Inv X pins σ H s):DQ.Zbw X.A s.heap:=by
 rcases I.qd with q | ⟨ea,oe,u,vs,e1,e2,e3,e4⟩
 ·exact .inl q
 ·exact .inr ⟨ea,oe,vs,e1,(I.hok _ _ e2).1,e3,e4⟩
theorem Inv.bk (I:Inv X pins σ H s): ∀ b o,X.base.get? b=some o->s.heap.get? b=some o:=fun b o e=>(I.bs b o e).1
theorem Inv.mod (I:Inv X pins σ H s):Mod X.K X.mg X.base:=I.ok.mod
theorem Inv.kIn (I:Inv X pins σ H s):X.K.In s.heap:=I.ok.mod.kin.keeps I.bk
theorem Inv.fr (I:Inv X pins σ H s): ∃ m,Fr X.base X.env.locals s.heap m:=
 let ⟨m,hn,_⟩:=I.loc
 ⟨m,hn,I.bk,Nat.le_trans I.ok.bsz I.ok.above⟩
theorem Inv.lt (I:Inv X pins σ H s):X.env.locals < s.heap.objs.size:=let ⟨_,hn,_⟩:=I.loc;hn.lt
theorem Inv.sz (I:Inv X pins σ H s):X.s₀.heap.objs.size<=s.heap.objs.size:=Nat.le_trans I.ok.above (Nat.le_of_lt I.lt)
theorem Inv.nofs (I:Inv X pins σ H s) {a:Addr} (h:s.heap.objs.size<=a):a ∉ X.fs:=fun hb=>by
 obtain ⟨_,o,ho,_⟩:=I.ok.funs.mem hb
 exact absurd (Nat.lt_of_lt_of_le (Heap.lt_size ho) (Nat.le_trans I.sz h)) (Nat.lt_irrefl _)
theorem Inv.cne (I:Inv X pins σ H s): ∀ x c,X.env.cells.lookup x=some c->c≠X.env.locals:=fun x c e z=>by
 obtain ⟨v,o,ho,hd⟩:=I.cell x c e
 obtain ⟨m,⟨o',es,ep,ho',hd',_⟩,_⟩:=I.loc
 rw[z,ho'] at ho;cases ho;rw[hd'] at hd;cases hd
theorem Inv.funs (I:Inv X pins σ H s):s.heap.FunFrames X.base X.outer:=by
 have all: ∀ (l:List Env),(∀ b∈frs l,b∈X.fs)->X.s₀.heap.FunFrames X.base l->s.heap.FunFrames X.base l:=by
  intro l
  induction l with
  |nil=>intro _ _;trivial
  |cons env r ih=>
   intro hs hl
   obtain ⟨hk,⟨L,o,hf,hn,ho,hd⟩,hr⟩:=hl
   have hL:L∈X.fs:=hs L (by unfold frs;rw[List.filterMap_cons,hf];exact List.mem_cons_self)
   obtain ⟨sl,e⟩:=I.base.slot L o ho (I.ok.frf L hL) hL fun z=>I.ok.exfs L z hL
   exact ⟨hk,⟨L,_,hf,hn,e,hd⟩,ih (fun b hb=>hs b (by unfold frs;rw[List.filterMap_cons,hf];exact List.mem_cons_of_mem _ hb)) hr⟩
 exact all X.outer (fun _ hb=>hb) I.ok.funs
theorem Inv.stack (I:Inv X pins σ H s):s.heap.FunFrames X.base X.stack:=by
 rcases I.ok.stk with e | ⟨e,hf⟩
 ·rw[e];exact I.funs
 ·rw[e]
  obtain ⟨m,hn,_⟩:=I.loc
  refine .cons (by rw[I.ok.kind];decide) hf hn ?_ I.funs
  exact Heap.get?_none_of_le (Nat.le_trans I.ok.bsz I.ok.above)
theorem Inv.stkSub (I:Inv X pins σ H s): ∀ b∈frs X.stack,b∈X.env.locals :: X.fs:=fun b hb=>by
 rcases I.ok.stk with e | ⟨e,hf⟩
 ·rw[e] at hb;exact List.mem_cons_of_mem _ hb
 ·rw[e] at hb
  unfold frs at hb
  rw[List.filterMap_cons,hf] at hb
  exact hb
theorem Inv.stkFree (I:Inv X pins σ H s): ∀ b∈frs X.stack,H b=none:=fun b hb=>by
 rcases List.mem_cons.mp (I.stkSub b hb) with e | hb
 ·rw[e];exact I.free
 ·obtain ⟨_,o,ho,_⟩:=I.ok.funs.mem hb
  exact I.base.free b o ho (I.ok.frf b hb) fun z=>I.ok.exfs b z hb
theorem Inv.step {g':Array GenState} {t':Nat} {d':Drawn} {ch:List Addr} (I:Inv X pins σ H s)
  (hch: ∀ b∈ch,(b∈X.ex\/X.s₀.heap.objs.size<=b)/\b≠X.env.locals/\(∀ x c,X.env.cells.lookup x=some c->c≠b)/\ ∀ p∈X.pn ++ pins,p.1≠b)
  (keep: ∀ b o,b≠X.env.locals->b ∉ X.fs->b ∉ ch->s.heap.get? b=some o->H b=none->h'.get? b=some o)
  (slot: ∀ b o,b≠X.env.locals->b∈X.fs->b ∉ ch->s.heap.get? b=some o->H b=none-> ∃ sl,h'.get? b=some { o with slots:=sl }) (free: ∀ b o,b ∉ ch->s.heap.get? b=some o->H b=none->H' b=none)
  (there: ∀ b o,b ∉ ch->s.heap.get? b=some o-> ∃ o',h'.get? b=some o')
  (tups: ∀ b xs,H b=some (.tup xs)->H' b=some (.tup xs)) (frzs: ∀ b o u,H b=some (.frz o u)->H' b=some (.frz o u)) (tbls: ∀ b ps,H b=some (.tbl ps)-> ∃ more,H' b=some (.tbl (ps ++ more)))
  (ns: ∀ m,s.heap.Ns X.env.locals m->h'.Ns X.env.locals m) (hok:HOk X.prog X.w H' h') (hg:AllBare g'):
  Inv X pins σ H' { s with heap:=h',gens:=g',drawn:=d',toks:=t' }:=by
 have neL: ∀ b o,X.s₀.heap.get? b=some o->b≠X.env.locals:=fun b o e=>Nat.ne_of_lt (Nat.lt_of_lt_of_le (Heap.lt_size e) I.ok.above)
 have neC: ∀ b o,X.s₀.heap.get? b=some o->b ∉ X.ex->b ∉ ch:=fun b o e hx hb=>by
  rcases (hch b hb).1 with z | z
  ·exact hx z
  ·exact absurd (Nat.lt_of_lt_of_le (Heap.lt_size e) z) (Nat.lt_irrefl _)
 have cellK: ∀ x c,X.env.cells.lookup x=some c-> ∀ v,s.heap.IsCell c v->h'.IsCell c v:=fun x c e v ⟨o,ho,hd⟩=>by
  have nch:c ∉ ch:=fun z=>(hch c z).2.2.1 x c e rfl
  by_cases hc:c∈X.fs
  ·obtain ⟨sl,q⟩:=slot c o (I.cne x c e) hc nch ho (I.freeC x c e)
   exact ⟨_,q,hd⟩
  ·exact ⟨o,keep c o (I.cne x c e) hc nch ho (I.freeC x c e),hd⟩
 refine ⟨I.ok,I.os,hg,⟨fun b o e n hb hx=> ?_,fun b o e n hb hx=> ?_,fun b o e n hx=> ?_,fun b o e hx=> ?_,fun b xs e=>tups b xs (I.base.tups b xs e),fun b o xs e=>frzs b o xs (I.base.frzs b o xs e),fun b ps e=> ?_⟩,?_,fun x c e=> ?_,?_,fun x c e=> ?_,fun p hp=> ?_,hok,I.len,I.qd.mono frzs,I.fx⟩
 ·exact keep b o (neL b o e) hb (neC b o e hx) (I.base.keep b o e n hb hx) (I.base.free b o e n hx)
 ·obtain ⟨sl,e1⟩:=I.base.slot b o e n hb hx
  obtain ⟨sl',e2⟩:=slot b _ (neL b o e) hb (neC b o e hx) e1 (I.base.free b o e n hx)
  exact ⟨sl',e2⟩
 ·obtain ⟨o',e1⟩:=I.base.there b o e hx
  exact free b o' (neC b o e hx) e1 (I.base.free b o e n hx)
 ·obtain ⟨o',e1⟩:=I.base.there b o e hx
  exact there b o' (neC b o e hx) e1
 ·obtain ⟨m1,e1⟩:=I.base.tbls b ps e
  obtain ⟨m2,e2⟩:=tbls b _ e1
  exact ⟨m1 ++ m2,by rw[e2,Array.append_assoc]⟩
 ·obtain ⟨m,hn,hl⟩:=I.loc
  refine ⟨m,ns m hn,fun i x v e1 e2 e3=> ?_⟩
  obtain ⟨u,r,l⟩:=hl i x v e1 e2 e3
  refine ⟨u,r,?_⟩
  rcases l with l | ⟨k,c,e,z⟩
  ·exact .inl l
  ·exact .inr ⟨k,c,e,cellK x c e _ z⟩
 ·obtain ⟨v,z⟩:=I.cell x c e
  exact ⟨v,cellK x c e v z⟩
 ·obtain ⟨m,⟨o,_,_,ho,_⟩,_⟩:=I.loc
  exact free _ o (fun z=>(hch _ z).2.1 rfl) ho I.free
 ·obtain ⟨v,o,ho,hd⟩:=I.cell x c e
  exact free c o (fun z=>(hch c z).2.2.1 x c e rfl) ho (I.freeC x c e)
 ·obtain ⟨e,n,ne,nf,d⟩:=I.pin p hp
  have nch:p.1 ∉ ch:=fun z=>(hch p.1 z).2.2.2 p hp rfl
  exact ⟨keep p.1 p.2 ne nf nch e n,free p.1 p.2 nch e n,ne,nf,d⟩
theorem Inv.un {t':Nat} (I:Inv X pins σ H s) (u:Un X.fs [] H H' s.heap h') (hok:HOk X.prog X.w H' h'):Inv X pins σ H' { s with heap:=h',toks:=t' }:=by
 obtain ⟨m,⟨o,es,ep,ho,r⟩,_⟩:=id I.loc
 obtain ⟨sl,hL⟩:=u.any ho I.free (by simp)
 exact I.step (g':=s.gens) (d':=s.drawn) (ch:=[]) (fun _ z=>nomatch z) (fun b o _ hb _ e n=>u.keep b o e n hb (by simp)) (fun b o _ hb _ e n=>u.slot b o e n hb (by simp)) (fun b o _ e n=>u.free b o e n (by simp)) (fun b o _ e=>u.there b o e (by simp)) u.tups u.frzs u.tbls (fun m' hm=>by
  obtain ⟨o',es',ep',ho',r'⟩:=hm
  rw[ho] at ho';cases ho'
  exact ⟨_,es',ep',hL,r'⟩) hok I.bare
theorem Inv.call {g':Array GenState} {t':Nat} {d':Drawn} {ch:List Addr} (I:Inv X pins σ H s) (u:Un (frs X.stack) ch H H' s.heap h') (hok:HOk X.prog X.w H' h') (hg:AllBare g')
  (hch: ∀ b∈ch,(b∈X.ex\/X.s₀.heap.objs.size<=b)/\b≠X.env.locals/\(∀ x c,X.env.cells.lookup x=some c->c≠b)/\ ∀ p∈X.pn ++ pins,p.1≠b):
  Inv X pins σ H' { s with heap:=h',gens:=g',drawn:=d',toks:=t' }:=by
 obtain ⟨m,⟨o,es,ep,ho,r⟩,_⟩:=id I.loc
 obtain ⟨sl,hL⟩:=u.any ho I.free fun z=>(hch _ z).2.1 rfl
 exact I.step (ch:=ch) hch (fun b o hL hb hc e n=>u.keep b o e n (fun z=>(List.mem_cons.mp (I.stkSub b z)).elim hL hb) hc) (fun b o _ _ hc e n=>u.any e n hc) (fun b o hc e n=>u.free b o e n hc) (fun b o hc e=>u.there b o e hc) u.tups u.frzs u.tbls (fun m' hm=>by
  obtain ⟨o',es',ep',ho',r'⟩:=hm
  rw[ho] at ho';cases ho'
  exact ⟨_,es',ep',hL,r'⟩) hok hg
theorem Inv.turned {t':Nat} {it:Addr} (I:Inv X pins σ H s) (k: ∀ b o,b≠it->s.heap.get? b=some o->h'.get? b=some o) (hn:H it=none) (hL:it≠X.env.locals)
  (h1:it∈X.ex\/X.s₀.heap.objs.size<=it) (h2: ∀ x c,X.env.cells.lookup x=some c->c≠it) (h3: ∀ p∈X.pn ++ pins,p.1≠it):Inv X pins σ H { s with heap:=h',toks:=t' }:=by
 have nit: ∀ b u,H b=some u->b≠it:=fun b u e z=>by rw[z,hn] at e;cases e
 refine I.step (g':=s.gens) (d':=s.drawn) (ch:=[it]) (fun b hb=> ?_) (fun b o _ _ hc e _=>k b o (fun z=>hc (by simp[z])) e) (fun b o _ _ hc e _=>⟨o.slots,k b o (fun z=>hc (by simp[z])) e⟩) (fun _ _ _ _ n=>n)
  (fun b o hc e=>⟨o,k b o (fun z=>hc (by simp[z])) e⟩) (fun _ _ e=>e) (fun _ _ _ e=>e) (fun b ps e=>⟨#[],by rw[e];simp⟩) (fun m hm=> ?_) (fun b u e=> ?_) I.bare
 ·have e:b=it:=by simpa using hb
  subst e
  exact ⟨h1,hL,h2,h3⟩
 ·obtain ⟨o,es,ep,ho,r⟩:=hm
  exact ⟨o,es,ep,k _ o (Ne.symm hL) ho,r⟩
 ·refine (I.hok b u e).stay (fun c v hc q=>k c v ?_ q) (fun _ q=>q) fun _ _ q=>q
  rcases hc with z | z
  ·rw[z];exact nit b u e
  ·exact nit c _ z
theorem Inv.tok (I:Inv X pins σ H s) (t:Nat):Inv X pins σ H { s with toks:=t }:=I.un (h':=s.heap) (t':=t) Un.refl I.hok
theorem Inv.kept {t':Nat} (I:Inv X pins σ H s) (k: ∀ b u,s.heap.get? b=some u->h'.get? b=some u):Inv X pins σ H { s with heap:=h',toks:=t' }:=I.un (Un.kept k) (I.hok.kept k)
theorem Inv.laid {a:Addr} {o:HO} {t':Nat} (I:Inv X pins σ H s) (k: ∀ b u,s.heap.get? b=some u->h'.get? b=some u) (hp:s.heap.objs.size<=a) (new:Za6 X.prog X.w (upd H a o) h' a o):
  Inv X pins σ (upd H a o) { s with heap:=h',toks:=t' }:=I.un (Un.laid k hp (I.hok.fresh hp)) (I.hok.laid k hp new)
theorem Inv.write {x e:Addr} {o:HO} {t':Nat} (I:Inv X pins σ H s) (mu:Mut (H x)) (he:e=x\/H e=some (.own x)) (k: ∀ b u,b≠e->s.heap.get? b=some u->h'.get? b=some u) (heo: ∃ u,h'.get? e=some u)
  (new:Za6 X.prog X.w (upd H x o) h' x o):Inv X pins σ (upd H x o) { s with heap:=h',toks:=t' }:=I.un (Un.write mu he k heo) (I.hok.write mu he k heo new)
theorem Inv.pins_of {pins':List (Addr × Obj)} (I:Inv X pins σ H s) (h: ∀ p∈pins',s.heap.get? p.1=some p.2/\H p.1=none/\p.1≠X.env.locals/\p.1 ∉ X.fs/\ ∀ v,p.2.data≠ .cell v):Inv X pins' σ H s:=
 ⟨I.ok,I.os,I.bare,I.base,I.loc,I.cell,I.free,I.freeC,fun p hp=>(List.mem_append.mp hp).elim (fun z=>I.pin p (List.mem_append_left _ z)) (h p),I.hok,I.len,I.qd,I.fx⟩
theorem Zgu {N:List Str} (hN:N.Nodup) {i j:Nat} {x:Str} (a:N[i]?=some x) (b:N[j]?=some x):i=j:=by
 obtain ⟨h1,e1⟩:=List.getElem?_eq_some_iff.mp a
 obtain ⟨h2,e2⟩:=List.getElem?_eq_some_iff.mp b
 exact (List.getElem_inj hN).mp (e1.trans e2.symm)
theorem ZeH {M:Model} {A:Around} {E:Value->Shared->Prop} {i:Nat} {x:Str} {v:V} {u:Value} {Q:Unit->Shared->Prop} (I:Inv X pins σ H s) (hN:X.N.Nodup) (hi:X.N[i]?=some x) (hx:Loc X.env.scope x) (hm:X.may i=true) (r:Z9 v u)
  (h: ∀ s',Inv X pins (σ.set i (some v)) H s'->(∃ a,Heap.SameBut a s.heap s'.heap/\(a=X.env.locals\/X.env.cells.lookup x=some a))->Q () s') (hf:X.fn x=true\/X.env.scope.names.lookup x=some .local:=by first | exact .inl rfl | exact .inr rfl | assumption):wpAny M A (storeName X.env x u) Q E s:=by
 obtain ⟨m,hn,hl⟩:=id I.loc
 have hcls:(X.env.scope.kind == .class || (X.env.scope.kind == .module && X.env.locals != X.env.globals))=false:=by rw[I.ok.kind];rfl
 have hiσ:i < σ.length:=by rw[I.len];exact (List.getElem?_eq_some_iff.mp hi).1
 have cne:=I.cne
 have tracked: ∀ {a:Addr} {h':Heap},(∃ o,s.heap.get? a=some o/\H a=none)->Heap.SameBut a s.heap h'->HOk X.prog X.w H h':=fun {a h'} ha hs b ob e=>by
  obtain ⟨_,_,hfree⟩:=ha
  refine (I.hok b ob e).stay (fun c w' hc q=>(hs.2 c ?_).trans q) (fun _ q=>q) fun _ _ q=>q
  rintro rfl
  rcases hc with rfl | hc
  ·rw[hfree] at e;cases e
  ·rw[hfree] at hc;cases hc
 rcases hx with hk | hk
 ·refine wpAny_storeName_local hk hn (fun h' hn' hs=> ?_) hcls
  obtain ⟨oL,_,_,hoL,_⟩:=id hn
  refine h _ ⟨I.ok,I.os,I.bare,⟨fun b o e n hb hx=> ?_,fun b o e n hb hx=> ?_,I.base.free,fun b o e hx=> ?_,I.base.tups,I.base.frzs,I.base.tbls⟩,⟨_,hn',fun j y v' e1 e2 e3=> ?_⟩,fun y c e=> ?_,I.free,I.freeC,fun p hp=> ?_,tracked ⟨oL,hoL,I.free⟩ hs,by simpa using I.len,I.qd,I.fx.set hm⟩ ⟨_,hs,.inl rfl⟩
  ·exact (hs.2 b (Nat.ne_of_lt (Nat.lt_of_lt_of_le (Heap.lt_size e) I.ok.above))).trans (I.base.keep b o e n hb hx)
  ·obtain ⟨sl,e1⟩:=I.base.slot b o e n hb hx
   exact ⟨sl,(hs.2 b (Nat.ne_of_lt (Nat.lt_of_lt_of_le (Heap.lt_size e) I.ok.above))).trans e1⟩
  ·obtain ⟨o',e1⟩:=I.base.there b o e hx
   exact ⟨o',(hs.2 b (Nat.ne_of_lt (Nat.lt_of_lt_of_le (Heap.lt_size e) I.ok.above))).trans e1⟩
  ·by_cases hj:j=i
   ·subst hj
    rw[hi] at e1;cases e1
    rw[List.getElem?_set_self hiσ] at e2
    cases e2
    exact ⟨u,r,.inl ⟨hk,by simp⟩⟩
   ·rw[List.getElem?_set_ne (Ne.symm hj)] at e2
    obtain ⟨u',r',q⟩:=hl j y v' e1 e2 e3
    refine ⟨u',r',?_⟩
    rcases q with ⟨k,e⟩ | ⟨k,c,e,z⟩
    ·refine .inl ⟨k,?_⟩
     have:y≠x:=fun e=>hj (Zgu hN e1 (e ▸ hi))
     simp[this,e]
    ·exact .inr ⟨k,c,e,z.sameBut hs (cne y c e)⟩
  ·obtain ⟨w',z⟩:=I.cell y c e
   exact ⟨w',z.sameBut hs (cne y c e)⟩
  ·obtain ⟨e,n,ne,nf,d⟩:=I.pin p hp
   exact ⟨(hs.2 p.1 ne).trans e,n,ne,nf,d⟩
 ·have hfn:X.fn x=true:=by
   rcases hf with z | z
   ·exact z
   ·rw[z] at hk;cases hk
  obtain ⟨c,hc⟩:=I.ok.has x (.inl hk)
  obtain ⟨w',z⟩:=I.cell x c hc
  refine wpAny_storeName_cell I.ok.kind hk hc z (fun h' hc' hs=> ?_)
  obtain ⟨oc,hoc,hocd⟩:=id z
  refine h { s with heap:=h' } ⟨I.ok,I.os,I.bare,⟨fun b o e n hb hx=> ?_,fun b o e n hb hx=> ?_,I.base.free,fun b o e hx=> ?_,I.base.tups,I.base.frzs,I.base.tbls⟩,⟨m,hn.sameBut hs (Ne.symm (cne x c hc)),fun j y v' e1 e2 e3=> ?_⟩,fun y c' e=> ?_,I.free,I.freeC,fun p hp=> ?_,tracked ⟨oc,hoc,I.freeC x c hc⟩ hs,by simpa using I.len,I.qd,I.fx.set hm⟩ ⟨c,hs,.inr hc⟩
  ·exact (hs.2 b (Nat.ne_of_lt (Nat.lt_of_lt_of_le (Heap.lt_size e) (I.ok.cab x c hfn hc)))).trans (I.base.keep b o e n hb hx)
  ·obtain ⟨sl,e1⟩:=I.base.slot b o e n hb hx
   exact ⟨sl,(hs.2 b (Nat.ne_of_lt (Nat.lt_of_lt_of_le (Heap.lt_size e) (I.ok.cab x c hfn hc)))).trans e1⟩
  ·obtain ⟨o',e1⟩:=I.base.there b o e hx
   exact ⟨o',(hs.2 b (Nat.ne_of_lt (Nat.lt_of_lt_of_le (Heap.lt_size e) (I.ok.cab x c hfn hc)))).trans e1⟩
  ·by_cases hj:j=i
   ·subst hj
    rw[hi] at e1;cases e1
    rw[List.getElem?_set_self hiσ] at e2
    cases e2
    exact ⟨u,r,.inr ⟨.inl hk,c,hc,hc'⟩⟩
   ·rw[List.getElem?_set_ne (Ne.symm hj)] at e2
    obtain ⟨u',r',q⟩:=hl j y v' e1 e2 e3
    refine ⟨u',r',?_⟩
    rcases q with q | ⟨k,c',e,z'⟩
    ·exact .inl q
    ·refine .inr ⟨k,c',e,z'.sameBut hs ?_⟩
     rintro rfl
     exact hj (Zgu hN e1 (I.ok.inj _ _ _ e hc ▸ hi))
  ·by_cases hcc:c'=c
   ·subst hcc;exact ⟨_,hc'⟩
   ·obtain ⟨w2,z2⟩:=I.cell y c' e
    exact ⟨w2,z2.sameBut hs hcc⟩
  ·obtain ⟨e,n,ne,nf,d⟩:=I.pin p hp
   refine ⟨(hs.2 p.1 ?_).trans e,n,ne,nf,d⟩
   intro q
   rw[q,hoc] at e
   have q':oc=p.2:=Option.some.inj e
   exact d w' (by rw[<- q'];exact hocd)
theorem Zcl {M:Model} {A:Around} {E:Value->Shared->Prop} {i:Nat} {x:Str} {v:V} {u:Value} {Q:Unit->Shared->Prop} (I:Inv X pins σ H s) (hN:X.N.Nodup) (hi:X.N[i]?=some x) (hx:Loc X.env.scope x) (hm:X.may i=true) (r:Z9 v u)
  (h: ∀ s',Inv X pins (σ.set i (some v)) H s'->Q () s') (hf:X.fn x=true\/X.env.scope.names.lookup x=some .local:=by first | exact .inl rfl | exact .inr rfl | assumption):wpAny M A (storeName X.env x u) Q E s:=
 ZeH I hN hi hx hm r (fun s' I' _=>h s' I') hf
theorem Inv.call' {s':Shared} {ch:List Addr} (I:Inv X pins σ H s) (ho:s'.os=s.os) (u:Un (frs X.stack) ch H H' s.heap s'.heap) (hok:HOk X.prog X.w H' s'.heap) (hg:AllBare s'.gens)
  (hch: ∀ b∈ch,(b∈X.ex\/X.s₀.heap.objs.size<=b)/\b≠X.env.locals/\(∀ x c,X.env.cells.lookup x=some c->c≠b)/\ ∀ p∈X.pn ++ pins,p.1≠b):Inv X pins σ H' s':=by
 obtain ⟨h',g',d',t',o'⟩:=s'
 have e:o'=s.os:=ho
 subst e
 exact I.call (g':=g') (t':=t') (d':=d') u hok hg hch
end
noncomputable abbrev XK:=Value->Option Addr->Hp->Prop
noncomputable abbrev St:=List (Option V)
noncomputable abbrev VK:=V->Hp->Prop
noncomputable abbrev TE:=St->Hp->VK->Prop
noncomputable abbrev TT:=St->Hp->(Bool->Hp->Prop)->Prop
noncomputable abbrev TA:=St->Hp->(List V->Hp->Prop)->Prop
structure Ends where
 nx:St->Hp->Prop
 rt:VK
 bk:St->Hp->Prop:=fun _ _=>False
 ct:St->Hp->Prop:=fun _ _=>False
noncomputable abbrev TS:=Ends->St->Hp->Prop
noncomputable def EP (X:Cx) (pins:List (Addr × Obj)) (σ:St) (Q:VK) (u:Value) (s':Shared):Prop:= ∃ v H',Inv X pins σ H' s'/\Z9 v u/\Q v H'
noncomputable def TP (X:Cx) (pins:List (Addr × Obj)) (σ:St) (Q:Bool->Hp->Prop) (b:Bool) (s':Shared):Prop:= ∃ H',Inv X pins σ H' s'/\Q b H'
noncomputable def AP (X:Cx) (pins:List (Addr × Obj)) (σ:St) (Q:List V->Hp->Prop) (us:List Value) (s':Shared):Prop:= ∃ vs H',Inv X pins σ H' s'/\Z2 vs us/\Q vs H'
noncomputable def SP (X:Cx) (pins:List (Addr × Obj)) (D:Ends) (f:Flow) (s':Shared):Prop:=
 match f with
 | .next=> ∃ σ' H',Inv X pins σ' H' s'/\D.nx σ' H'
 | .brk=> ∃ σ' H',Inv X pins σ' H' s'/\D.bk σ' H'
 | .cont=> ∃ σ' H',Inv X pins σ' H' s'/\D.ct σ' H'
 | .ret u=> ∃ v σ' H',Inv X pins σ' H' s'/\Z9 v u/\D.rt v H'
noncomputable def PE (X:Cx) (e:Expr) (t:TE):Prop:=
 ∀ (pins:List (Addr × Obj)) (s:Shared) (σ:St) (H:Hp) (Q:VK),Inv X pins σ H s->t σ H Q->wpAny (model X.prog X.w) X.A (eval e X.env) (EP X pins σ Q) X.xe s
noncomputable def PT (X:Cx) (e:Expr) (t:TT):Prop:=
 ∀ (pins:List (Addr × Obj)) (s:Shared) (σ:St) (H:Hp) (Q:Bool->Hp->Prop),Inv X pins σ H s->t σ H Q->wpAny (model X.prog X.w) X.A (isTrue e X.env (eval e X.env)) (TP X pins σ Q) X.xe s
noncomputable def PW (X:Cx) (e:Expr) (t:TT):Prop:=
 ∀ (whole:Sem Value) (pins:List (Addr × Obj)) (s:Shared) (σ:St) (H:Hp) (Q:Bool->Hp->Prop),Inv X pins σ H s->t σ H Q->wpAny (model X.prog X.w) X.A (isTrue e X.env whole) (TP X pins σ Q) X.xe s
theorem PW.pt {X:Cx} {e:Expr} {t:TT} (h:PW X e t):PT X e t:=h _
noncomputable def PA (X:Cx) (es:List Expr) (t:TA):Prop:=
 ∀ (pos:Pos) (pins:List (Addr × Obj)) (s:Shared) (σ:St) (H:Hp) (Q:List V->Hp->Prop),Inv X pins σ H s->t σ H Q->wpAny (model X.prog X.w) X.A (spliced (backTo pos (starEach es X.env))) (AP X pins σ Q) X.xe s
noncomputable def PS (X:Cx) (st:Stmt) (t:TS):Prop:=
 ∀ (pins:List (Addr × Obj)) (s:Shared) (σ:St) (H:Hp) (D:Ends),Inv X pins σ H s->t D σ H->wpAny (model X.prog X.w) X.A (exec st X.env) (SP X pins D) X.xe s
noncomputable def PSs (X:Cx) (st:List Stmt) (t:TS):Prop:=
 ∀ (pins:List (Addr × Obj)) (s:Shared) (σ:St) (H:Hp) (D:Ends),Inv X pins σ H s->t D σ H->wpAny (model X.prog X.w) X.A (execs st X.env) (SP X pins D) X.xe s
theorem thn {α:Type} {t:Sem α} {Q Q':α->Shared->Prop} {M:Model} {A:Around} {E:Value->Shared->Prop} {s:Shared} (h:wpAny M A t Q E s) (hQ: ∀ a s,Q a s->Q' a s):wpAny M A t Q' E s:=wpAny_mono h hQ fun _ _ x=>x
end L2
namespace L2
open PySem PySem.Spec PyProof.Rows
section
variable {X:Cx}
theorem bin {a b:Expr} {ta tb:TE} (ha:PE X a ta) (hb:PE X b tb) {pins:List (Addr × Obj)} {s:Shared} {σ:St} {H:Hp} {R:V->V->Hp->Prop} (I:Inv X pins σ H s) (h:ta σ H fun x H1=>tb σ H1 fun y H2=>R x y H2)
  {α:Type} {Q:α->Shared->Prop} {f:Value->Value->Sem α}
  (hf: ∀ v u s2 x y H2,Inv X pins σ H2 s2->Z9 x v->Z9 y u->R x y H2->wpAny (model X.prog X.w) X.A (f v u) Q X.xe s2):
  wpAny (model X.prog X.w) X.A (eval a X.env) (fun v s₁=>wpAny (model X.prog X.w) X.A (eval b X.env) (fun u s₂=>wpAny (model X.prog X.w) X.A (f v u) Q X.xe s₂) X.xe s₁) X.xe s:=by
 refine thn (ha pins s σ H _ I h) fun v s1 ⟨x,H1,I1,r1,q1⟩=> ?_
 refine thn (hb pins s1 σ H1 _ I1 q1) fun u s2 ⟨y,H2,I2,r2,q2⟩=> ?_
 exact hf v u s2 x y H2 I2 r1 r2 q2
noncomputable def Zsx (i:Nat):TE:=fun σ H Q=> ∃ v,σ[i]?=some (some v)/\Q v H
noncomputable def tC (v:V):TE:=fun _ H Q=>Q v H
theorem ZhC {i:Nat} {x:Str} {pos:Pos} (hN:X.N[i]?=some x) (hv:Vis X.env.scope x) (hd:(x == ("__debug__":Str))=false:=by decide) (hcd:(x == ("__classdict__":Str))=false:=by decide):PE X (.Name x pos) (Zsx i):=by
 intro pins s σ H Q I h
 obtain ⟨v,e,h⟩:=h
 obtain ⟨m,hn,hl⟩:=I.loc
 obtain ⟨u,r,l⟩:=hl i x v hN e hv
 have fin:EP X pins σ Q u s:=⟨v,H,I,r,h⟩
 rcases l with ⟨hk,hm⟩ | ⟨hk,c,hc,hcell⟩
 ·exact wpAny_Name (wpAny_loadName_local I.ok.kind hk hn hm fin) hd
 ·rcases hk with hk | hk
  ·exact wpAny_Name (wpAny_loadName_cell I.ok.kind hk hc hcell fin) hd
  ·exact wpAny_Name (wpAny_loadName_free I.ok.kind hk hc hcell fin hcd) hd
theorem Znz {i j pos}:PE X (.Constant (.int i) j pos) (tC (.int i)):=fun _ _ _ H _ I h=>wpAny_Constant_int ⟨.int i,H,I.tok _,⟨_,rfl⟩,h⟩
theorem Zqu {b j pos}:PE X (.Constant (.bool b) j pos) (tC (.bl b)):=fun _ _ _ H _ I h=>Constant_bool ⟨.bl b,H,I,rfl,h⟩
theorem ZnA {j pos}:PE X (.Constant .none j pos) (tC .non):=fun _ _ _ H _ I h=>Constant_none ⟨.non,H,I,rfl,h⟩
theorem ZkI {x j pos}:PE X (.Constant (.str x) j pos) (tC (.str x)):=fun _ _ _ H _ I h=>Calls.Constant_str ⟨.str x,H,I.tok _,⟨_,rfl⟩,h⟩
noncomputable def Gl (X:Cx) (x:Str):Prop:=X.env.kindOf x=some .globalImplicit
theorem ZfI {E:Value->Shared->Prop} {pins:List (Addr × Obj)} {s:Shared} {σ:St} {H:Hp} {x:Str} {u:Value} {pos:Pos} {Q:Value->Shared->Prop} (I:Inv X pins σ H s) (hg:Gl X x) (hm:X.mg x=some u) (h:Q u s)
  (hd:(x == ("__debug__":Str))=false:=by decide):wpAny (model X.prog X.w) X.A (eval (.Name x pos) X.env) Q E s:=
 Calls.Name_function_global I.ok.kind hg (Calls.loadGlobal_global (by rw[I.ok.glob];exact I.mod.glob.keeps I.bk) hm h) hd
theorem Zcm {E:Value->Shared->Prop} {pins:List (Addr × Obj)} {s:Shared} {σ:St} {H:Hp} {x:Str} {u:Value} {pos:Pos} {Q:Value->Shared->Prop} (I:Inv X pins σ H s) (hg:Gl X x) (hm:X.mg x=none) (hv:bootBuiltins x=some u) (h:Q u s)
  (hn:x≠"__name__":=by decide) (hd:(x == ("__debug__":Str))=false:=by decide):wpAny (model X.prog X.w) X.A (eval (.Name x pos) X.env) Q E s:=by
 obtain ⟨mb,h1,h2⟩:=I.mod.blt
 exact Calls.Name_function_global I.ok.kind hg (Calls.loadGlobal_builtin (by rw[I.ok.glob];exact I.mod.glob.keeps I.bk) hm (by rw[I.ok.blt];exact h1.keeps I.bk) ((h2 x hn).trans hv) h) hd
theorem ZhD {x:Str} {v:V} {u:Value} {pos:Pos} (hg:Gl X x) (hm:X.mg x=some u) (r:Z9 v u) (hd:(x == ("__debug__":Str))=false:=by decide):PE X (.Name x pos) (tC v):=
 fun _ _ _ H _ I h=>ZfI I hg hm ⟨v,H,I,r,h⟩ hd
theorem ZhE {x:Str} {v:V} {u:Value} {pos:Pos} (hg:Gl X x) (hm:X.mg x=none) (hv:bootBuiltins x=some u) (r:Z9 v u) (hn:x≠"__name__":=by decide) (hd:(x == ("__debug__":Str))=false:=by decide):PE X (.Name x pos) (tC v):=
 fun _ _ _ H _ I h=>Zcm I hg hm hv ⟨v,H,I,r,h⟩ hn hd
variable {a b:Expr} {ta tb:TE} {pos:Pos}
noncomputable def PC (X:Cx) (op:CmpOp) (a b:Expr) (t:TE):Prop:=
 ∀ (pins:List (Addr × Obj)) (s:Shared) (σ:St) (H:Hp) (Q:VK),Inv X pins σ H s->t σ H Q->
  wpAny (model X.prog X.w) X.A (eval a X.env) (fun v s₁=>wpAny (model X.prog X.w) X.A (eval b X.env) (fun u s₂=>wpAny (model X.prog X.w) X.A (compareOp op v u) (EP X pins σ Q) X.xe s₂) X.xe s₁) X.xe s
theorem Zjq (b:Expr) {op:CmpOp} (h:op≠ .In) (h2:op≠ .NotIn):behindInMarks op b=false:=by
 have e1:(op == CmpOp.In)=false:=by cases op<;>first | rfl | exact absurd rfl h
 have e2:(op == CmpOp.NotIn)=false:=by cases op<;>first | rfl | exact absurd rfl h2
 cases b<;>simp[behindInMarks,e1,e2]
noncomputable def tB (t:TE):TT:=fun σ H Q=>t σ H fun x H1=> ∃ c,x= .bl c/\Q c H1
theorem Zsy {op:CmpOp} {t:TE} (h:PC X op a b t) (h1:behindInMarks op b=false:=by first | exact Zjq _ (by decide) (by decide) | rfl):PT X (.Compare a [op] [b] pos) (tB t):=by
 intro pins s σ H Q I hw
 refine wpAny_isTrue_Compare1 (thn (h pins s σ H _ I hw) fun v s1 h1=>thn h1 fun u s2 h2=>thn h2 fun c s3 ⟨x,H1,I1,r1,q1⟩=> ?_) h1
 obtain ⟨d,rfl,q⟩:=q1
 cases r1
 exact wpAny_truthy_bool ⟨H1,I1,q⟩
theorem ZnB {e:Expr} {t:TE} (h:PE X e t) (he: ∀ whole,isTrue e X.env whole=(do let v <- whole;standAt e.pos;holding [v] (truthy v)):=by intro _;rfl):PT X e (tB t):=by
 intro pins s σ H Q I hw
 refine isTrue_plain (thn (h pins s σ H _ I hw) fun v s1 ⟨x,H1,I1,r1,q1⟩=> ?_) (he _)
 obtain ⟨d,rfl,q⟩:=q1
 cases r1
 exact wpAny_truthy_bool ⟨H1,I1,q⟩
variable {tA tB':TT} {rest:List Expr}
noncomputable def Ztx (t u:TT):TT:=fun σ H Q=>t σ H fun c H1=>if c=true then u σ H1 Q else Q false H1
noncomputable def tOr (t u:TT):TT:=fun σ H Q=>t σ H fun c H1=>if c=true then Q true H1 else u σ H1 Q
noncomputable def Zty (t:TT):TT:=fun σ H Q=>t σ H fun c H1=>Q (!c) H1
theorem pw_and1 (ha:PT X a tA):PW X (.BoolOp .And [a] pos) tA:=by
 intro wh pins s σ H Q I h
 refine isTrue_and (thn (ha pins s σ H Q I h) fun c s1 e=> ?_)
 cases c with
 |true=>exact isTrue_and_nil e
 |false=>exact e
theorem pw_or1 (ha:PT X a tA):PW X (.BoolOp .Or [a] pos) tA:=by
 intro wh pins s σ H Q I h
 refine isTrue_or (thn (ha pins s σ H Q I h) fun c s1 e=> ?_)
 cases c with
 |false=>exact isTrue_or_nil e
 |true=>exact e
theorem pw_and (ha:PT X a tA) (hb:PW X (.BoolOp .And (b :: rest) pos) tB'):PW X (.BoolOp .And (a :: b :: rest) pos) (Ztx tA tB'):=by
 intro wh pins s σ H Q I h
 refine isTrue_and (thn (ha pins s σ H _ I h) fun c s1 ⟨H1,I1,q1⟩=> ?_)
 cases c with
 |true=>exact hb wh pins s1 σ H1 Q I1 q1
 |false=>exact ⟨H1,I1,q1⟩
theorem pw_or (ha:PT X a tA) (hb:PW X (.BoolOp .Or (b :: rest) pos) tB'):PW X (.BoolOp .Or (a :: b :: rest) pos) (tOr tA tB'):=by
 intro wh pins s σ H Q I h
 refine isTrue_or (thn (ha pins s σ H _ I h) fun c s1 ⟨H1,I1,q1⟩=> ?_)
 cases c with
 |true=>exact ⟨H1,I1,q1⟩
 |false=>exact hb wh pins s1 σ H1 Q I1 q1
theorem ZnC (ha:PT X a tA):PT X (.UnaryOp .Not a pos) (Zty tA):=by
 intro pins s σ H Q I h
 exact isTrue_not (ha pins s σ H (fun c H1=>Q (!c) H1) I h)
noncomputable def Zqv (ta tb:TE):TE:=fun σ H Q=>ta σ H fun x H1=> ∃ c,x= .bl c/\if c=true then tb σ H1 Q else Q (.bl false) H1
noncomputable def Ztz (ta tb:TE):TE:=fun σ H Q=>ta σ H fun x H1=> ∃ c,x= .bl c/\if c=true then Q (.bl true) H1 else tb σ H1 Q
noncomputable def Zqw (ta:TE):TE:=fun σ H Q=>ta σ H fun x H1=> ∃ c,x= .bl c/\Q (.bl (!c)) H1
theorem ZnD {op} {t:TE} (h:PE X a t):PE X (.BoolOp op [a] pos) t:=fun pins s σ H Q I hw=>BoolOp_one (h pins s σ H Q I hw)
theorem ZnE (ha:PE X a ta) (hb:PE X (.BoolOp .And (b :: rest) pos) tb):PE X (.BoolOp .And (a :: b :: rest) pos) (Zqv ta tb):=by
 intro pins s σ H Q I h
 refine BoolOp_and (thn (ha pins s σ H _ I h) fun v s1 ⟨x,H1,I1,r1,q1⟩=> ?_)
 obtain ⟨c,rfl,q1⟩:=q1
 cases r1
 refine wpAny_truthy_bool ?_
 cases c with
 |true=>exact hb pins s1 σ H1 Q I1 q1
 |false=>exact ⟨.bl false,H1,I1,rfl,q1⟩
theorem Zqx (ha:PE X a ta) (hb:PE X (.BoolOp .Or (b :: rest) pos) tb):PE X (.BoolOp .Or (a :: b :: rest) pos) (Ztz ta tb):=by
 intro pins s σ H Q I h
 refine BoolOp_or (thn (ha pins s σ H _ I h) fun v s1 ⟨x,H1,I1,r1,q1⟩=> ?_)
 obtain ⟨c,rfl,q1⟩:=q1
 cases r1
 refine wpAny_truthy_bool ?_
 cases c with
 |false=>exact hb pins s1 σ H1 Q I1 q1
 |true=>exact ⟨.bl true,H1,I1,rfl,q1⟩
theorem ZnF (ha:PE X a ta):PE X (.UnaryOp .Not a pos) (Zqw ta):=by
 intro pins s σ H Q I h
 refine UnaryOp_ (thn (ha pins s σ H _ I h) fun v s1 ⟨x,H1,I1,r1,q1⟩=> ?_)
 obtain ⟨c,rfl,q1⟩:=q1
 cases r1
 exact not_of (wpAny_truthy_bool ⟨.bl (!c),H1,I1,rfl,q1⟩)
end
end L2
namespace L2
open PySem PySem.Spec PyProof.Rows
noncomputable def SqL (K:PySem.W.Frag) (H:Hp) (a:Addr) (xs:List V):Prop:=
 Rd H a (.lst xs)\/
  ∃ (o:Obj) (its:Array Value) (n:Nat),K.lookup a=some o/\o.cls= .type "list"/\o.dict=none/\o.data= .seq its n/\its.size<=sizeLine/\Z2 xs its.toList
noncomputable def SqT (K:PySem.W.Frag) (H:Hp) (a:Addr) (xs:List V):Prop:=
 Rd H a (.tup xs)\/
  ∃ (o:Obj) (its:Array Value) (n:Nat),K.lookup a=some o/\o.cls= .type "tuple"/\o.data= .seq its n/\its.size<=sizeLine/\Z2 xs its.toList
noncomputable def ZtA:Value->Option V
 | .none=>some .non
 | .bool b=>some (.bl b)
 | .int i _=>some (.int i)
 | .str x _=>some (.str x)
 | .bytes b _=>some (.byt b)
 | .float b _=>some (.flt b)
 | .ref a=>some (.ref a)
 | .type n=>some (.ty n)
 |_=>none
theorem Z9.abs {x:V} {u:Value} (r:Z9 x u):ZtA u=some x:=by
 cases x with
 |non=>cases r;rfl
 |bl _=>cases r;rfl
 |int _=>obtain ⟨t,rfl⟩:=r;rfl
 |str _=>obtain ⟨t,rfl⟩:=r;rfl
 |byt _=>obtain ⟨t,rfl⟩:=r;rfl
 |flt _=>obtain ⟨t,rfl⟩:=r;rfl
 |ref _=>cases r;rfl
 |ty _=>cases r;rfl
theorem Z9.inj {x y:V} {u:Value} (r:Z9 x u) (q:Z9 y u):x=y:=Option.some.inj (r.abs.symm.trans q.abs)
theorem Z2.inj: ∀ {xs ys:List V} {us:List Value},Z2 xs us->Z2 ys us->xs=ys
 |_,_,_,.nil,.nil=>rfl
 |_,_,_,.cons r t,.cons r' t'=>by rw[r.inj r',Z2.inj t t']
section
variable {X:Cx} {pins:List (Addr × Obj)} {σ:St} {H:Hp} {s:Shared} {a:Addr} {xs ys:List V}
theorem SqL.of {K:PySem.W.Frag} (h:H a=some (.lst xs)):SqL K H a xs:= .inl (.inl h)
theorem SqT.of {K:PySem.W.Frag} (h:H a=some (.tup xs)):SqT K H a xs:= .inl (.inl h)
theorem Inv.list (I:Inv X pins σ H s) (h:SqL X.K H a xs): ∃ its:List Value,Z2 xs its/\PlainL s.heap a its.toArray/\xs.length<=sizeLine:=by
 rcases h with h | ⟨o,its,n,hk,hc,hd,hs,hz,r⟩
 ·obtain ⟨z,its,n,r,e⟩:=h.ok I.hok
  exact ⟨its,r,⟨_,n,e,rfl,rfl,rfl⟩,z⟩
 ·refine ⟨its.toList,r,⟨o,n,I.kIn a o hk,hc,hd,by simpa using hs⟩,?_⟩
  have e:=r.length
  simp only[Array.length_toList] at e
  omega
theorem Inv.tuple (I:Inv X pins σ H s) (h:SqT X.K H a xs): ∃ its:List Value,Z2 xs its/\IsTup s.heap a its.toArray/\xs.length<=sizeLine:=by
 rcases h with h | ⟨o,its,n,hk,hc,hs,hz,r⟩
 ·obtain ⟨z,its,r,p⟩:=h.ok I.hok
  exact ⟨its,r,p,z⟩
 ·refine ⟨its.toList,r,⟨o,I.kIn a o hk,hc,n,by simpa using hs⟩,?_⟩
  have e:=r.length
  simp only[Array.length_toList] at e
  omega
theorem Inv.list_inj (I:Inv X pins σ H s) (h:SqL X.K H a xs) (h':SqL X.K H a ys):xs=ys:=by
 obtain ⟨its,r,⟨o,n,e,_,_,d⟩,_⟩:=I.list h
 obtain ⟨its',r',⟨o',n',e',_,_,d'⟩,_⟩:=I.list h'
 rw[e] at e';cases e'
 rw[d] at d'
 injection d' with d1 _
 have:its=its':=by simpa using congrArg Array.toList d1
 subst this
 exact r.inj r'
theorem Inv.tuple_inj (I:Inv X pins σ H s) (h:SqT X.K H a xs) (h':SqT X.K H a ys):xs=ys:=by
 obtain ⟨its,r,⟨o,e,_,n,d⟩,_⟩:=I.tuple h
 obtain ⟨its',r',⟨o',e',_,n',d'⟩,_⟩:=I.tuple h'
 rw[e] at e';cases e'
 rw[d] at d'
 injection d' with d1 _
 have:its=its':=by simpa using congrArg Array.toList d1
 subst this
 exact r.inj r'
end
section
variable {X:Cx} {pins:List (Addr × Obj)} {σ:St} {H:Hp} {s:Shared} {E:Value->Shared->Prop}
end
section
variable {X:Cx} {st:Stmt} {rest:List Stmt} {t u:TS} {e:Expr} {te:TE} {pos:Pos}
noncomputable def tNext:TS:=fun D σ H=>D.nx σ H
noncomputable def ZtB (t u:TS):TS:=fun D σ H=>t { D with nx:=u D } σ H
theorem Zlt:PSs X [] tNext:=fun _ _ σ H _ I h=>wpAny_execs_nil ⟨σ,H,I,h⟩
theorem Zjr (h1:PS X st t) (h2:PSs X rest u):PSs X (st :: rest) (ZtB t u):=by
 intro pins s σ H D I h
 refine wpAny_execs_cons (thn (h1 pins s σ H { D with nx:=u D } I h) fun f s1 q=> ?_)
 cases f with
 |next=>
  obtain ⟨σ',H',I',q⟩:=q
  exact h2 pins s1 σ' H' D I' q
 |ret v=>exact q
 |brk=>exact q
 |cont=>exact q
theorem Zlu (h1:PS X st t):PSs X [st] t:=by
 intro pins s σ H D I h
 refine wpAny_execs_cons (thn (h1 pins s σ H D I h) fun f s1 q=> ?_)
 cases f with
 |next=>exact wpAny_execs_nil q
 |ret v=>exact q
 |brk=>exact q
 |cont=>exact q
noncomputable def tBreak:TS:=fun D σ H=>D.bk σ H
theorem Zjs:PS X (.Break pos) tBreak:=fun _ _ σ H _ I h=>wpAny_Break ⟨σ,H,I,h⟩
theorem Inv.quiet {pins:List (Addr × Obj)} {σ:St} {H:Hp} {s:Shared} (I:Inv X pins σ H s):interactive X.env=false:=by simp[interactive,I.ok.kind]
noncomputable def Zqy (te:TE):TS:=fun D σ H=>te σ H fun _ H1=>D.nx σ H1
theorem Zlv (he:PE X e te) (hs:swapsWith e none pos.line X.env=pure false:=by rfl):PS X (.Expr e pos) (Zqy te):=by
 intro pins s σ H D I h
 exact wpAny_Expr_any (thn (he pins s σ H _ I h) fun v s1 ⟨x,H1,I1,r1,q1⟩=>⟨σ,H1,I1,q1⟩) I.quiet hs
noncomputable def ZtC (te:TE):TS:=fun D σ H=>te σ H D.rt
theorem ZnG (he:PE X e te):PS X (.Return (some e) pos) (ZtC te):=by
 intro pins s σ H D I h
 exact wpAny_Return_some (thn (he pins s σ H _ I h) fun v s1 ⟨x,H1,I1,r1,q1⟩=>⟨x,σ,H1,I1,r1,q1⟩)
noncomputable def ZtD (c:TT) (t u:TS):TS:=fun D σ H=>c σ H fun b H1=>if b=true then t D σ H1 else u D σ H1
theorem Zqz {c:Expr} {a b:List Stmt} {tc:TT} (hc:PT X c tc) (ha:PSs X a t) (hb:PSs X b u):PS X (.If c a b pos) (ZtD tc t u):=by
 intro pins s σ H D I h
 refine wpAny_If (thn (hc pins s σ H _ I h) fun d s1 ⟨H1,I1,q1⟩=> ?_)
 cases d with
 |true=>exact ha pins s1 σ H1 D I1 q1
 |false=>exact hb pins s1 σ H1 D I1 q1
noncomputable def tNever:TS:=fun _ _ _=>False
theorem Zjt:PS X st tNever:=fun _ _ _ _ _ _ h=>h.elim
end
noncomputable abbrev TG:=V->St->Hp->(St->Hp->Prop)->Prop
noncomputable abbrev TGs:=List V->St->Hp->(St->Hp->Prop)->Prop
noncomputable def PG (X:Cx) (target:Expr) (t:TG):Prop:=
 ∀ (pins:List (Addr × Obj)) (s:Shared) (σ:St) (H:Hp) (v:V) (u:Value) (Q:St->Hp->Prop),Inv X pins σ H s->Z9 v u->t v σ H Q->
  wpAny (model X.prog X.w) X.A (assign target X.env u) (fun _ s'=> ∃ σ' H',Inv X pins σ' H' s'/\Q σ' H') X.xe s
noncomputable def PGs (X:Cx) (ts:List Expr) (t:TGs):Prop:=
 ∀ (pins:List (Addr × Obj)) (s:Shared) (σ:St) (H:Hp) (vs:List V) (us:List Value) (Q:St->Hp->Prop),Inv X pins σ H s->Z2 vs us->t vs σ H Q->
  wpAny (model X.prog X.w) X.A (assignInOrder ((assignEach ts X.env).map (·.2)) us) (fun _ s'=> ∃ σ' H',Inv X pins σ' H' s'/\Q σ' H') X.xe s
noncomputable abbrev ZqA:=V->V->V->Hp->(Hp->Prop)->Prop
noncomputable def Zsz (X:Cx) (t:ZqA):Prop:=
 ∀ (pins:List (Addr × Obj)) (s:Shared) (σ:St) (H:Hp) (o i v:V) (ov iv u:Value) (Q:Hp->Prop),Inv X pins σ H s->Z9 o ov->Z9 i iv->Z9 v u->t o i v H Q->
  wpAny (model X.prog X.w) X.A (setItem ov iv u) (fun _ s'=> ∃ H',Inv X pins σ H' s'/\Q H') X.xe s
section
variable {X:Cx} {pos:Pos}
noncomputable def ZnH (i:Nat):TG:=fun v σ H Q=>Q (σ.set i (some v)) H
theorem Zlw {i:Nat} {x:Str} (hN:X.N.Nodup) (hi:X.N[i]?=some x) (hx:Loc X.env.scope x) (hm:X.may i=true) (hf:X.fn x=true\/X.env.scope.names.lookup x=some .local:=by first | exact .inl rfl | exact .inr rfl | assumption):PG X (.Name x pos) (ZnH i):=by
 intro pins s σ H v u Q I r h
 exact wpAny_assign_Name (Zcl I hN hi hx hm r (fun s' I'=>⟨_,H,I',h⟩) hf)
noncomputable def gNil:TGs:=fun vs σ H Q=>vs=[]/\Q σ H
noncomputable def ZqB (t:TG) (u:TGs):TGs:=fun vs σ H Q=> ∃ v r,vs=v :: r/\t v σ H fun σ' H'=>u r σ' H' Q
theorem Zlx:PGs X [] gNil:=by
 intro pins s σ H vs us Q I r h
 obtain ⟨e,h⟩:=h
 subst e
 cases r
 exact assignInOrder_nil ⟨σ,H,I,h⟩
theorem Zju {e:Expr} {es:List Expr} {t:TG} {u:TGs} (h1:PG X e t) (h2:PGs X es u)
  (hs:(assignEach (e :: es) X.env).map (·.2)=assign e X.env :: (assignEach es X.env).map (·.2):=by rfl):PGs X (e :: es) (ZqB t u):=by
 intro pins s σ H vs us Q I r h
 obtain ⟨v,vr,e1,h⟩:=h
 subst e1
 cases r with
 |cons r rr=>
  rw[hs]
  refine assignInOrder_cons (thn (h1 pins s σ H _ _ _ I r h) fun _ s1 ⟨σ1,H1,I1,q1⟩=> ?_)
  exact h2 pins s1 σ1 H1 _ _ Q I1 rr q1
noncomputable def ZtE (K:PySem.W.Frag) (n:Nat) (t:TGs):TG:=fun v σ H Q=> ∃ a xs,v= .ref a/\SqT K H a xs/\xs.length=n/\t xs σ H Q
theorem ZnI {es:List Expr} {k:Nat} {t:TGs} {n:Nat} (hc:X.calm=true) (h:PGs X es t)
  (hn:(assignEach es X.env).length=n:=by rfl) (hst:(assignEach es X.env).findIdx? (·.1)=none:=by rfl):PG X (.Tuple es k pos) (ZtE X.K n t):=by
 intro pins s σ H v u Q I r hw
 obtain ⟨a,xs,e1,hq,hl,hw⟩:=hw
 subst e1
 cases r
 obtain ⟨its,rv,ht,hz⟩:=I.tuple hq
 refine assign_Tuple_tuple (I.ok.hd hc) ht (by simp[hn,<- hl,rv.length]) hst fun h' hx=> ?_
 have I1:Inv X pins σ H { s with heap:=h' }:=I.kept (t':=s.toks) fun b o e=>hx b o (Nat.ne_of_lt (Heap.lt_size e)) e
 exact h pins _ σ H xs _ Q I1 (by simpa using rv) hw
noncomputable def ZtF (to ti:TE) (t:ZqA):TG:=fun v σ H Q=>to σ H fun o H1=>ti σ H1 fun i H2=>t o i v H2 fun H3=>Q σ H3
theorem ZnJ {o i:Expr} {to ti:TE} {t:ZqA} (ho:PE X o to) (hi:PE X i ti) (hs:Zsz X t)
  (ha: ∀ v,assign (.Subscript o i pos) X.env v=(do
   let ov <- holding [v] (eval o X.env)
   let iv <- holding [v,ov] (eval i X.env)
   standAt pos
   holding [v,ov,iv] (setItem ov iv v)
   release [v,ov,iv] []):=by intro _;rfl):PG X (.Subscript o i pos) (ZtF to ti t):=by
 intro pins s σ H v u Q I r h
 rw[ha]
 refine wpAny_bind (wpAny_holding (thn (ho pins s σ H _ I h) fun ov s1 ⟨x,H1,I1,r1,q1⟩=> ?_))
 refine wpAny_bind (wpAny_holding (thn (hi pins s1 σ H1 _ I1 q1) fun iv s2 ⟨y,H2,I2,r2,q2⟩=> ?_))
 refine wpAny_bind (wpAny_standAt (wpAny_bind (wpAny_holding (thn (hs pins s2 σ H2 x y v ov iv u _ I2 r1 r2 r q2) fun _ s3 ⟨H3,I3,q3⟩=> ?_))))
 exact wpAny_release ⟨σ,H3,I3,q3⟩
noncomputable def ZsA (te:TE) (g:TG):TS:=fun D σ H=>te σ H fun x H1=>g x σ H1 D.nx
theorem ZkJ {tg e:Expr} {te:TE} {g:TG} (he:PE X e te) (hg:PG X tg g) (hs:swapsWithSole [tg] e pos.line X.env=pure false:=by rfl) (hw:swappedStores [tg] e X.env=pure none:=by rfl)
  (h1:(assignEach [tg] X.env).map (·.2)=[assign tg X.env]:=by rfl):PS X (.Assign [tg] e pos) (ZsA te g):=by
 intro pins s σ H D I h
 refine wpAny_Assign_stores (thn (he pins s σ H _ I h) fun v s1 ⟨x,H1,I1,r1,q1⟩=> ?_) hs hw
 rw[h1]
 exact thn (hg pins s1 σ H1 x v _ I1 r1 q1) fun _ s2 q=>q
theorem ZnK {i:Nat} {x:Str} {e:Expr} {te:TE} {pos':Pos} (hN:X.N.Nodup) (hi:X.N[i]?=some x) (hx:Loc X.env.scope x) (hm:X.may i=true) (he:PE X e te) (hs:swapsWith e (some (.Name x pos')) pos.line X.env=pure false:=by rfl) (hf:X.fn x=true\/X.env.scope.names.lookup x=some .local:=by first | exact .inl rfl | exact .inr rfl | assumption):
  PS X (.Assign [.Name x pos'] e pos) (ZsA te (ZnH i)):=by
 intro pins s σ H D I h
 refine wpAny_Assign_Name (thn (he pins s σ H _ I h) fun v s1 ⟨y,H1,I1,r1,q1⟩=> ?_) hs
 exact Zcl I1 hN hi hx hm r1 (fun s2 I2=>⟨_,H1,I2,q1⟩) hf
noncomputable def ZtG (i j:Nat) (ta:TA):TS:=fun D σ H=>ta σ H fun vs H1=> ∃ v w,vs=[v,w]/\D.nx ((σ.set i (some v)).set j (some w)) H1
theorem ZnL {i j:Nat} {x y:Str} {a b:Expr} {ta:TA} {px py pt:Pos} {kt k2 pt2} (hc:X.calm=true) (mi:X.may i=true) (mj:X.may j=true) (hN:X.N.Nodup) (hi:X.N[i]?=some x) (hj:X.N[j]?=some y) (hij:i≠j)
  (hx:X.env.scope.names.lookup x=some .local) (hy:X.env.scope.names.lookup y=some .local) (ha:PA X [a,b] ta)
  (hw:swappedStores [.Tuple [.Name x px,.Name y py] kt pt] (.Tuple [a,b] k2 pt2) X.env=pure (some [x,y]))
  (hs:swapsWithSole [.Tuple [.Name x px,.Name y py] kt pt] (.Tuple [a,b] k2 pt2) pos.line X.env=pure false:=by rfl):
  PS X (.Assign [.Tuple [.Name x px,.Name y py] kt pt] (.Tuple [a,b] k2 pt2) pos) (ZtG i j ta):=by
 intro pins s σ H D I h
 rw[exec_Assign_arm]
 refine wpAny_bind (wpAny_standAt ?_)
 rw[hs]
 refine wpAny_bind (wpAny_pure ?_)
 rw[if_neg (by decide)]
 refine wpAny_bind (Tuple_ (thn (ha _ pins s σ H _ I h) fun us s1 ⟨vs,H1,I1,r1,q1⟩=> ?_))
 obtain ⟨v,w,e1,q1⟩:=q1
 subst e1
 obtain ⟨u1,u2,rfl,rv,rw'⟩: ∃ u1 u2,us=[u1,u2]/\Z9 v u1/\Z9 w u2:=by
  cases r1 with
  |cons p q=>
   cases q with
   |cons p' q'=>
    cases q'
    exact ⟨_,_,rfl,p,p'⟩
 refine wpAny_newObj_type ?_ (by show 2<=sizeLine;decide)
 have I2:Inv X pins σ H1 { s1 with heap:=s1.heap.push { cls:= .type "tuple",data:= .seq [u1,u2].toArray } }:=I1.kept (t':=s1.toks) fun b o e=>Heap.get?_push_of_some _ e
 rw[hw]
 refine wpAny_bind (wpAny_pure ?_)
 show wpAny (model X.prog X.w) X.A (do rule "assign.swapped-stores";let items <- unpackItems (.ref s1.heap.objs.size) 2 none;assignInOrder [fun v=>bindName X.env y v,fun v=>bindName X.env x v] items.reverse;pure Flow.next) _ _ _
 refine wpAny_bind (wpAny_rule (wpAny_bind (unpackItems_tuple (items:= #[u1,u2]) (I.ok.hd hc) (IsTup.new s1.heap _) fun h' hx'=> ?_)))
 have I3:=I2.kept (h':=h') (t':=s1.toks) fun b o e=>hx' b o (Nat.ne_of_lt (Heap.lt_size e)) e
 show wpAny _ _ (assignInOrder [fun v=>bindName X.env y v,fun v=>bindName X.env x v] [u2,u1] >>= fun _=>pure Flow.next) _ _ _
 refine wpAny_bind (assignInOrder_cons (wpAny_bindName (Zcl I3 hN hj (.inl hy) mj rw' (fun s2 I4=> ?_) (.inr hy))))
 refine assignInOrder_cons (wpAny_bindName (Zcl I4 hN hi (.inl hx) mi rv (fun s3 I5=>assignInOrder_nil (wpAny_pure ?_)) (.inr hx)))
 rw[List.set_comm _ _ (Ne.symm hij)] at I5
 exact ⟨_,H1,I5,q1⟩
end
section
variable {X:Cx} {pos:Pos}
noncomputable def ZnM (c:TT) (tb:TS):TS:=fun D σ H=> ∃ W:Nat->St->Hp->Prop,(∃ m,W m σ H)/\ ∀ m σ H,W m σ H->
 c σ H fun b H1=>if b=true then ∃ N:St->Hp->Prop,(∀ σ' H',N σ' H'-> ∃ m',m' < m/\W m' σ' H')/\tb { D with nx:=N,ct:=N,bk:=D.nx } σ H1 else D.nx σ H1
theorem Zjv {c:Expr} {body:List Stmt} {tc:TT} {tb:TS} (hp:PassesOwn (model X.prog X.w) X.A X.env X.xe) (hc:PT X c tc) (hb:PSs X body tb):PS X (.While c body [] pos) (ZnM tc tb):=by
 intro pins s σ H D I h
 obtain ⟨W,⟨m0,w0⟩,turn⟩:=h
 refine wpAny_While (codeAny_whileLoop (fun n s'=> ∃ σ' H',Inv X pins σ' H' s'/\W n σ' H') ?_ m0 ⟨σ,H,I,w0⟩)
 rintro n s1 ⟨σ1,H1,I1,w1⟩
 refine wpAny_passesOwn hp (thn (hc pins s1 σ1 H1 _ I1 (turn n σ1 H1 w1)) fun b s2 ⟨H2,I2,q2⟩=> ?_)
 cases b with
 |true=>
  obtain ⟨N,hN,q2⟩:=q2
  rw[if_pos rfl]
  refine wpAny_passesOwn hp (thn (hb pins s2 σ1 H2 _ I2 q2) fun f s3 q3=> ?_)
  cases f with
  |next=>
   obtain ⟨σ3,H3,I3,n3⟩:=q3
   obtain ⟨m',hm,w3⟩:=hN σ3 H3 n3
   exact ⟨m',hm,σ3,H3,I3,w3⟩
  |cont=>
   obtain ⟨σ3,H3,I3,n3⟩:=q3
   obtain ⟨m',hm,w3⟩:=hN σ3 H3 n3
   exact ⟨m',hm,σ3,H3,I3,w3⟩
  |brk=>exact q3
  |ret v=>exact q3
 |false=>
  rw[if_neg Bool.false_ne_true]
  exact wpAny_execs_nil ⟨σ1,H2,I2,q2⟩
end
structure It where
 go:Nat->Hp->Prop
 yld:Nat->Hp->V->Hp->Prop
 stop:Nat->Hp->Prop
noncomputable def ZdK (X:Cx) (pins:List (Addr × Obj)) (H:Hp) (b:Addr):Prop:=
 H b=none/\b≠X.env.locals/\b ∉ X.fs/\(b∈X.ex\/X.s₀.heap.objs.size<=b)/\(∀ x c,X.env.cells.lookup x=some c->c≠b)/\ ∀ p∈X.pn ++ pins,p.1≠b
theorem Inv.fpOk {X:Cx} {pins:List (Addr × Obj)} {σ:St} {H H':Hp} {s:Shared} {b:Addr} (I:Inv X pins σ H s) (hb:s.heap.objs.size<=b) (hn:H' b=none):ZdK X pins H' b:=by
 refine ⟨hn,Nat.ne_of_gt (Nat.lt_of_lt_of_le I.lt hb),I.nofs hb,.inr (Nat.le_trans I.sz hb),fun x c e z=> ?_,fun p hp z=> ?_⟩
 ·obtain ⟨v,q⟩:=I.cell x c e
  exact absurd (Nat.lt_of_lt_of_le q.lt (by rw[z];exact hb)) (Nat.lt_irrefl _)
 ·exact absurd (Nat.lt_of_lt_of_le (Heap.lt_size (I.pin p hp).1) (by rw[z];exact hb)) (Nat.lt_irrefl _)
structure Turn (P:Program) (w:World) (K:PySem.W.Frag) (B:Around) (tg:Expr) (J:It) (fp:List Addr) (it:Addr) (tn:Nat->Heap->Prop):Prop where
 mem:it∈fp
 obj: ∀ i h,tn i h-> ∀ b∈fp,∃ o,h.get? b=some o/\ ∀ v,o.data≠ .cell v
 keep: ∀ i h h',tn i h->(∀ b∈fp,∀ o,h.get? b=some o->h'.get? b=some o)->tn i h'
 item: ∀ (X:Cx),X.prog=P->X.w=w->X.K=K->X.A=B-> ∀ (i:Nat) (pins:List (Addr × Obj)) (s:Shared) (σ:St) (H:Hp) (E:Value->Shared->Prop),Inv X pins σ H s->(∀ b∈fp,ZdK X pins H b)->tn i s.heap->J.go i H->
  wpAny (model P w) X.A (pyNext (.ref it)) (fun r s1=> ∃ u,r=some u/\
   wpAny (model P w) X.A (letOwnedTupleGo tg (.ref it) u) (fun _ s2=> ∃ x H',Inv X pins σ H' s2/\Z9 x u/\J.yld i H x H'/\tn (i + 1) s2.heap/\ ∀ b∈fp,H' b=none) E s1) E s
 done: ∀ (X:Cx),X.prog=P->X.w=w->X.K=K->X.A=B-> ∀ (i:Nat) (pins:List (Addr × Obj)) (s:Shared) (σ:St) (H:Hp) (E:Value->Shared->Prop),Inv X pins σ H s->(∀ b∈fp,ZdK X pins H b)->tn i s.heap->J.stop i H->
  wpAny (model P w) X.A (pyNext (.ref it)) (fun r s1=>r=none/\Inv X pins σ H s1) E s
 self: ∀ (A:Around) (i:Nat) (s:Shared) (Q:Value->Shared->Prop) (E:Value->Shared->Prop),tn i s.heap->Q (.ref it) s->wpAny (model P w) A (pyIter (.ref it)) Q E s
noncomputable abbrev TI:=St->Hp->(It->Hp->Prop)->Prop
noncomputable def PIE (X:Cx) (pins:List (Addr × Obj)) (σ:St) (tg:Expr) (R:It->Hp->Prop) (itv:Value) (s2:Shared):Prop:=
 ∃ (it:Addr) (fp:List Addr) (tn:Nat->Heap->Prop) (J:It) (H':Hp),itv= .ref it/\Inv X pins σ H' s2/\Turn X.prog X.w X.K X.A tg J fp it tn/\tn 0 s2.heap/\(∀ b∈fp,ZdK X pins H' b)/\R J H'
noncomputable def PI (X:Cx) (tg iter:Expr) (wi:TI):Prop:=
 ∀ (pins:List (Addr × Obj)) (s:Shared) (σ:St) (H:Hp) (R:It->Hp->Prop),Inv X pins σ H s->wi σ H R->
  wpAny (model X.prog X.w) X.A (eval iter X.env) (fun v s1=>wpAny (model X.prog X.w) X.A (pyIter v) (PIE X pins σ tg R) X.xe s1) X.xe s
theorem Zjw {M:Model} {A:Around} {E:Value->Shared->Prop} {s:Shared} {tg:Expr} {it:Addr} {u:Value} {o:Obj} {n:String} {vs:Array Value} {Q:Unit->Shared->Prop} (ho:s.heap.get? it=some o) (hc:o.cls= .type n) (hd:o.data= .fields vs)
  (hn:["enumerate","zip","dict_itemiterator","dict_reverseitemiterator","odict_iterator","itertools.zip_longest","itertools.pairwise"].contains n=false) (hQ:Q () s):wpAny M A (letOwnedTupleGo tg (.ref it) u) Q E s:=by
 unfold letOwnedTupleGo
 cases tg<;>first
  |exact wpAny_pure hQ
  | (cases u<;>first
    |exact wpAny_pure hQ
    | (refine wpAny_bind (wpAny_load ho ?_)
       rw[hc,hd]
       show wpAny M A (if (["enumerate","zip","dict_itemiterator","dict_reverseitemiterator","odict_iterator","itertools.zip_longest","itertools.pairwise"].contains n && vs[0]? == some (rawInt _))=true then _ else _) Q E s
       rw[if_neg (by intro h;rw[hn,Bool.false_and] at h;cases h)]
       exact wpAny_pure hQ))
noncomputable def Itl (K:PySem.W.Frag) (a:Addr):It:=
 ⟨fun i H=> ∃ xs x,SqL K H a xs/\xs[i]?=some x,fun i H x H'=>H'=H/\ ∀ xs,SqL K H a xs->xs[i]?=some x,fun i H=> ∃ xs,SqL K H a xs/\xs.length<=i⟩
noncomputable def Itt (K:PySem.W.Frag) (a:Addr):It:=
 ⟨fun i H=> ∃ xs x,SqT K H a xs/\xs[i]?=some x,fun i H x H'=>H'=H/\ ∀ xs,SqT K H a xs->xs[i]?=some x,fun i H=> ∃ xs,SqT K H a xs/\xs.length<=i⟩
noncomputable def Itr (lo:Int) (n:Nat):It:=⟨fun i _=>i < n,fun i H x H'=>H'=H/\x= .int (lo + i),fun i _=>n<=i⟩
theorem ZhF {P:Program} {w:World} {K:PySem.W.Frag} {B:Around} {tg:Expr} (a it:Addr):Turn P w K B tg (Itl K a) [it] it (fun i h=>h.IsListIter it a i) where
 mem:=by simp
 obj:=fun i h st b hb=>by
  have e:b=it:=by simpa using hb
  subst e
  obtain ⟨o,e,c,d⟩:=st
  exact ⟨o,e,fun v z=>by rw[d] at z;cases z⟩
 keep:=fun i h h' st k=>st.at fun o e=>k it (by simp) o e
 item:=by
  intro X hP hw hK hB i pins s σ H E I hf st hg
  subst hP hw hK
  obtain ⟨xs,x,hq,hx⟩:=hg
  obtain ⟨its,rv,p,hz⟩:=I.list hq
  obtain ⟨u,hu,ru⟩:=rv.get hx
  obtain ⟨f0,f1,f2,f3,f4,f5⟩:=hf it (by simp)
  refine wpAny_pyNext_list_item st p.isList (x:=u) (by simpa using hu) fun h' st' sb=> ?_
  have I1:Inv X pins σ H { s with heap:=h' }:=I.turned (t':=s.toks) (fun b o hb e=>(sb.2 b hb).trans e) f0 f1 f3 f4 f5
  obtain ⟨o,e,c,d⟩:=id st'
  exact ⟨u,rfl,Zjw (s:={ s with heap:=h' }) e c d (by decide) ⟨x,H,I1,ru,⟨rfl,fun ys hy=>by rw[I.list_inj hy hq];exact hx⟩,st',fun b hb=>(hf b hb).1⟩⟩
 done:=by
  intro X hP hw hK hB i pins s σ H E I hf st hg
  subst hP hw hK
  obtain ⟨xs,hq,hx⟩:=hg
  obtain ⟨its,rv,p,hz⟩:=I.list hq
  obtain ⟨f0,f1,f2,f3,f4,f5⟩:=hf it (by simp)
  have hl:=rv.length
  exact DQ.Zjp I.qh st p.isList (by simp;omega) fun h' eb=>⟨rfl,I.turned (t':=s.toks) (fun b o hb e=>eb b o hb e) f0 f1 f3 f4 f5⟩
 self:=fun _ _ _ _ _ st h=>wpAny_pyIter_listiter st h
theorem Zg0 {P:Program} {w:World} {K:PySem.W.Frag} {B:Around} {tg:Expr} (a it:Addr):Turn P w K B tg (Itt K a) [it] it (fun i h=>h.IsTupleIter it a i) where
 mem:=by simp
 obj:=fun i h st b hb=>by
  have e:b=it:=by simpa using hb
  subst e
  obtain ⟨o,e,c,d⟩:=st
  exact ⟨o,e,fun v z=>by rw[d] at z;cases z⟩
 keep:=fun i h h' st k=>st.at fun o e=>k it (by simp) o e
 item:=by
  intro X hP hw hK hB i pins s σ H E I hf st hg
  subst hP hw hK
  obtain ⟨xs,x,hq,hx⟩:=hg
  obtain ⟨its,rv,p,hz⟩:=I.tuple hq
  obtain ⟨u,hu,ru⟩:=rv.get hx
  obtain ⟨f0,f1,f2,f3,f4,f5⟩:=hf it (by simp)
  refine wpAny_pyNext_tuple_item st (show s.heap.IsTuple a its.toArray from p) (x:=u) (by simpa using hu) fun h' st' sb=> ?_
  have I1:Inv X pins σ H { s with heap:=h' }:=I.turned (t':=s.toks) (fun b o hb e=>(sb.2 b hb).trans e) f0 f1 f3 f4 f5
  obtain ⟨o,e,c,d⟩:=id st'
  exact ⟨u,rfl,Zjw (s:={ s with heap:=h' }) e c d (by decide) ⟨x,H,I1,ru,⟨rfl,fun ys hy=>by rw[I.tuple_inj hy hq];exact hx⟩,st',fun b hb=>(hf b hb).1⟩⟩
 done:=by
  intro X hP hw hK hB i pins s σ H E I hf st hg
  subst hP hw hK
  obtain ⟨xs,hq,hx⟩:=hg
  obtain ⟨its,rv,p,hz⟩:=I.tuple hq
  obtain ⟨f0,f1,f2,f3,f4,f5⟩:=hf it (by simp)
  have hl:=rv.length
  exact DQ.Zhx I.qh st (show s.heap.IsTuple a its.toArray from p) (by simp;omega) fun h' eb=>⟨rfl,I.turned (t':=s.toks) (fun b o hb e=>eb b o hb e) f0 f1 f3 f4 f5⟩
 self:=fun _ _ _ _ _ st h=>wpAny_pyIter_tupleiter st h
theorem Zg1 {P:Program} {w:World} {K:PySem.W.Frag} {B:Around} {tg:Expr} (it:Addr) (lo:Int) (n:Nat):Turn P w K B tg (Itr lo n) [it] it (fun i h=>IsRangeIter h it (lo + (i:Nat) * 1) ((n:Int) - (i:Nat)) 1) where
 mem:=by simp
 obj:=fun i h st b hb=>by
  have e:b=it:=by simpa using hb
  subst e
  exact ⟨_,st,fun v z=>by
   have z':Data.fields _=Data.cell v:=z
   cases z'⟩
 keep:=fun i h h' st k=>k it (by simp) _ st
 item:=by
  intro X hP hw hK hB i pins s σ H E I hf st hg
  subst hP hw hK
  obtain ⟨f0,f1,f2,f3,f4,f5⟩:=hf it (by simp)
  have hlt:i < n:=hg
  refine wpAny_pyNext_range_item st (by omega) fun h' st' sb=> ?_
  have I1:Inv X pins σ H { s with heap:=h',toks:=s.toks + 1 }:=I.turned (fun b o hb e=>(sb.2 b hb).trans e) f0 f1 f3 f4 f5
  have st2:IsRangeIter h' it (lo + ((i + 1:Nat):Int) * 1) ((n:Int) - ((i + 1:Nat):Int)) 1:=by
   have e1:lo + ((i + 1:Nat):Int) * 1=lo + (i:Nat) * 1 + 1:=by omega
   have e2:(n:Int) - ((i + 1:Nat):Int)=(n:Int) - (i:Nat) - 1:=by omega
   rw[e1,e2]
   exact st'
  refine ⟨_,rfl,Zjw (s:={ s with heap:=h',toks:=s.toks + 1 }) (n:="range_iterator") st2 rfl rfl (by decide) ⟨.int (lo + i),H,I1,⟨s.toks,?_⟩,⟨rfl,rfl⟩,st2,fun b hb=>(hf b hb).1⟩⟩
  rw[Int.mul_one]
 done:=by
  intro X hP hw hK hB i pins s σ H E I hf st hg
  subst hP hw hK
  obtain ⟨f0,f1,f2,f3,f4,f5⟩:=hf it (by simp)
  exact DQ.Zhw I.qh st (by have:n<=i:=hg;omega) fun h' eb=>⟨rfl,I.turned (t':=s.toks) (fun b o hb e=>eb b o hb e) f0 f1 f3 f4 f5⟩
 self:=fun _ _ _ _ _ st h=>wpAny_pyIter_rangeiter st h
end L2
namespace L2
open PySem PySem.Spec PyProof.Rows
section
variable {X:Cx} {tg:Expr}
theorem Zgv {pins:List (Addr × Obj)} {σ:St} {H:Hp} {s:Shared} {R:It->Hp->Prop} {E:Value->Shared->Prop} {lo hi:Int} {t u v:Tok} {tk:Nat} (I:Inv X pins σ H s) (h1: -(2 ^ 62)<=lo) (h2:lo < 2 ^ 62) (h3: -(2 ^ 62)<=hi) (h4:hi < 2 ^ 62)
  (q:R (Itr lo (hi - lo).toNat) H):wpAny (model X.prog X.w) X.A (pyIter (.ref s.heap.objs.size)) (PIE X pins σ tg R) E { s with heap:=s.heap.push { cls:= .type "range",data:= .fields #[.int lo t,.int hi u,.int 1 v] },toks:=tk }:=by
 refine wpAny_pyIter_range (IsRange.new ..) (small_one h1 h2 h3 h4) ?_
 have I1:Inv X pins σ H { s with heap:=s.heap.push { cls:= .type "range",data:= .fields #[.int lo t,.int hi u,.int 1 v] },toks:=tk }:=I.kept fun b o e=>Heap.get?_push_of_some _ e
 refine ⟨(s.heap.push { cls:= .type "range",data:= .fields #[.int lo t,.int hi u,.int 1 v] }).objs.size,[(s.heap.push { cls:= .type "range",data:= .fields #[.int lo t,.int hi u,.int 1 v] }).objs.size],_,_,H,rfl,
  I1.kept (t':=tk) fun b o e=>Heap.get?_push_of_some _ e,Zg1 _ lo (hi - lo).toNat,?_,fun b hb=> ?_,q⟩
 ·have e1:lo + ((0:Nat):Int) * 1=lo:=by simp
  have e2:(((hi - lo).toNat:Nat):Int) - ((0:Nat):Int)=Builtin.Range.rangeSize lo hi 1:=by rw[rangeSize_one];split<;>omega
  show IsRangeIter _ _ (lo + ((0:Nat):Int) * 1) ((((hi - lo).toNat:Nat):Int) - ((0:Nat):Int)) 1
  rw[e1,e2]
  exact Heap.get?_push_size _ rfl
 ·have e:b=(s.heap.push { cls:= .type "range",data:= .fields #[.int lo t,.int hi u,.int 1 v] }).objs.size:=by simpa using hb
  subst e
  exact I1.fpOk (Nat.le_refl _) (I1.hok.fresh (Nat.le_refl _))
noncomputable def ZqC (ta:TA):TI:=fun σ H R=>ta σ H fun vs H1=> ∃ j:Int,vs=[.int j]/\ -(2 ^ 62)<=j/\j < 2 ^ 62/\R (Itr 0 j.toNat) H1
noncomputable def ZqD (ta:TA):TI:=fun σ H R=>ta σ H fun vs H1=> ∃ i j:Int,vs=[.int i,.int j]/\(-(2 ^ 62)<=i/\i < 2 ^ 62/\ -(2 ^ 62)<=j/\j < 2 ^ 62)/\R (Itr i (j - i).toNat) H1
theorem ZeI {a:Expr} {ta:TA} {p pos:Pos} (hg:Gl X "range") (hm:X.mg "range"=none) (ha:PA X [a] ta) (hs:starEach [a] X.env=[(false,eval a X.env)]:=by rfl):PI X tg (.Call (.Name "range" p) [a] [] pos) (ZqC ta):=by
 intro pins s σ H R I h
 refine Call_ (Zcm I hg hm boot_range (PyProof.Rows.callWith_type1 (thn (ha pos pins s σ H _ I h) fun us s1 ⟨vs,H1,I1,r1,q1⟩=> ?_) hs rfl))
 obtain ⟨j,e,q1,q2,q⟩:=q1
 subst e
 cases r1 with
 |cons r rr=>
  cases rr
  obtain ⟨t,rfl⟩:=r
  exact call_range_1 (Zgv I1 (by omega) (by omega) q1 q2 (by simpa using q))
theorem ZeJ {a b:Expr} {ta:TA} {p pos:Pos} (hg:Gl X "range") (hm:X.mg "range"=none) (ha:PA X [a,b] ta) (hs:starEach [a,b] X.env=[(false,eval a X.env),(false,eval b X.env)]:=by rfl) (hs2:starEach [b] X.env=[(false,eval b X.env)]:=by rfl):
  PI X tg (.Call (.Name "range" p) [a,b] [] pos) (ZqD ta):=by
 intro pins s σ H R I h
 refine Call_ (Zcm I hg hm boot_range (PyProof.Rows.callWith_type1 (thn (ha pos pins s σ H _ I h) fun us s1 ⟨vs,H1,I1,r1,q1⟩=> ?_) (by rw[hs,hs2]) (by rw[hs2];rfl)))
 obtain ⟨i,j,e,⟨q1,q2,q3,q4⟩,q⟩:=q1
 subst e
 cases r1 with
 |cons r rr=>
  cases rr with
  |cons r' rr=>
   cases rr
   obtain ⟨t,rfl⟩:=r
   obtain ⟨t',rfl⟩:=r'
   exact call_range_2 (Zgv I1 q1 q2 q3 q4 q)
noncomputable def ZtH (wi:TI) (g:TG) (tb:TS):TS:=fun D σ H=>wi σ H fun J H1=> ∃ W:Nat->Nat->St->Hp->Prop,(∃ m,W 0 m σ H1)/\ ∀ i m σ H,W i m σ H->
 (J.stop i H/\D.nx σ H)\/(J.go i H/\ ∃ N:St->Hp->Prop,(∀ σ' H',N σ' H'-> ∃ m',m' < m/\W (i + 1) m' σ' H')/\ ∀ x H',J.yld i H x H'->g x σ H' fun σ2 H2=>tb { D with nx:=N,ct:=N,bk:=D.nx } σ2 H2)
noncomputable def ZdR (fp:List Addr) (h:Heap):List (Addr × Obj):=fp.filterMap fun b=>(h.get? b).map fun o=>(b,o)
theorem ZbS {fp:List Addr} {h:Heap} {b:Addr} {o:Obj} (hb:b∈fp) (e:h.get? b=some o):(b,o)∈ZdR fp h:=List.mem_filterMap.mpr ⟨b,hb,by rw[e];rfl⟩
theorem ZhG {fp:List Addr} {h:Heap} {p:Addr × Obj} (hp:p∈ZdR fp h):p.1∈fp/\h.get? p.1=some p.2:=by
 obtain ⟨b,hb,e⟩:=List.mem_filterMap.mp hp
 cases q:h.get? b with
 |none=>rw[q] at e;cases e
 |some o=>
  rw[q] at e
  have e':(b,o)=p:=Option.some.inj e
  subst e'
  exact ⟨hb,q⟩
theorem Inv.pinned {pins:List (Addr × Obj)} {σ:St} {H:Hp} {s:Shared} {fp:List Addr} (I:Inv X pins σ H s) (hf: ∀ b∈fp,ZdK X pins H b) (ho: ∀ b∈fp,∃ o,s.heap.get? b=some o/\ ∀ v,o.data≠ .cell v):Inv X (pins ++ ZdR fp s.heap) σ H s:=
 I.pins_of fun p hp=>(List.mem_append.mp hp).elim (fun z=>I.pin p (List.mem_append_right _ z)) fun z=>by
  obtain ⟨hb,e⟩:=ZhG z
  obtain ⟨f0,f1,f2,_⟩:=hf p.1 hb
  obtain ⟨o,e',d⟩:=ho p.1 hb
  rw[e] at e';cases e'
  exact ⟨e,f0,f1,f2,d⟩
theorem Inv.unpinned {pins pl:List (Addr × Obj)} {σ:St} {H:Hp} {s:Shared} (I:Inv X (pins ++ pl) σ H s):Inv X pins σ H s:=I.pins_of fun p hp=>I.pin p (List.mem_append_right _ (List.mem_append_left _ hp))
theorem Zgw {iter:Expr} {body:List Stmt} {wi:TI} {g:TG} {tb:TS} {pos:Pos} (hp:PassesOwn (model X.prog X.w) X.A X.env X.xe) (hi:PI X tg iter wi) (hg:PG X tg g) (hb:PSs X body tb)
  (hs: ∀ x,foldedSetIterable iter X.env x=pure x:=by intro _;rfl):PS X (.For tg iter body [] pos) (ZtH wi g tb):=by
 intro pins s σ H D I h
 refine wpAny_For (thn (hi pins s σ H _ I h) fun v s1 h1=>thn h1 fun itv s2 h2=> ?_) hs
 obtain ⟨it,fp,tn,J,H2,e,I2,T,st2,f2,W,⟨m0,w0⟩,turn⟩:=h2
 subst e
 have stat: ∀ {H':Hp},(∀ b∈fp,H' b=none)-> ∀ b∈fp,ZdK X pins H' b:=fun hn b hb=>⟨hn b hb,(f2 b hb).2⟩
 refine codeAny_forLoop_any (fun n s'=> ∃ i σ' H',Inv X pins σ' H' s'/\tn i s'.heap/\(∀ b∈fp,H' b=none)/\W i n σ' H') ?_ m0 ⟨0,σ,H2,I2,st2,fun b hb=>(f2 b hb).1,w0⟩
 rintro n s3 ⟨i,σ3,H3,I3,st3,fr3,w3⟩
 rcases turn i n σ3 H3 w3 with ⟨stop,qn⟩ | ⟨go,N,hN,step⟩
 ·refine wpAny_passesOwn hp (thn (T.done X rfl rfl rfl rfl i pins s3 σ3 H3 X.xe I3 (stat fr3) st3 stop) fun r s4 ⟨hr,I4⟩=> ?_)
  subst hr
  exact wpAny_execs_nil ⟨σ3,H3,I4,qn⟩
 ·refine wpAny_passesOwn hp (thn (T.item X rfl rfl rfl rfl i pins s3 σ3 H3 X.xe I3 (stat fr3) st3 go) fun r s4 ⟨u,hr,h4⟩=> ?_)
  subst hr
  refine wpAny_passesOwn hp (thn h4 fun _ s5 ⟨x,H5,I5,r5,y5,st5,fr5⟩=> ?_)
  have I5':=I5.pinned (stat fr5) (T.obj _ _ st5)
  refine wpAny_passesOwn hp (thn (hg _ s5 σ3 H5 x u _ I5' r5 (step x H5 y5)) fun _ s6 ⟨σ6,H6,I6,q6⟩=> ?_)
  refine wpAny_passesOwn hp (thn (hb _ s6 σ6 H6 _ I6 q6) fun f s7 q7=> ?_)
  have again: ∀ {σ7:St} {H7:Hp},Inv X (pins ++ ZdR fp s5.heap) σ7 H7 s7->N σ7 H7-> ∃ m,m < n/\ ∃ i σ' H',Inv X pins σ' H' s7/\tn i s7.heap/\(∀ b∈fp,H' b=none)/\W i m σ' H':=fun {σ7 H7} I7 n7=>by
   obtain ⟨m',hm,w7⟩:=hN σ7 H7 n7
   refine ⟨m',hm,i + 1,σ7,H7,I7.unpinned,T.keep _ _ _ st5 fun b hb o e=>(I7.pin (b,o) (List.mem_append_right _ (List.mem_append_right _ (ZbS hb e)))).1,fun b hb=> ?_,w7⟩
   obtain ⟨o,e,d⟩:=T.obj _ _ st5 b hb
   exact (I7.pin (b,o) (List.mem_append_right _ (List.mem_append_right _ (ZbS hb e)))).2.1
  cases f with
  |next=>obtain ⟨σ7,H7,I7,n7⟩:=q7;exact again I7 n7
  |cont=>obtain ⟨σ7,H7,I7,n7⟩:=q7;exact again I7 n7
  |brk=>obtain ⟨σ7,H7,I7,q7⟩:=q7;exact ⟨σ7,H7,I7.unpinned,q7⟩
  |ret v=>obtain ⟨x7,σ7,H7,I7,r7,q7⟩:=q7;exact ⟨x7,σ7,H7,I7.unpinned,r7,q7⟩
end
theorem Zjx {K:PySem.W.Frag} {a:Addr} {xs:List V} {g:TG} {tb:TS} {D:Ends} {σ:St} {H:Hp} (Pv:Nat->St->Hp->Prop) (h0:Pv 0 σ H) (hl: ∀ i σ H,i<=xs.length->Pv i σ H->SqL K H a xs)
  (hs: ∀ i x σ H,xs[i]?=some x->Pv i σ H->g x σ H fun σ2 H2=>tb { D with nx:=Pv (i + 1),ct:=Pv (i + 1),bk:=D.nx } σ2 H2) (hd: ∀ σ H,Pv xs.length σ H->D.nx σ H):
  ∃ W:Nat->Nat->St->Hp->Prop,(∃ m,W 0 m σ H)/\ ∀ i m σ H,W i m σ H->
   ((Itl K a).stop i H/\D.nx σ H)\/((Itl K a).go i H/\ ∃ N:St->Hp->Prop,(∀ σ' H',N σ' H'-> ∃ m',m' < m/\W (i + 1) m' σ' H')/\ ∀ x H',(Itl K a).yld i H x H'->g x σ H' fun σ2 H2=>tb { D with nx:=N,ct:=N,bk:=D.nx } σ2 H2):=by
 refine ⟨fun i m σ H=>m=xs.length - i/\i<=xs.length/\Pv i σ H,⟨xs.length,by simp,Nat.zero_le _,h0⟩,?_⟩
 rintro i m σ H ⟨rfl,hi,p⟩
 have q:=hl i σ H hi p
 by_cases hlt:i < xs.length
 ·refine .inr ⟨⟨xs,xs[i],q,by simp[hlt]⟩,Pv (i + 1),fun σ' H' p'=>⟨xs.length - (i + 1),by omega,rfl,hlt,p'⟩,fun x H' y=> ?_⟩
  obtain ⟨e,y⟩:=y
  subst e
  exact hs i x σ _ (y xs q) p
 ·have e:i=xs.length:=by omega
  subst e
  exact .inl ⟨⟨xs,q,Nat.le_refl _⟩,hd σ H p⟩
theorem Zly {K:PySem.W.Frag} {a:Addr} {xs:List V} {g:TG} {tb:TS} {D:Ends} {σ:St} {H:Hp} (Pv:Nat->St->Hp->Prop) (h0:Pv 0 σ H) (hl: ∀ i σ H,i<=xs.length->Pv i σ H->SqT K H a xs)
  (hs: ∀ i x σ H,xs[i]?=some x->Pv i σ H->g x σ H fun σ2 H2=>tb { D with nx:=Pv (i + 1),ct:=Pv (i + 1),bk:=D.nx } σ2 H2) (hd: ∀ σ H,Pv xs.length σ H->D.nx σ H):
  ∃ W:Nat->Nat->St->Hp->Prop,(∃ m,W 0 m σ H)/\ ∀ i m σ H,W i m σ H->
   ((Itt K a).stop i H/\D.nx σ H)\/((Itt K a).go i H/\ ∃ N:St->Hp->Prop,(∀ σ' H',N σ' H'-> ∃ m',m' < m/\W (i + 1) m' σ' H')/\ ∀ x H',(Itt K a).yld i H x H'->g x σ H' fun σ2 H2=>tb { D with nx:=N,ct:=N,bk:=D.nx } σ2 H2):=by
 refine ⟨fun i m σ H=>m=xs.length - i/\i<=xs.length/\Pv i σ H,⟨xs.length,by simp,Nat.zero_le _,h0⟩,?_⟩
 rintro i m σ H ⟨rfl,hi,p⟩
 have q:=hl i σ H hi p
 by_cases hlt:i < xs.length
 ·refine .inr ⟨⟨xs,xs[i],q,by simp[hlt]⟩,Pv (i + 1),fun σ' H' p'=>⟨xs.length - (i + 1),by omega,rfl,hlt,p'⟩,fun x H' y=> ?_⟩
  obtain ⟨e,y⟩:=y
  subst e
  exact hs i x σ _ (y xs q) p
 ·have e:i=xs.length:=by omega
  subst e
  exact .inl ⟨⟨xs,q,Nat.le_refl _⟩,hd σ H p⟩
theorem ZhH {lo:Int} {n:Nat} {g:TG} {tb:TS} {D:Ends} {σ:St} {H:Hp} (Pv:Nat->St->Hp->Prop) (h0:Pv 0 σ H)
  (hs: ∀ i σ H,i < n->Pv i σ H->g (.int (lo + i)) σ H fun σ2 H2=>tb { D with nx:=Pv (i + 1),ct:=Pv (i + 1),bk:=D.nx } σ2 H2) (hd: ∀ σ H,Pv n σ H->D.nx σ H):
  ∃ W:Nat->Nat->St->Hp->Prop,(∃ m,W 0 m σ H)/\ ∀ i m σ H,W i m σ H->
   ((Itr lo n).stop i H/\D.nx σ H)\/((Itr lo n).go i H/\ ∃ N:St->Hp->Prop,(∀ σ' H',N σ' H'-> ∃ m',m' < m/\W (i + 1) m' σ' H')/\ ∀ x H',(Itr lo n).yld i H x H'->g x σ H' fun σ2 H2=>tb { D with nx:=N,ct:=N,bk:=D.nx } σ2 H2):=by
 refine ⟨fun i m σ H=>m=n - i/\i<=n/\Pv i σ H,⟨n,by simp,Nat.zero_le _,h0⟩,?_⟩
 rintro i m σ H ⟨rfl,hi,p⟩
 by_cases hlt:i < n
 ·refine .inr ⟨hlt,Pv (i + 1),fun σ' H' p'=>⟨n - (i + 1),by omega,rfl,hlt,p'⟩,fun x H' y=> ?_⟩
  obtain ⟨e,y⟩:=y
  subst e y
  exact hs i σ _ hlt p
 ·have e:i=n:=by omega
  subst e
  exact .inl ⟨Nat.le_refl _,hd σ H p⟩
end L2
namespace L2
open PySem PySem.Spec PyProof.Rows
noncomputable abbrev R2:=V->V->Hp->VK->Prop
noncomputable def OpR (X:Cx) (f:Value->Value->Sem Value) (r:R2):Prop:=
 ∀ (pins:List (Addr × Obj)) (s:Shared) (σ:St) (H:Hp) (x y:V) (v u:Value) (Q:VK),Inv X pins σ H s->Z9 x v->Z9 y u->r x y H Q->
  wpAny (model X.prog X.w) X.A (f v u) (EP X pins σ Q) X.xe s
noncomputable def UnR (X:Cx) (f:Value->Sem Value) (r:V->Hp->VK->Prop):Prop:=
 ∀ (pins:List (Addr × Obj)) (s:Shared) (σ:St) (H:Hp) (x:V) (v:Value) (Q:VK),Inv X pins σ H s->Z9 x v->r x H Q->
  wpAny (model X.prog X.w) X.A (f v) (EP X pins σ Q) X.xe s
noncomputable def Zb6 (X:Cx) (f:Value) (r:List V->Hp->VK->Prop):Prop:=
 ∀ (pins:List (Addr × Obj)) (s:Shared) (σ:St) (H:Hp) (xs:List V) (us:List Value) (Q:VK),Inv X pins σ H s->Z2 xs us->r xs H Q->
  wpAny (model X.prog X.w) X.A (call f us) (EP X pins σ Q) X.xe s
noncomputable def tOp (r:R2) (ta tb:TE):TE:=fun σ H Q=>ta σ H fun x H1=>tb σ H1 fun y H2=>r x y H2 Q
noncomputable def tUn (r:V->Hp->VK->Prop) (ta:TE):TE:=fun σ H Q=>ta σ H fun x H1=>r x H1 Q
noncomputable def rI (C:Int->Int->Prop) (g:Int->Int->V):R2:=fun x y H Q=> ∃ i j,x= .int i/\y= .int j/\C i j/\Q (g i j) H
noncomputable def rI0 (g:Int->Int->V):R2:=fun x y H Q=> ∃ i j,x= .int i/\y= .int j/\Q (g i j) H
noncomputable def rU (g:Int->V):V->Hp->VK->Prop:=fun x H Q=> ∃ i,x= .int i/\Q (g i) H
section
variable {X:Cx} {a b c:Expr} {ta tb tc:TE} {pos:Pos}
theorem ZqE (ha:PE X a ta) (hb:PE X b tb) {pins:List (Addr × Obj)} {s:Shared} {σ:St} {H:Hp} {R:V->V->Hp->Prop} (I:Inv X pins σ H s)
  (h:ta σ H fun x H1=>tb σ H1 fun y H2=>R x y H2) {Q:Value->Shared->Prop} {f:Value->Value->Sem Value}
  (hf: ∀ v u s2 x y H2,Inv X pins σ H2 s2->Z9 x v->Z9 y u->R x y H2->wpAny (model X.prog X.w) X.A (f v u) Q X.xe s2):
  wpAny (model X.prog X.w) X.A (eval a X.env) (fun v s₁=>wpAny (model X.prog X.w) X.A (eval b X.env) (fun u s₂=>wpAny (model X.prog X.w) X.A (f v u) Q X.xe s₂) X.xe s₁) X.xe s:=by
 refine thn (ha pins s σ H _ I h) fun v s1 ⟨x,H1,I1,r1,q1⟩=> ?_
 refine thn (hb pins s1 σ H1 _ I1 q1) fun u s2 ⟨y,H2,I2,r2,q2⟩=> ?_
 exact hf v u s2 x y H2 I2 r1 r2 q2
theorem ZqF {op:Operator} {r:R2} (ho:OpR X (binaryOp op) r) (ha:PE X a ta) (hb:PE X b tb):PE X (.BinOp a op b pos) (tOp r ta tb):=by
 intro pins s σ H Q I h
 exact wpAny_BinOp (ZqE ha hb I h fun v u s2 x y H2 I2 rx ry q=>ho pins s2 σ H2 x y v u Q I2 rx ry q)
theorem ZqG {op:UnaryOp} {r:V->Hp->VK->Prop} (ho:UnR X (unaryOp op) r) (ha:PE X a ta):PE X (.UnaryOp op a pos) (tUn r ta):=by
 intro pins s σ H Q I h
 exact UnaryOp_ (thn (ha pins s σ H _ I h) fun v s1 ⟨x,H1,I1,r1,q1⟩=>ho pins s1 σ H1 x v Q I1 r1 q1)
theorem opI {f:Value->Value->Sem Value} {C:Int->Int->Prop} {g:Int->Int->Int}
  (rule: ∀ (i j:Int) (t u:Tok) (s:Shared) (Q:Value->Shared->Prop) (E:Value->Shared->Prop),C i j->Q (.int (g i j) s.toks) { s with toks:=s.toks + 1 }->wpAny (model X.prog X.w) X.A (f (.int i t) (.int j u)) Q E s):
  OpR X f (rI C fun i j=> .int (g i j)):=by
 intro pins s σ H x y v u Q I rx ry h
 obtain ⟨i,j,rfl,rfl,hc,q⟩:=h
 obtain ⟨t,rfl⟩:=rx
 obtain ⟨t',rfl⟩:=ry
 exact rule i j t t' s _ _ hc ⟨.int (g i j),H,I.tok _,⟨_,rfl⟩,q⟩
theorem ZsB {f:Value->Value->Sem Value} {g:Int->Int->Int}
  (rule: ∀ (i j:Int) (t u:Tok) (s:Shared) (Q:Value->Shared->Prop) (E:Value->Shared->Prop),Q (.int (g i j) s.toks) { s with toks:=s.toks + 1 }->wpAny (model X.prog X.w) X.A (f (.int i t) (.int j u)) Q E s):
  OpR X f (rI0 fun i j=> .int (g i j)):=by
 intro pins s σ H x y v u Q I rx ry h
 obtain ⟨i,j,rfl,rfl,q⟩:=h
 obtain ⟨t,rfl⟩:=rx
 obtain ⟨t',rfl⟩:=ry
 exact rule i j t t' s _ _ ⟨.int (g i j),H,I.tok _,⟨_,rfl⟩,q⟩
theorem Zql {f:Value->Value->Sem Value} {g:Int->Int->Bool}
  (rule: ∀ (i j:Int) (t u:Tok) (s:Shared) (Q:Value->Shared->Prop) (E:Value->Shared->Prop),Q (.bool (g i j)) s->wpAny (model X.prog X.w) X.A (f (.int i t) (.int j u)) Q E s):
  OpR X f (rI0 fun i j=> .bl (g i j)):=by
 intro pins s σ H x y v u Q I rx ry h
 obtain ⟨i,j,rfl,rfl,q⟩:=h
 obtain ⟨t,rfl⟩:=rx
 obtain ⟨t',rfl⟩:=ry
 exact rule i j t t' s _ _ ⟨.bl (g i j),H,I,rfl,q⟩
noncomputable def ZsC (i j:Int):Prop:=0<=j/\j<=1000000/\i.natAbs < 2 ^ 64
theorem ZnN:OpR X (binaryOp .Add) (rI0 fun i j=> .int (i + j)):=ZsB fun _ _ _ _ _ _ _ q=>add_int q
theorem ZnO:OpR X (binaryOp .Sub) (rI0 fun i j=> .int (i - j)):=ZsB fun _ _ _ _ _ _ _ q=>sub_int q
theorem Zlz:OpR X (binaryOp .Mod) (rI (fun _ j=>j≠0) fun i j=> .int (i.fmod j)):=opI fun _ _ _ _ _ _ _ hc q=>mod_int' hc q
theorem ZnP:OpR X (binaryOp .Pow) (rI ZsC fun i j=> .int (i ^ j.toNat)):=opI fun _ _ _ _ _ _ _ hc q=>pow_int_small hc.1 hc.2.1 hc.2.2 q
theorem unI {f:Value->Sem Value} {g:Int->Int}
  (rule: ∀ (i:Int) (t:Tok) (s:Shared) (Q:Value->Shared->Prop) (E:Value->Shared->Prop),Q (.int (g i) s.toks) { s with toks:=s.toks + 1 }->wpAny (model X.prog X.w) X.A (f (.int i t)) Q E s):
  UnR X f (rU fun i=> .int (g i)):=by
 intro pins s σ H x v Q I rx h
 obtain ⟨i,rfl,q⟩:=h
 obtain ⟨t,rfl⟩:=rx
 exact rule i t s _ _ ⟨.int (g i),H,I.tok _,⟨_,rfl⟩,q⟩
theorem ZnQ:UnR X (unaryOp .USub) (rU fun i=> .int (-i)):=unI fun _ _ _ _ _ q=>neg_int q
end
section
variable {X:Cx} {a b c:Expr} {ta tb tc:TE} {pos:Pos}
theorem Zc1:OpR X (compareOp .Lt) (rI0 fun i j=> .bl (decide (i < j))):=Zql fun _ _ _ _ _ _ _ q=>lt_int q
theorem ZqH:OpR X (compareOp .LtE) (rI0 fun i j=> .bl (decide (i<=j))):=Zql fun _ _ _ _ _ _ _ q=>le_int q
theorem ZeK:OpR X (compareOp .Gt) (rI0 fun i j=> .bl (decide (j < i))):=Zql fun _ _ _ _ _ _ _ q=>gt_int q
theorem ZnR:OpR X (compareOp .GtE) (rI0 fun i j=> .bl (decide (j<=i))):=Zql fun _ _ _ _ _ _ _ q=>ge_int q
theorem OpR.or {f:Value->Value->Sem Value} {r r':R2} (h:OpR X f r) (h':OpR X f r'):OpR X f (fun x y H Q=>r x y H Q\/r' x y H Q):=by
 intro pins s σ H x y v u Q I rx ry q
 rcases q with q | q
 ·exact h pins s σ H x y v u Q I rx ry q
 ·exact h' pins s σ H x y v u Q I rx ry q
theorem ZkK (b:Expr) {op:CmpOp} (h:op≠ .In:=by decide) (h2:op≠ .NotIn:=by decide):behindInMarks op b=false:=by
 have e1:(op == CmpOp.In)=false:=by cases op<;>first | rfl | exact absurd rfl h
 have e2:(op == CmpOp.NotIn)=false:=by cases op<;>first | rfl | exact absurd rfl h2
 cases b<;>simp[behindInMarks,e1,e2]
theorem ZlA {op:CmpOp} {r:R2} (ho:OpR X (compareOp op) r) (ha:PE X a ta) (hb:PE X b tb) (hm:behindInMarks op b=false):PE X (.Compare a [op] [b] pos) (tOp r ta tb):=by
 intro pins s σ H Q I h
 exact wpAny_Compare1 (ZqE ha hb I h fun v u s2 x y H2 I2 rx ry q=>ho pins s2 σ H2 x y v u Q I2 rx ry q) hm
noncomputable def ZnS (t:TE):TT:=fun σ H Q=>t σ H fun x H'=> ∃ k,x= .bl k/\Q k H'
theorem ZlB {op:CmpOp} {r:R2} (ho:OpR X (compareOp op) r) (ha:PE X a ta) (hb:PE X b tb) (hm:behindInMarks op b=false):PT X (.Compare a [op] [b] pos) (ZnS (tOp r ta tb)):=by
 intro pins s σ H Q I h
 refine wpAny_isTrue_Compare1 (thn (ha pins s σ H _ I h) fun v s1 ⟨x,H1,I1,r1,q1⟩=>thn (hb pins s1 σ H1 _ I1 q1) fun u s2 ⟨y,H2,I2,r2,q2⟩=>
  thn (ho pins s2 σ H2 x y v u _ I2 r1 r2 q2) fun c s3 ⟨z,H3,I3,r3,k,e,q3⟩=> ?_) hm
 subst e
 cases r3
 exact wpAny_truthy_bool ⟨H3,I3,q3⟩
theorem Zgx:(sizeLine:Nat) < 2 ^ 63:=by rw[sizeLine_eq];decide
theorem Zg2:OpR X (binaryOp .Add) (fun x y H Q=> ∃ i j,x= .str i/\y= .str j/\i.length + j.length<=sizeLine/\Q (.str (i ++ j)) H):=by
 intro pins s σ H x y v u Q I rx ry h
 obtain ⟨i,j,rfl,rfl,hz,q⟩:=h
 obtain ⟨t,rfl⟩:=rx
 obtain ⟨t',rfl⟩:=ry
 exact add_str (fun t' tk=>⟨.str (i ++ j),H,I.tok _,⟨_,rfl⟩,q⟩) hz
theorem ZdL {x:V} {us:List Value} (r:Z2 [x] us): ∃ u,us=[u]/\Z9 x u:=by
 cases r with
 |cons r1 r2=>cases r2;exact ⟨_,rfl,r1⟩
theorem ZhI {x y:V} {us:List Value} (r:Z2 [x,y] us): ∃ u w',us=[u,w']/\Z9 x u/\Z9 y w':=by
 cases r with
 |cons r1 r2=>
  cases r2 with
  |cons r3 r4=>cases r4;exact ⟨_,_,rfl,r1,r3⟩
theorem Zcn:Zb6 X (.builtin "abs") (fun xs H Q=> ∃ i,xs=[.int i]/\Q (.int (if i < 0 then -i else i)) H):=by
 intro pins s σ H xs us Q I r h
 obtain ⟨i,rfl,q⟩:=h
 obtain ⟨u,rfl,t,rfl⟩:=ZdL r
 exact call_abs_int fun u tk=>⟨.int (if i < 0 then -i else i),H,I.tok _,⟨_,rfl⟩,q⟩
theorem ZeL (hc:X.calm=true):Zb6 X (.builtin "max") (fun xs H Q=> ∃ i j,xs=[.int i,.int j]/\Q (.int (if j > i then j else i)) H):=by
 intro pins s σ H xs us Q I r h
 obtain ⟨i,j,rfl,q⟩:=h
 obtain ⟨u,w',rfl,⟨t,rfl⟩,⟨t',rfl⟩⟩:=ZhI r
 refine max_two_ints (I.ok.hd hc) fun h' tk k=>⟨_,H,I.kept k,?_,q⟩
 by_cases hj:j > i
 ·rw[if_pos hj,if_pos hj];exact ⟨_,rfl⟩
 ·rw[if_neg hj,if_neg hj];exact ⟨_,rfl⟩
theorem ZhJ (hc:X.calm=true):Zb6 X (.builtin "min") (fun xs H Q=> ∃ i j,xs=[.int i,.int j]/\Q (.int (if j < i then j else i)) H):=by
 intro pins s σ H xs us Q I r h
 obtain ⟨i,j,rfl,q⟩:=h
 obtain ⟨u,w',rfl,⟨t,rfl⟩,⟨t',rfl⟩⟩:=ZhI r
 refine min_two_ints (I.ok.hd hc) fun h' tk k=>⟨_,H,I.kept k,?_,q⟩
 by_cases hj:j < i
 ·rw[if_pos hj,if_pos hj];exact ⟨_,rfl⟩
 ·rw[if_neg hj,if_neg hj];exact ⟨_,rfl⟩
theorem ZbD:Zb6 X (.type "int") (fun xs H Q=>(∃ i,xs=[.int i]/\Q (.int i) H)\/ ∃ k,xs=[.bl k]/\Q (.int (if k then 1 else 0)) H):=by
 intro pins s σ H xs us Q I r h
 rcases h with ⟨i,rfl,q⟩ | ⟨k,rfl,q⟩
 ·obtain ⟨u,rfl,t,rfl⟩:=ZdL r
  exact call_int_int ⟨.int i,H,I,⟨_,rfl⟩,q⟩
 ·obtain ⟨u,rfl,r1⟩:=ZdL r
  cases r1
  exact call_int_bool ⟨.int (if k then 1 else 0),H,I.tok _,⟨_,rfl⟩,q⟩
end
end L2
namespace L2
open PySem PySem.Spec PyProof.Rows
section
variable {prog:Program} {w:World} {A:Around} {E:Value->Shared->Prop} {s:Shared} {K:PySem.W.Frag} {x dx C f:Addr} {mA:Str->Option Value} {name:Str} {v:Value}
end
theorem ZkH.some_of {v:V} {o:Option Value} (r:ZkH (some v) o): ∃ u,o=some u/\Z9 v u:=by
 cases o with
 |none=>exact (show False from r).elim
 |some u=>exact ⟨u,rfl,r⟩
section
variable {P:Program} {w:World} {H H':Hp} {h h':Heap} {a C dx:Addr} {fs fs':List (Str × V)}
end
section
variable {X:Cx} {pins:List (Addr × Obj)} {σ:St} {H:Hp} {s:Shared} {a C dx:Addr} {fs:List (Str × V)} {f:Str} {v:V} {A:Around} {E:Value->Shared->Prop}
end
section
variable {X:Cx} {o e value:Expr} {f:Str} {pos pos' tpos:Pos} {ta tv:TE}
end
section
variable {X:Cx} {pins:List (Addr × Obj)} {σ:St} {H:Hp} {s:Shared} {A:Around} {E:Value->Shared->Prop} {Q:Value->Shared->Prop} {c:Value} {b:Bool}
end
end L2
namespace L2
open PySem PySem.Spec PyProof.Rows
structure Room (k:Nat) (A:Around):Prop where
 hd:100<=k->A.handled=none
 gd:A.guards=some []
 dp:A.depth + 3 * k + 5 < recursionLimit
 un:A.units + 16 * k + 200 < cLine
theorem Room.mono {j k:Nat} {A:Around} (r:Room k A) (h:j<=k):Room j A:=⟨fun z=>r.hd (Nat.le_trans z h),r.gd,by have:=r.dp;omega,by have:=r.un;omega⟩
theorem Room.deeper {k:Nat} {A:Around} (r:Room (k + 1) A) (env:Env):Room k (A.deeper env):=
 ⟨fun z=>r.hd (Nat.le_succ_of_le z),r.gd,by have:=r.dp;show A.depth + 1 + 3 * k + 5 < _;omega,by have:=r.un;show A.units + 3 + 16 * k + 200 < _;omega⟩
theorem Room.depth {k:Nat} {A:Around} (r:Room k A):A.depth < recursionLimit:=by have:=r.dp;omega
theorem Room.units {k:Nat} {A:Around} (r:Room k A):A.units + 64 < cLine:=by have:=r.un;omega
noncomputable def tNil:TA:=fun _ H Q=>Q [] H
noncomputable def ZqI (ta:TE) (tr:TA):TA:=fun σ H Q=>ta σ H fun x H1=>tr σ H1 fun xs H2=>Q (x :: xs) H2
section
variable {X:Cx} {e:Expr} {es:List Expr} {te:TE} {t:TA} {pos:Pos}
theorem ZhK:PA X [] tNil:=fun _ _ _ _ H Q I h=>Calls.spliced_nil ⟨[],H,I,.nil,h⟩
theorem Zdg (ha:PE X e te) (hr:PA X es t) (hs:starEach (e :: es) X.env=(false,eval e X.env) :: starEach es X.env:=by rfl):PA X (e :: es) (ZqI te t):=by
 intro pos pins s σ H Q I h
 rw[hs]
 show wpAny _ _ (spliced ((false,eval e X.env) :: backTo pos (starEach es X.env))) _ _ s
 refine Calls.spliced_cons (thn (ha pins s σ H _ I h) fun u s1 ⟨x,H1,I1,r1,q1⟩=> ?_)
 exact thn (hr pos pins s1 σ H1 _ I1 q1) fun us s2 ⟨xs,H2,I2,r2,q2⟩=>⟨x :: xs,H2,I2,.cons r1 r2,q2⟩
noncomputable def ZtI (t:TA):TE:=fun σ H Q=>t σ H fun xs H1=>xs.length<=sizeLine/\ ∀ p,H1 p=none->Q (.ref p) (upd H1 p (.tup xs))
noncomputable def ZtJ (t:TA):TE:=fun σ H Q=>t σ H fun xs H1=>xs.length<=sizeLine/\ ∀ p,H1 p=none->Q (.ref p) (upd H1 p (.lst xs))
theorem ZnT {x1} (h:PA X es t):PE X (.Tuple es x1 pos) (ZtI t):=by
 intro pins s σ H Q I hq
 refine wpAny_Tuple_spliced (thn (h pos pins s σ H _ I hq) fun us s1 ⟨xs,H1,I1,r,z,q⟩=>⟨by rw[<- r.length];exact z,?_⟩)
 have hf:H1 s1.heap.objs.size=none:=I1.hok.fresh (Nat.le_refl _)
 refine ⟨.ref s1.heap.objs.size,upd H1 s1.heap.objs.size (.tup xs),I1.laid (t':=s1.toks) (fun b u e=>Heap.get?_push_of_some _ e) (Nat.le_refl _) ?_,rfl,q _ hf⟩
 exact ⟨z,us,r,⟨_,Heap.get?_push_size _ rfl,rfl,_,rfl⟩⟩
theorem ZnU (h:PA X es t):PE X (.List es pos) (ZtJ t):=by
 intro pins s σ H Q I hq
 refine wpAny_List_spliced (thn (h pos pins s σ H _ I hq) fun us s1 ⟨xs,H1,I1,r,z,q⟩=>⟨by rw[<- r.length];exact z,?_⟩)
 have hf:H1 s1.heap.objs.size=none:=I1.hok.fresh (Nat.le_refl _)
 refine ⟨.ref s1.heap.objs.size,upd H1 s1.heap.objs.size (.lst xs),I1.laid (t':=s1.toks) (fun b u e=>Heap.get?_push_of_some _ e) (Nat.le_refl _) ?_,rfl,q _ hf⟩
 exact ⟨z,us,0,r,Heap.get?_push_size _ rfl⟩
end
noncomputable abbrev Sp:=List V->Hp->VK->XK->Prop
noncomputable abbrev CXT:=List Env->Hp->Shared->XK->Value->Shared->Prop
structure Env0 (P:Program) (w:World) (K:PySem.W.Frag) (mg:Str->Option Value) (base:Heap) (A:Around) (outer:List Env) (s:Shared) (H:Hp):Prop where
 frames:A.frames=some outer
 mod:Mod K mg base
 bs: ∀ b o,base.get? b=some o->s.heap.get? b=some o/\H b=none
 bsz:base.objs.size<=s.heap.objs.size
 funs:s.heap.FunFrames base outer
 frf: ∀ b∈frs outer,H b=none
 hok:HOk P w H s.heap
 bare:AllBare s.gens
 qd:Qd A H
noncomputable def CE (outer:List Env) (P:Program) (w:World) (H:Hp) (s:Shared) (Q:VK) (u:Value) (s':Shared):Prop:=
 ∃ v H',s'.os=s.os/\AllBare s'.gens/\Un (frs outer) [] H H' s.heap s'.heap/\HOk P w H' s'.heap/\Z9 v u/\Q v H'
noncomputable def CR (CX:CXT) (outer:List Env) (P:Program) (w:World) (H:Hp) (s:Shared) (Q:VK) (E:XK) (r:Result) (s':Shared):Prop:=
 match r with
 | .ok (.ret u)=>CE outer P w H s Q u s'
 | .ok _=>False
 | .error e=>CX outer H s E e s'
structure FnOk (P:Program) (w:World) (K:PySem.W.Frag) (mg:Str->Option Value) (base:Heap) (CX:CXT) (k:Nat) (f:Addr) (fd:FuncData) (ps:List Str) (sp:Sp):Prop where
 len: ∀ vs H Q E,sp vs H Q E->vs.length=ps.length
 run: ∀ (A:Around) (outer:List Env) (s:Shared) (H:Hp) (args:Args) (us:List Value) (vs:List V) (Q:VK) (E:XK),Room k A->Env0 P w K mg base A outer s H->BindsTo s fd args (ps.zip us)->Z2 vs us->sp vs H Q E->
  codeAny (model P w) A (.call (.ref f) args) (CR CX outer P w H s Q E) s
section
variable {X:Cx} {pins:List (Addr × Obj)} {σ:St} {H:Hp} {s s':Shared}
theorem Inv.env0 (I:Inv X pins σ H s):Env0 X.prog X.w X.K X.mg X.base X.A X.stack s H:=
 ⟨I.ok.frames,I.ok.mod,I.bs,Nat.le_trans I.ok.bsz I.sz,I.stack,I.stkFree,I.hok,I.bare,I.qd⟩
theorem Inv.after {Q:VK} {u:Value} (I:Inv X pins σ H s) (h:CE X.stack X.prog X.w H s Q u s'):EP X pins σ Q u s':=by
 obtain ⟨v,H',os,bare,un,hok,r,q⟩:=h
 obtain ⟨hh,g,d,t,os'⟩:=s'
 obtain rfl:os'=s.os:=os
 exact ⟨v,H',I.call (h':=hh) (g':=g) (d':=d) (t':=t) (ch:=[]) un hok bare (fun b z=>absurd z (by simp)),r,q⟩
end
noncomputable def ZqJ (sp:Sp) (dvs:List V) (E:XK) (t:TA):TE:=fun σ H Q=>t σ H fun vs H1=>sp (vs ++ dvs) H1 Q E
noncomputable def ZfJ (K:PySem.W.Frag) (fd:FuncData) (ps:List Str) (ds:List Value):Prop:=
 ∀ (s:Shared) (us:List Value),K.In s.heap->(us ++ ds).length=ps.length->BindsTo s fd ⟨us,[]⟩ (ps.zip (us ++ ds))
theorem ZfJ.all {K:PySem.W.Frag} {fd:FuncData} {ps:List Str} (h: ∀ us:List Value,us.length=ps.length->bindArgs fd ⟨us,[]⟩=pure (ps.zip us)):ZfJ K fd ps []:=fun s us _ hl=>by
 rw[List.append_nil] at hl ⊢
 exact .of_eq (h us hl)
noncomputable def ZhL (CX:CXT) (X:Cx) (E:XK):Prop:= ∀ (pins:List (Addr × Obj)) (σ:St) (H:Hp) (s:Shared) (e:Value) (s':Shared),Inv X pins σ H s->CX X.stack H s E e s'->X.xe e s'
section
variable {X:Cx} {CX:CXT} {k:Nat} {f C:Addr} {fd:FuncData} {ps:List Str} {sp:Sp} {dvs:List V} {ds:List Value} {E:XK} {x m:Str} {p pos apos:Pos} {e o:Expr} {es:List Expr} {ta:TE} {t:TA}
theorem ZkL {pins:List (Addr × Obj)} {σ:St} {H:Hp} {s:Shared} {Q:VK} {us:List Value} {vs:List V} (F:FnOk X.prog X.w X.K X.mg X.base CX k f fd ps sp) (hr:Room k X.A) (hb:ZfJ X.K fd ps ds) (hd:Z2 dvs ds) (hx:ZhL CX X E)
  (I:Inv X pins σ H s) (r:Z2 vs us) (h:sp (vs ++ dvs) H Q E):wpAny (model X.prog X.w) X.A (call (.ref f) us) (EP X pins σ Q) X.xe s:=by
 have r2:Z2 (vs ++ dvs) (us ++ ds):=r.append hd
 have hl:(us ++ ds).length=ps.length:=by rw[<- r2.length];exact F.len _ _ _ _ h
 refine wpAny_call (codeAny_mono (F.run X.A X.stack s H ⟨us,[]⟩ (us ++ ds) (vs ++ dvs) Q E hr I.env0 (hb s us I.kIn hl) r2 h) fun r s' hq=> ?_)
 cases r with
 |error e=>exact hx pins σ H s e s' I hq
 |ok fl=>
  cases fl with
  |ret u=>exact I.after hq
  |next=>exact False.elim hq
  |brk=>exact False.elim hq
  |cont=>exact False.elim hq
theorem ZlC (F:FnOk X.prog X.w X.K X.mg X.base CX k f fd ps sp) (hr:Room k X.A) (hg:Gl X x) (hm:X.mg x=some (.ref f)) (hk:PySem.W.keepIn X.K (.ref f)=true) (hb:ZfJ X.K fd ps ds) (hd:Z2 dvs ds) (hx:ZhL CX X E)
  (ha:PA X (e :: es) t) (hdb:(x == ("__debug__":Str))=false:=by decide) (he:starEach (e :: es) X.env=(false,eval e X.env) :: starEach es X.env:=by rfl) (hpl:(backTo pos (starEach es X.env)).any (·.1)=false:=by rfl):
  PE X (.Call (.Name x p) (e :: es) [] pos) (ZqJ sp dvs E t):=by
 intro pins s σ H Q I h
 refine wpAny_Call_Name_kw (ZfI I hg hm ?_ hdb)
 refine PySem.W.callWith_K (h₀:=X.base) I.ok.mod.kin hk (thn (ha pos pins s σ H _ I h) fun us s1 ⟨vs,H1,I1,r,q⟩=>⟨I1.kIn,?_⟩) he hpl
 exact ZkL F hr hb hd hx I1 r q
end
section
variable {X:Cx} {CX:CXT} {k:Nat} {f C:Addr} {fd:FuncData} {ps ks:List Str} {sp:Sp} {E:XK} {x m:Str} {p pos apos kpos:Pos} {e o:Expr} {es:List Expr} {kws:List Keyword} {te ta:TE} {t tk:TA} {nm:Option Str}
variable {g:List Value->List Value->List Value} {gV:List V->List V->List V}
end
structure FnScope (N P:List Str) (sc:Scope):Prop where
 kind:sc.kind= .function
 co:sc.isCoroutine=false
 gen:sc.isGenerator=false
 nd:N.Nodup
 pre:N.take P.length=P
 par: ∀ x∈P,sc.names.lookup x=some .local\/sc.names.lookup x=some .cell
 nofree: ∀ y∈sc.names,y.2≠ .free
theorem ZeM {kindOf:Str->Option NameKind} {x:Str}: ∀ {binds:List (Str × Value)} {m:Str->Option Value},(∀ v,(x,v) ∉ binds)->bindL kindOf binds m x=m x
 | [],_,_=>rfl
 | (n,v) :: r,m,h=>by
  unfold bindL
  rw[ZeM fun w hw=>h w (List.mem_cons_of_mem _ hw)]
  split
  ·have:x≠n:=by rintro rfl;exact h v List.mem_cons_self
   simp[this]
  ·rfl
theorem ZeN {kindOf:Str->Option NameKind} {x:Str}: ∀ {binds:List (Str × Value)} {m:Str->Option Value},(∀ v,(x,v) ∉ binds)->bindC kindOf binds m x=m x
 | [],_,_=>rfl
 | (n,v) :: r,m,h=>by
  unfold bindC
  rw[ZeN fun w hw=>h w (List.mem_cons_of_mem _ hw)]
  split
  ·rfl
  ·have:x≠n:=by rintro rfl;exact h v List.mem_cons_self
   simp[this]
theorem ZeO {kindOf:Str->Option NameKind} {x:Str} {v:Value}: ∀ {P:List Str} {vs:List Value} {i:Nat} {m:Str->Option Value},P.Nodup->P[i]?=some x->vs[i]?=some v->kindOf x=some .local->
  bindL kindOf (P.zip vs) m x=some v
 | [],_,_,_,_,h,_,_=>by simp at h
 |_ :: _,[],_,_,_,_,h,_=>by simp at h
 |p :: P,w :: vs,0,m,nd,h1,h2,hk=>by
  simp at h1 h2;subst h1;subst h2
  show bindL kindOf ((p,w) :: P.zip vs) m p=_
  unfold bindL
  rw[ZeM fun v hv=>(List.nodup_cons.mp nd).1 (List.of_mem_zip hv).1,if_pos hk]
  simp
 |p :: P,w :: vs,i + 1,m,nd,h1,h2,hk=>by
  show bindL kindOf ((p,w) :: P.zip vs) m x=_
  unfold bindL
  exact ZeO (i:=i) (List.nodup_cons.mp nd).2 (by simpa using h1) (by simpa using h2) hk
theorem ZeP {kindOf:Str->Option NameKind} {x:Str} {v:Value}: ∀ {P:List Str} {vs:List Value} {i:Nat} {m:Str->Option Value},P.Nodup->P[i]?=some x->vs[i]?=some v->kindOf x≠some .local->
  bindC kindOf (P.zip vs) m x=some v
 | [],_,_,_,_,h,_,_=>by simp at h
 |_ :: _,[],_,_,_,_,h,_=>by simp at h
 |p :: P,w :: vs,0,m,nd,h1,h2,hk=>by
  simp at h1 h2;subst h1;subst h2
  show bindC kindOf ((p,w) :: P.zip vs) m p=_
  unfold bindC
  rw[ZeN fun v hv=>(List.nodup_cons.mp nd).1 (List.of_mem_zip hv).1,if_neg hk]
  simp
 |p :: P,w :: vs,i + 1,m,nd,h1,h2,hk=>by
  show bindC kindOf ((p,w) :: P.zip vs) m x=_
  unfold bindC
  exact ZeP (i:=i) (List.nodup_cons.mp nd).2 (by simpa using h1) (by simpa using h2) hk
noncomputable def start (N:List Str) (vs:List V):St:=vs.map some ++ List.replicate (N.length - vs.length) none
noncomputable def ZfC (CX:CXT) (P:Program) (w:World) (K:PySem.W.Frag) (mg:Str->Option Value) (base:Heap) (N:List Str) (qual:Str) (scope:Scope) (f:Addr) (cd:Value) (A:Around) (outer:List Env) (s:Shared) (H:Hp) (E:XK):Cx where
 prog:=P
 w:=w
 K:=K
 mg:=mg
 base:=base
 A:=A.deeper (envOfC qual scope s.heap.objs.size f cd)
 N:=N
 s₀:=s
 H₀:=H
 env:=envOfC qual scope s.heap.objs.size f cd
 outer:=outer
 stack:=envOfC qual scope s.heap.objs.size f cd :: outer
 ex:=[]
 calm:=A.handled.isNone
 fxs:=none
 fn:=fun _=>true
 pn:=[]
 xe:=fun e s'=>wpAny (model P w) (A.deeper (envOfC qual scope s.heap.objs.size f cd)) (leaving (envOfC qual scope s.heap.objs.size f cd) e) (fun _ s''=>CX outer H s E e s'') (fun e' s''=>CX outer H s E e' s'') s'
theorem Zgy {sc:Scope} {n:Nat} {x:Str} (h:sc.names.lookup x=some .cell): ∃ c,(cellsFrom n sc.names []).lookup x=some c:=by
 have q:=PySem.W.cellsFrom_some sc.names n [] (.inl h)
 exact Option.isSome_iff_exists.mp q
theorem ZhM {CX:CXT} {P:Program} {w:World} {K:PySem.W.Frag} {mg:Str->Option Value} {base:Heap} {N ps:List Str} {qual:Str} {scope:Scope} {f:Addr} {cd:Value} {A:Around} {outer:List Env} {s s1:Shared} {H:Hp} {E:XK} {us:List Value} {vs:List V}
  (S:FnScope N ps scope) (e0:Env0 P w K mg base A outer s H) (hl:vs.length=ps.length) (r:Z2 vs us)
  (x:InCallC s s.heap.objs.size (bindL (envOfC qual scope s.heap.objs.size f cd).kindOf (ps.zip us) fun _=>none) (cellsFrom (s.heap.objs.size + 1) scope.names []) (bindC (envOfC qual scope s.heap.objs.size f cd).kindOf (ps.zip us) fun _=>none) s1):
  Inv (ZfC CX P w K mg base N qual scope f cd A outer s H E) [] (start N vs) H s1:=by
 have hpl:ps.length<=N.length:=by have:=congrArg List.length S.pre;rw[List.length_take] at this;omega
 obtain ⟨h1,tk,rfl,hk⟩:=x.done
 have noA: ∀ b:Addr,b ∉ (ZfC CX P w K mg base N qual scope f cd A outer s H E).ex:=fun b z=>absurd (show b∈([]:List Addr) from z) (by simp)
 refine ⟨⟨e0.mod,S.kind,rfl,rfl,Nat.le_refl _,fun y z c h1 h2=> ?_,fun y hy=> ?_,fun y c _ h=> ?_,fun z=>Option.isNone_iff_eq_none.mp z,Around.frames_deeper e0.frames,.inr ⟨rfl,rfl⟩,fun b z=>absurd z (noA b),e0.bs,e0.bsz,fun b _ _=>noA b,fun b z=>absurd z (noA b),e0.funs,e0.frf⟩,
  rfl,e0.bare,Un.kept hk,⟨_,x.toInCall.ns,fun i y v h1 h2 h3=> ?_⟩,fun y c h=>⟨_,x.cell y c h⟩,e0.hok.fresh (Nat.le_refl _),fun y c h=> ?_,fun p hp=>absurd (show p∈([]:List (Addr × Obj)) from hp) (by simp),e0.hok.kept hk,?_,e0.qd,.free rfl⟩
 ·exact name_of_addr x.apart (PySem.mem_of_lookup h1) (PySem.mem_of_lookup h2)
 ·have hy:scope.names.lookup y=some .cell\/scope.names.lookup y=some .free:=hy
  rcases hy with hy | hy
  ·exact Zgy hy
  ·exact absurd rfl (S.nofree _ (PySem.mem_of_lookup hy))
 ·exact Nat.le_of_lt (x.above y c (PySem.mem_of_lookup h))
 ·have hi:i < vs.length:=by
   unfold start at h2
   by_cases hi:i < vs.length
   ·exact hi
   ·rw[List.getElem?_append_right (by simpa using hi)] at h2
    rw[List.getElem?_replicate] at h2
    split at h2<;>cases h2
  have ha:vs[i]?=some v:=by
   unfold start at h2
   rw[List.getElem?_append_left (by simpa using hi),List.getElem?_map] at h2
   cases e:vs[i]? with
   |none=>rw[e] at h2;cases h2
   |some a=>rw[e] at h2;cases h2;rfl
  obtain ⟨u,hu,rv⟩:=r.get ha
  have hp:ps[i]?=some y:=by
   rw[<- S.pre,List.getElem?_take_of_lt (by omega)];exact h1
  have ndP:ps.Nodup:=by rw[<- S.pre];exact S.nd.sublist (List.take_sublist _ _)
  refine ⟨u,rv,?_⟩
  rcases S.par y (List.mem_of_getElem? hp) with k | k
  ·exact .inl ⟨k,ZeO ndP hp hu k⟩
  ·obtain ⟨c,e⟩:=Zgy (n:=s.heap.objs.size + 1) k
   refine .inr ⟨.inl k,c,e,?_⟩
   have q:=x.cell y c e
   rw[ZeP ndP hp hu (by show scope.names.lookup y≠_;rw[k];decide)] at q
   exact q
 ·exact e0.hok.fresh (Nat.le_of_lt (x.above y c (PySem.mem_of_lookup h)))
 ·unfold start
  show _=N.length
  rw[List.length_append,List.length_map,List.length_replicate]
  omega
theorem ZqK {CX:CXT} {P:Program} {w:World} {K:PySem.W.Frag} {mg:Str->Option Value} {base:Heap} {k:Nat} {f:Addr} {name qual:Str} {params:Arguments} {body:List Stmt} {scope:Scope} {dV kV doc pm cdv ct oc:Value} {an od:Option Addr}
  {osl:Array (Option Value)} {N ps:List Str} {sp:Sp} (lk:K.lookup f=some ⟨oc,od,.func (PySem.W.fnOf name qual params body scope dV kV doc pm an cdv ct),osl⟩) (hcd:PySem.W.codeIn K cdv qual=true) (S:FnScope N ps scope)
  (len: ∀ vs H Q E,sp vs H Q E->vs.length=ps.length)
  (hbody: ∀ (A:Around) (outer:List Env) (s:Shared) (H:Hp) (vs:List V) (Q:VK) (E:XK),Room k (A.deeper (envOfC qual scope s.heap.objs.size f cdv))->sp vs H Q E->
   ∃ t,PSs (ZfC CX P w K mg base N qual scope f cdv A outer s H E) body t/\t { nx:=fun _ H'=>Q .non H',rt:=Q } (start N vs) H):
  FnOk P w K mg base CX (k + 1) f (PySem.W.fnOf name qual params body scope dV kV doc pm an cdv ct) ps sp:=by
 refine ⟨len,fun A outer s H args us vs Q E hr e0 hb r hsp=> ?_⟩
 have hl:=len _ _ _ _ hsp
 have KX:K.In s.heap:=e0.mod.kin.keeps fun b o e=>(e0.bs b o e).1
 have lim:s.heap.NoLimit:=e0.mod.nolimit.keeps fun b o e=>(e0.bs b o e).1
 have hkind: ∀ y∈ps.zip us,scope.names.lookup y.1=some .local\/(scope.names.lookup y.1=some .cell/\((cellsFrom (s.heap.objs.size + 1) scope.names []).lookup y.1).isSome=true):=fun ⟨n,v⟩ hy=>by
  rcases S.par n (List.of_mem_zip hy).1 with q | q
  ·exact .inl q
  ·exact .inr ⟨q,PySem.W.cellsFrom_some _ _ _ (.inl q)⟩
 refine codeAny_call_function hr.depth (KX _ _ lk) rfl S.co S.gen rfl (PySem.W.codeRec_of KX hcd) (hb _ _ _ _ ?_)
 refine wpAny_newFunctionEnv_cells S.kind hkind fun env he s1 x=> ?_
 subst he
 refine ⟨lim.keeps x.toInCall.keep,codeAny_func ?_⟩
 obtain ⟨t,ht,hq⟩:=hbody A outer s H vs Q E (hr.deeper _) hsp
 have I:Inv (ZfC CX P w K mg base N qual scope f cdv A outer s H E) [] (start N vs) H s1:=ZhM S e0 hl r x
 refine wpAny_mono (ht [] s1 (start N vs) H _ I hq) (fun fl s' hs=> ?_) fun e s' hs=>hs
 have fin: ∀ {σ':St} {H':Hp} {v:V} {u:Value},Inv (ZfC CX P w K mg base N qual scope f cdv A outer s H E) [] σ' H' s'->Z9 v u->Q v H'->CE outer P w H s Q u s':=
  fun {σ' H' v u} J rv q=>⟨v,H',J.os,J.bare,J.base,J.hok,rv,q⟩
 cases fl with
 |ret u=>
  obtain ⟨v,σ',H',J,rv,q⟩:=hs
  exact fin J rv q
 |next=>
  obtain ⟨σ',H',J,q⟩:=hs
  exact fin (v:=V.non) (u:=Value.none) J rfl q
 |brk=>
  obtain ⟨_,_,_,q⟩:=hs
  exact False.elim q
 |cont=>
  obtain ⟨_,_,_,q⟩:=hs
  exact False.elim q
end L2
namespace L2
open PySem PySem.Spec PyProof.Rows
section
variable {X:Cx} {x:Str} {p pos:Pos} {e:Expr} {es:List Expr} {t:TA} {id T:String} {r:List V->Hp->VK->Prop}
noncomputable def tCB (r:List V->Hp->VK->Prop) (t:TA):TE:=fun σ H Q=>t σ H fun vs H1=>r vs H1 Q
theorem Zee (hc:Zb6 X (.builtin id) r) (hg:Gl X x) (hm:X.mg x=none) (hv:bootBuiltins x=some (.builtin id)) (ha:PA X (e :: es) t) (hn:x≠"__name__":=by decide) (hdb:(x == ("__debug__":Str))=false:=by decide)
  (he:starEach (e :: es) X.env=(false,eval e X.env) :: starEach es X.env:=by rfl) (hpl:(backTo pos (starEach es X.env)).any (·.1)=false:=by rfl):PE X (.Call (.Name x p) (e :: es) [] pos) (tCB r t):=by
 intro pins s σ H Q I h
 refine wpAny_Call_Name_kw (Zcm I hg hm hv ?_ hn hdb)
 exact PyProof.Rows.callWith_builtin1 (thn (ha pos pins s σ H _ I h) fun us s1 ⟨vs,H1,I1,r1,q1⟩=>hc pins s1 σ H1 vs us Q I1 r1 q1) he hpl
theorem ZhN (hc:Zb6 X (.type T) r) (hg:Gl X x) (hm:X.mg x=none) (hv:bootBuiltins x=some (.type T)) (ha:PA X (e :: es) t) (hn:x≠"__name__":=by decide) (hdb:(x == ("__debug__":Str))=false:=by decide)
  (he:starEach (e :: es) X.env=(false,eval e X.env) :: starEach es X.env:=by rfl) (hpl:(backTo pos (starEach es X.env)).any (·.1)=false:=by rfl):PE X (.Call (.Name x p) (e :: es) [] pos) (tCB r t):=by
 intro pins s σ H Q I h
 refine wpAny_Call_Name_kw (Zcm I hg hm hv ?_ hn hdb)
 exact PyProof.Rows.callWith_type1 (thn (ha pos pins s σ H _ I h) fun us s1 ⟨vs,H1,I1,r1,q1⟩=>hc pins s1 σ H1 vs us Q I1 r1 q1) he hpl
end
end L2
namespace HT
open PySem PyProof.Rows
noncomputable def ZdM:List Int->List Int->Bool
 | [],[]=>false
 | [],_ :: _=>true
 |_ :: _,[]=>false
 |x :: xs,y :: ys=>if x=y then ZdM xs ys else decide (x < y)
theorem ZcB (x y:Int) (xs ys:List Int):ZdM (x :: xs) (y :: ys)=if x=y then ZdM xs ys else decide (x < y):=rfl
section
open PySem.SeqAt
open PySem.AutoSeq1 (wpAny_loadPart')
open PySem.MeetsSeq PySem.MeetsSeq2 PySem.MeetsSeq3
end
section
variable {prog:Program} {w:World} {A:Around} {E:Value->Shared->Prop} {s:Shared}
theorem ZlD {t b:Addr} {vs ws:List Value} {Q:Value->Shared->Prop} (ht:IsTup s.heap t vs.toArray) (hb:IsTup s.heap b ws.toArray) (hv:vs≠[])
  (h1:ws=[]->Q (.ref t) s) (h2:ws≠[]->Q (.ref s.heap.objs.size) { s with heap:=s.heap.push { cls:= .type "tuple",data:= .seq (vs ++ ws).toArray } })
  (hsz:vs.length + ws.length<=sizeLine):wpAny (model prog w) A (binaryOp .Add (.ref t) (.ref b)) Q E s:=by
 obtain ⟨⟨cls,dd,data,sl⟩,ho,hc,n,hd⟩:=id ht
 obtain ⟨⟨cls2,dd2,data2,sl2⟩,ho2,hc2,n2,hd2⟩:=id hb
 simp only at hc hd hc2 hd2
 subst hc hd hc2 hd2
 have e:vs.toArray ++ ws.toArray=(vs ++ ws).toArray:=by simp
 by_cases hw:ws=[]
 ·exact concat_meets ⟨_,ho,rfl⟩ ⟨_,ho2,rfl⟩ noFill_tuple_add seq_tuple_add PySem.F.slot_tuple_add PySem.F.entry_tuple_add (PySem.F.args_tuple_add_2 _ _)
   (tuple_addW1 t b vs.toArray ws.toArray n n2 dd dd2 sl sl2 (by simpa using hv) (by simp[hw])) ⟨ho,ho2,h1 hw⟩
 ·refine concat_meets ⟨_,ho,rfl⟩ ⟨_,ho2,rfl⟩ noFill_tuple_add seq_tuple_add PySem.F.slot_tuple_add PySem.F.entry_tuple_add (PySem.F.args_tuple_add_2 _ _)
   (tuple_addW2 t b vs.toArray ws.toArray n n2 dd dd2 sl sl2 (by simpa using hv) (by simpa using hw) (by rw[List.size_toArray,List.size_toArray];exact hsz)) ⟨ho,ho2,?_⟩
  rw[e]
  exact h2 hw
noncomputable def sIx (n d:Nat):Option Int->Nat
 |none=>d
 |some v=>if v < 0 then (v + (n:Int)).toNat else min v.toNat n
theorem ZnV (n d:Nat) (hd:d<=n) (o:Option Int):sIx n d o<=n:=by
 cases o with
 |none=>exact hd
 |some v=>
  show (if v < 0 then (v + (n:Int)).toNat else min v.toNat n)<=n
  by_cases hv:v < 0
  ·rw[if_pos hv];omega
  ·rw[if_neg hv];exact Nat.min_le_right _ _
theorem ZhO (v:Int) (n d:Nat):(if v < 0 then max (v + (n:Int)) 0 else min v (n:Int))=((sIx n d (some v):Nat):Int):=by
 show (if v < 0 then max (v + (n:Int)) 0 else min v (n:Int))=(((if v < 0 then (v + (n:Int)).toNat else min v.toNat n):Nat):Int)
 by_cases hv:v < 0
 ·simp only[if_pos hv];omega
 ·simp only[if_neg hv];omega
theorem Zg3 (lo hi:Option Int) (n:Nat):Builtin.Slice.sliceAdjust lo hi 1 (n:Int)=(((sIx n 0 lo:Nat):Int),((sIx n n hi:Nat):Int)):=by
 have h1: ¬ ((1:Int) < 0):=by omega
 unfold Builtin.Slice.sliceAdjust
 simp only[h1,if_false]
 refine Prod.ext ?_ ?_
 ·cases lo with
  |none=>rfl
  |some v=>exact ZhO v n 0
 ·cases hi with
  |none=>rfl
  |some v=>exact ZhO v n n
theorem Zg4 (i j:Nat):Builtin.Slice.slicePlaces (i:Int) (j:Int) 1=j - i:=by
 unfold Builtin.Slice.slicePlaces
 have h1:(1:Int) > 0:=by omega
 simp only[h1,if_true,Int.ediv_one]
 split<;>omega
theorem ZdS {v:Value} {o:Option Int} {Q:Option Int->Shared->Prop} (p:IsPart v o) (h:Q o s):wpAny (model prog w) A (Builtin.Slice.slicePartIndex v) Q E s:=by
 cases p with
 |none=>exact slicePart_none h
 |int i t=>exact slicePart_int h
theorem Zc2 {sl:Addr} {vl vu:Value} {lo hi:Option Int} {n:Nat} {Q:Int × Int × Nat->Shared->Prop} (hs:s.heap.IsSliceOf sl vl vu .none) (pl:IsPart vl lo) (pu:IsPart vu hi)
  (h:Q (((sIx n 0 lo:Nat):Int),1,sIx n n hi - sIx n 0 lo) s):wpAny (model prog w) A (Builtin.Slice.sliceApplied (.ref sl) (pure (n:Int))) Q E s:=by
 obtain ⟨os,hos,hcs,hds⟩:=id hs
 unfold Builtin.Slice.sliceApplied Builtin.Slice.sliceFields
 refine wpAny_bind (wpAny_bind (wpAny_field hos hds (x:=vl) rfl (wpAny_bind (wpAny_field hos hds (x:=vu) rfl (wpAny_bind (wpAny_field hos hds (x:= .none) rfl (wpAny_pure ?_)))))))
 refine wpAny_bind (slicePart_none ?_)
 show wpAny _ _ (if ((1:Int) == 0)=true then _ else _) _ _ s
 rw[if_neg (by decide)]
 refine wpAny_bind (ZdS pl (wpAny_bind (ZdS pu (wpAny_bind (wpAny_pure ?_)))))
 show wpAny _ _ (match Builtin.Slice.sliceAdjust lo hi 1 (n:Int) with | (lo,hi)=>pure (lo,(1:Int),Builtin.Slice.slicePlaces lo hi 1)) _ _ s
 rw[Zg3 lo hi n]
 show wpAny _ _ (pure (((sIx n 0 lo:Nat):Int),(1:Int),Builtin.Slice.slicePlaces ((sIx n 0 lo:Nat):Int) ((sIx n n hi:Nat):Int) 1)) _ _ s
 rw[Zg4]
 exact wpAny_pure h
theorem Zjy (xs:Array Value) (i k:Nat):((List.range k).filterMap fun (m:Nat)=>xs[((i:Int) + (m:Int) * 1).toNat]?).toArray=((xs.toList.drop i).take k).toArray:=by
 have e:(fun (m:Nat)=>xs[((i:Int) + (m:Int) * 1).toNat]?)=fun m=>xs[i + m]?:=by
  funext m
  have:((i:Int) + (m:Int) * 1).toNat=i + m:=by omega
  rw[this]
 rw[e]
 have:=pick_run xs i k
 rw[List.filterMap_map] at this
 have e2:((fun x=>xs[x]?) ∘ fun x=>i + x)=fun m=>xs[i + m]?:=rfl
 rw[e2] at this
 rw[this]
theorem ZcC {t sl:Addr} {items:Array Value} {vl vu:Value} {lo hi:Option Int} {Q:Value->Shared->Prop} (ht:IsTup s.heap t items) (hs:s.heap.IsSliceOf sl vl vu .none) (pl:IsPart vl lo) (pu:IsPart vu hi)
  (hw: ¬ (sIx items.size 0 lo=0/\sIx items.size items.size hi=items.size))
  (h:Q (.ref s.heap.objs.size) { s with heap:=s.heap.push { cls:= .type "tuple",data:= .seq ((items.toList.drop (sIx items.size 0 lo)).take (sIx items.size items.size hi - sIx items.size 0 lo)).toArray } })
  (hsz:items.size<=sizeLine):wpAny (model prog w) A (getItem (.ref t) (.ref sl)) Q E s:=by
 have htake:sizeOk (.seq ((items.toList.drop (sIx items.size 0 lo)).take (sIx items.size items.size hi - sIx items.size 0 lo)).toArray):=by
  show ((items.toList.drop (sIx items.size 0 lo)).take (sIx items.size items.size hi - sIx items.size 0 lo)).toArray.size<=sizeLine
  rw[List.size_toArray,List.length_take,List.length_drop,Array.length_toList]
  omega
 have hj:sIx items.size items.size hi<=items.size:=ZnV _ _ (Nat.le_refl _) hi
 obtain ⟨os,hos,hcs,hds⟩:=id hs
 have hTs:s.TypeIs (.ref sl) "slice":=⟨os,hos,hcs⟩
 unfold getItem
 try with_reducible refine wpAny_holding ?_
 first | refine wpAny_bind (wpAny_pure ?_) | skip
 refine wpAny_bind (wpAny_sequenceKey ht.typeIs (by decide) ?_)
 refine wpAny_bind (wpAny_callSpecial?_slot (name:=Str.ofString "__getitem__") ht.typeIs PyProof.Rows.slot_tuple_getitem
  (wpAny_call_entry PyProof.Rows.slot_tuple_getitem ht.typeIs entry_tuple_getitem ?_ (args_tuple_getitem _ _)))
 show wpAny _ _ (Builtin.Tuple.tupleItemsOf (.ref t) >>= _) _ _ s
 refine wpAny_bind (tupleItemsOf_ ht ?_)
 refine wpAny_bind (wpAny_typeOf hTs ?_)
 rw[if_pos (by decide)]
 refine wpAny_bind (Zc2 hs pl pu ?_)
 have hno: ¬ ((((sIx items.size 0 lo:Nat):Int) == 0 && (1:Int) == 1 && (sIx items.size items.size hi - sIx items.size 0 lo) == items.size)=true):=by
  intro q
  rw[Bool.and_eq_true,Bool.and_eq_true] at q
  have q1:((sIx items.size 0 lo:Nat):Int)=0:=eq_of_beq q.1.1
  have q2:sIx items.size items.size hi - sIx items.size 0 lo=items.size:=eq_of_beq q.2
  exact hw ⟨by omega,by omega⟩
 show wpAny _ _ (if (((sIx items.size 0 lo:Nat):Int) == 0 && (1:Int) == 1 && (sIx items.size items.size hi - sIx items.size 0 lo) == items.size)=true then _ else _) _ _ s
 rw[if_neg hno,Zjy]
 first
  |exact wpAny_bind (m:=Builtin.Tuple.tupleExact _) (wpAny_newObj_type (wpAny_pure ⟨_,rfl,wpAny_pure h⟩) htake)
  |exact wpAny_bind (m:=Builtin.Tuple.tupleExact _) (wpAny_newObj_type (wpAny_bind (wpAny_pure (wpAny_pure ⟨_,rfl,wpAny_pure h⟩))) htake)
  |exact wpAny_bind (wpAny_bind (m:=Builtin.Tuple.tupleExact _) (wpAny_newObj_type (wpAny_pure (wpAny_pure ⟨_,rfl,wpAny_pure h⟩)) htake))
  |exact wpAny_bind (wpAny_bind (m:=Builtin.Tuple.tupleExact _) (wpAny_newObj_type (wpAny_pure ⟨_,rfl,wpAny_pure h⟩) htake))
end
end HT
namespace L2
open PySem PySem.Spec PyProof.Rows
noncomputable abbrev TO:=St->Hp->(Option Int->Hp->Prop)->Prop
noncomputable def PO (X:Cx) (e:Option Expr) (t:TO):Prop:=
 ∀ (pins:List (Addr × Obj)) (s:Shared) (σ:St) (H:Hp) (Q:Option Int->Hp->Prop),Inv X pins σ H s->t σ H Q->
  wpAny (model X.prog X.w) X.A (evalPart e X.env) (fun u s'=> ∃ o H',Inv X pins σ H' s'/\IsPart u o/\Q o H') X.xe s
noncomputable def tNoPart:TO:=fun _ H Q=>Q none H
noncomputable def ZqL (t:TE):TO:=fun σ H Q=>t σ H fun x H1=> ∃ i,x= .int i/\Q (some i) H1
section
variable {X:Cx} {e:Expr} {te:TE} {lo hi:Option Expr} {tl th:TO} {pos p2:Pos}
theorem ZlE:PO X none tNoPart:=by
 intro pins s σ H Q I h
 rw[evalPart_none]
 exact wpAny_pure ⟨none,H,I,.none,h⟩
theorem ZlF (h:PE X e te):PO X (some e) (ZqL te):=by
 intro pins s σ H Q I hw
 rw[evalPart_some]
 refine thn (h pins s σ H _ I hw) fun u s1 ⟨x,H1,I1,r1,q1⟩=> ?_
 obtain ⟨i,rfl,q⟩:=q1
 obtain ⟨t,rfl⟩:=r1
 exact ⟨some i,H1,I1,.int i t,q⟩
noncomputable def SlR (X:Cx) (r:V->Option Int->Option Int->Hp->VK->Prop):Prop:=
 ∀ (pins:List (Addr × Obj)) (s:Shared) (σ:St) (H:Hp) (x:V) (v vl vu:Value) (lo hi:Option Int) (sl:Addr) (Q:VK),Inv X pins σ H s->Z9 x v->s.heap.IsSliceOf sl vl vu .none->IsPart vl lo->IsPart vu hi->r x lo hi H Q->
  ∃ T id,typeLookup (.type T) "__getitem__"=pure (some (.builtin id))/\s.TypeIs v T/\wpAny (model X.prog X.w) X.A (getItem v (.ref sl)) (EP X pins σ Q) X.xe s
theorem SlR.or {r r':V->Option Int->Option Int->Hp->VK->Prop} (h:SlR X r) (h':SlR X r'):SlR X (fun x lo hi H Q=>r x lo hi H Q\/r' x lo hi H Q):=by
 intro pins s σ H x v vl vu lo hi sl Q I rx hs pl pu q
 rcases q with q | q
 ·exact h pins s σ H x v vl vu lo hi sl Q I rx hs pl pu q
 ·exact h' pins s σ H x v vl vu lo hi sl Q I rx hs pl pu q
noncomputable def tSl (r:V->Option Int->Option Int->Hp->VK->Prop) (te:TE) (tl th:TO):TE:=fun σ H Q=>te σ H fun x H1=>tl σ H1 fun l H2=>th σ H2 fun u H3=>r x l u H3 Q
theorem Zjz {r:V->Option Int->Option Int->Hp->VK->Prop} (hr:SlR X r) (he:PE X e te) (hl:PO X lo tl) (hu:PO X hi th):PE X (.Subscript e (.Slice lo hi none p2) pos) (tSl r te tl th):=by
 intro pins s σ H Q I h
 refine Subscript_ (thn (he pins s σ H _ I h) fun v s1 ⟨x,H1,I1,r1,q1⟩=> ?_)
 refine wpAny_Slice (thn (hl pins s1 σ H1 _ I1 q1) fun vl s2 ⟨l,H2,I2,pl,q2⟩=>thn (hu pins s2 σ H2 _ I2 q2) fun vu s3 ⟨u,H3,I3,pu,q3⟩=> ?_)
 rw[evalPart_none]
 refine wpAny_pure ?_
 have I4:Inv X pins σ H3 { s3 with heap:=s3.heap.push { cls:= .type "slice",data:= .fields #[vl,vu,.none] } }:=I3.kept (t':=s3.toks) fun b ob q=>Heap.get?_push_of_some _ q
 obtain ⟨T,id,hT,ht,hg⟩:=hr pins { s3 with heap:=s3.heap.push { cls:= .type "slice",data:= .fields #[vl,vu,.none] } } σ H3 x v vl vu l u s3.heap.objs.size Q I4 r1 (Heap.IsSliceOf.new ..) pl pu q3
 show wpAny (model X.prog X.w) X.A (subscriptTail e (.Slice lo hi none p2) v (.ref s3.heap.objs.size)) (EP X pins σ Q) X.xe { s3 with heap:=s3.heap.push { cls:= .type "slice",data:= .fields #[vl,vu,.none] } }
 exact tail_any (ops:=[.ref s3.heap.objs.size,v]) ht hT hg (by with_unfolding_all rfl)
noncomputable def ZkM (xs:List V) (lo hi:Option Int):List V:=(xs.drop (HT.sIx xs.length 0 lo)).take (HT.sIx xs.length xs.length hi - HT.sIx xs.length 0 lo)
theorem Zdh (xs:List V) (lo hi:Option Int):(ZkM xs lo hi).length<=xs.length:=by
 unfold ZkM
 rw[List.length_take,List.length_drop]
 omega
noncomputable def ZtK (K:PySem.W.Frag):V->Option Int->Option Int->Hp->VK->Prop:=fun x lo hi H Q=> ∃ a xs,x= .ref a/\SqT K H a xs/\
 ¬ (HT.sIx xs.length 0 lo=0/\HT.sIx xs.length xs.length hi=xs.length)/\ ∀ p,H p=none->Q (.ref p) (upd H p (.tup (ZkM xs lo hi)))
theorem ZnW:SlR X (ZtK X.K):=by
 intro pins s σ H x v vl vu lo hi sl Q I rx hs pl pu h
 obtain ⟨a,xs,rfl,hx,hw,q⟩:=h
 cases rx
 obtain ⟨its,r,ht,hz⟩:=I.tuple hx
 have hlen:its.toArray.size=xs.length:=by rw[List.size_toArray];exact r.length.symm
 refine ⟨"tuple",_,PyProof.Rows.slot_tuple_getitem.lookup,ht.typeIs,?_⟩
 refine HT.ZcC ht hs pl pu (by rw[hlen];exact hw) ?_ (by rw[hlen];exact hz)
 rw[hlen]
 refine ⟨.ref s.heap.objs.size,_,I.laid (t':=s.toks) (o:= .tup (ZkM xs lo hi)) (fun b ob q=>Heap.get?_push_of_some _ q) (Nat.le_refl _) ?_,rfl,q _ (I.hok.fresh (Nat.le_refl _))⟩
 exact ⟨Nat.le_trans (Zdh xs lo hi) hz,_,(r.drop (HT.sIx xs.length 0 lo)).take (HT.sIx xs.length xs.length hi - HT.sIx xs.length 0 lo),IsTup.new _ _⟩
noncomputable def ZlG (K:PySem.W.Frag):R2:=fun x y H Q=> ∃ a b xs ys,x= .ref a/\y= .ref b/\SqT K H a xs/\SqT K H b ys/\xs≠[]/\xs.length + ys.length<=sizeLine/\
 (ys=[]->Q (.ref a) H)/\(ys≠[]-> ∀ p,H p=none->Q (.ref p) (upd H p (.tup (xs ++ ys))))
theorem Z2.nil_iff {xs:List V} {us:List Value} (r:Z2 xs us):us=[] ↔ xs=[]:=by
 cases r with
 |nil=>simp
 |cons _ _=>simp
theorem ZlH:OpR X (binaryOp .Add) (ZlG X.K):=by
 intro pins s σ H x y v u Q I rx ry h
 obtain ⟨a,b,xs,ys,rfl,rfl,ha,hb,hx,hz,q1,q2⟩:=h
 cases rx
 cases ry
 obtain ⟨its,r1,p1,_⟩:=I.tuple ha
 obtain ⟨its2,r2,p2,_⟩:=I.tuple hb
 refine HT.ZlD p1 p2 (fun z=>hx (r1.nil_iff.mp z)) (fun z=>⟨.ref a,H,I,rfl,q1 (r2.nil_iff.mp z)⟩) (fun z=> ?_) (by rw[<- r1.length,<- r2.length];exact hz)
 refine ⟨.ref s.heap.objs.size,_,I.laid (t':=s.toks) (o:= .tup (xs ++ ys)) (fun b ob q=>Heap.get?_push_of_some _ q) (Nat.le_refl _) ?_,rfl,q2 (fun w=>z (r2.nil_iff.mpr w)) _ (I.hok.fresh (Nat.le_refl _))⟩
 exact ⟨by rw[List.length_append];exact hz,_,r1.append r2,IsTup.new _ _⟩
end
end L2
namespace L2
open PySem PySem.Spec PyProof.Rows
noncomputable def ixN (n:Nat) (i:Int):Option Nat:=if 0<=i then (if i < n then some i.toNat else none) else if -(n:Int)<=i then some (i + n).toNat else none
noncomputable def atI {α:Type} (xs:List α) (i:Int):Option α:=(ixN xs.length i).bind fun j=>xs[j]?
theorem ZhP {n:Nat} {i:Int} {j:Nat} (h:ixN n i=some j):seqIndex? i n=some j/\j < n/\ -(n:Int)<=i/\i < n:=by
 unfold ixN at h
 by_cases h0:0<=i
 ·rw[if_pos h0] at h
  by_cases h1:i < n
  ·rw[if_pos h1] at h
   have e:i.toNat=j:=Option.some.inj h
   exact ⟨by rw[seqIndex_of h0 h1,e],by omega,by omega,h1⟩
  ·rw[if_neg h1] at h;cases h
 ·rw[if_neg h0] at h
  by_cases h1: -(n:Int)<=i
  ·rw[if_pos h1] at h
   have e:(i + n).toNat=j:=Option.some.inj h
   exact ⟨by rw[seqIndex_neg (by omega) h1,e],by omega,h1,by omega⟩
  ·rw[if_neg h1] at h;cases h
theorem ZhQ {α:Type} {xs:List α} {i:Int} {v:α} (h:atI xs i=some v): ∃ j,seqIndex? i xs.length=some j/\xs[j]?=some v/\j < xs.length/\ -(xs.length:Int)<=i/\i < xs.length:=by
 unfold atI at h
 cases e:ixN xs.length i with
 |none=>rw[e] at h;cases h
 |some j=>
  rw[e] at h
  obtain ⟨h1,h2,h3,h4⟩:=ZhP e
  exact ⟨j,h1,h,h2,h3,h4⟩
theorem ZlI {α:Type} {xs:List α} {j:Nat} {v:α} (h:xs[j]?=some v):atI xs (j:Int)=some v:=by
 have hj:j < xs.length:=(List.getElem?_eq_some_iff.mp h).1
 have e:ixN xs.length (j:Int)=some j:=by
  unfold ixN
  rw[if_pos (by omega),if_pos (by omega)];simp
 unfold atI;rw[e];exact h
noncomputable def ZhR (b:Expr):Prop:= ∀ o i,subscripted b false o i=operate [o,i] (getItem o i)
noncomputable def IxR (X:Cx) (r:R2):Prop:=
 ∀ (value slice:Expr) (pins:List (Addr × Obj)) (s:Shared) (σ:St) (H:Hp) (x y:V) (v u:Value) (Q:VK),Inv X pins σ H s->Z9 x v->Z9 y u->r x y H Q->
  subscripted slice false v u=operate [v,u] (getItem v u)->wpAny (model X.prog X.w) X.A (subscriptTail value slice v u) (EP X pins σ Q) X.xe s
noncomputable def MtR (X:Cx) (id:String) (r:V->List V->Hp->VK->Prop):Prop:=
 ∀ (pins:List (Addr × Obj)) (s:Shared) (σ:St) (H:Hp) (x:V) (xs:List V) (v:Value) (us:List Value) (Q:VK),Inv X pins σ H s->Z9 x v->Z2 xs us->r x xs H Q->
  wpAny (model X.prog X.w) X.A (call (.builtin id) (v :: us)) (EP X pins σ Q) X.xe s
section
variable {X:Cx} {a b:Expr} {ta tb:TE} {pos:Pos}
theorem IxR.or {r r':R2} (h:IxR X r) (h':IxR X r'):IxR X (fun x y H Q=>r x y H Q\/r' x y H Q):=by
 intro value slice pins s σ H x y v u Q I rx ry q hs
 rcases q with q | q
 ·exact h value slice pins s σ H x y v u Q I rx ry q hs
 ·exact h' value slice pins s σ H x y v u Q I rx ry q hs
theorem ZqM {r:R2} (hr:IxR X r) (ha:PE X a ta) (hb:PE X b tb) (hs:ZhR b):PE X (.Subscript a b pos) (tOp r ta tb):=by
 intro pins s σ H Q I h
 exact Subscript_ (ZqE ha hb I h fun v u s2 x y H2 I2 rx ry q=>hr a b pins s2 σ H2 x y v u Q I2 rx ry q (hs _ _))
noncomputable def ZsD (K:PySem.W.Frag):R2:=fun x y H Q=> ∃ p xs i v,x= .ref p/\y= .int i/\SqL K H p xs/\atI xs i=some v/\Q v H
noncomputable def ZsE (K:PySem.W.Frag):R2:=fun x y H Q=> ∃ p xs i v,x= .ref p/\y= .int i/\SqT K H p xs/\atI xs i=some v/\Q v H
theorem ZlJ:IxR X (ZsD X.K):=by
 intro value slice pins s σ H x y v u Q I rx ry h hs
 obtain ⟨p,xs,i,z,rfl,rfl,hq,he,q⟩:=h
 cases rx
 obtain ⟨t,rfl⟩:=ry
 obtain ⟨its,r,pl,hz⟩:=I.list hq
 obtain ⟨j,h1,h2,h3,h4,h5⟩:=ZhQ he
 obtain ⟨w,ew,rw'⟩:=r.get h2
 have hl:=r.length
 have hn:=Zgx
 have fin:EP X pins σ Q w s:=⟨z,H,I,rw',q⟩
 by_cases h0:0<=i
 ·have hj:i.toNat=j:=by
   rw[seqIndex_of h0 h5] at h1
   exact Option.some.inj h1
  exact item_listR pl.isList h0 (by omega) (by rw[hj];simpa using ew) fin hs
 ·have hj:(i + (its.toArray.size:Int)).toNat=j:=by
   rw[seqIndex_neg (by omega) h4] at h1
   rw[List.size_toArray,<- hl]
   exact Option.some.inj h1
  exact subscriptTail_builtinR (x:=w) pl.isList.typeIs slot_list_getitem.lookup
   (wpAny_getItem_list_neg (Q:=fun r s'=>r=w/\EP X pins σ Q r s') pl.isList (by omega) (by rw[List.size_toArray]<;>omega) (by omega) (by rw[hj];simpa using ew) ⟨rfl,fin⟩) hs
theorem ZnX:IxR X (ZsE X.K):=by
 intro value slice pins s σ H x y v u Q I rx ry h hs
 obtain ⟨p,xs,i,z,rfl,rfl,hq,he,q⟩:=h
 cases rx
 obtain ⟨t,rfl⟩:=ry
 obtain ⟨its,r,pl,hz⟩:=I.tuple hq
 obtain ⟨j,h1,h2,h3,h4,h5⟩:=ZhQ he
 obtain ⟨w,ew,rw'⟩:=r.get h2
 have hl:=r.length
 have hn:=Zgx
 have fin:EP X pins σ Q w s:=⟨z,H,I,rw',q⟩
 exact subscriptTail_builtinR (x:=w) pl.typeIs slot_tuple_getitem.lookup
  (getItem_tuple (j:=j) (Q:=fun r s'=>r=w/\EP X pins σ Q r s') pl (by omega) (by omega) (by rw[List.size_toArray,<- hl];exact h1) (by simpa using ew) ⟨rfl,fin⟩) hs
theorem Zg5 (its:List Value) (n j:Nat) (u:Value):Obj.mapSeq (·.setIfInBounds j u) { cls:= .type "list",data:= .seq its.toArray n }={ cls:= .type "list",data:= .seq (its.set j u).toArray n }:=by
 simp[Obj.mapSeq]
theorem Inv.lst {pins:List (Addr × Obj)} {σ:St} {H:Hp} {s:Shared} {p:Addr} {xs:List V} (I:Inv X pins σ H s) (h:H p=some (.lst xs)):
  ∃ (its:List Value) (n:Nat),Z2 xs its/\s.heap.get? p=some { cls:= .type "list",data:= .seq its.toArray n }/\xs.length<=sizeLine:=by
 obtain ⟨z,its,n,r,e⟩:=I.hok p _ h
 exact ⟨its,n,r,e,z⟩
theorem Inv.lstUpd {pins:List (Addr × Obj)} {σ:St} {H:Hp} {s:Shared} {p:Addr} {xs ys:List V} {its its':List Value} {n n':Nat} {f:Obj->Obj} (I:Inv X pins σ H s) (h:H p=some (.lst xs))
  (ho:s.heap.get? p=some { cls:= .type "list",data:= .seq its.toArray n }) (hf:f { cls:= .type "list",data:= .seq its.toArray n }={ cls:= .type "list",data:= .seq its'.toArray n' }) (r:Z2 ys its') (hz:ys.length<=sizeLine) (t:Nat):
  Inv X pins σ (upd H p (.lst ys)) { s with heap:=s.heap.update p f,toks:=t }:=by
 have e:(s.heap.update p f).get? p=some { cls:= .type "list",data:= .seq its'.toArray n' }:=by
  rw[Heap.get?_update_self f ho (by rw[hf]<;>rfl),hf]
 refine I.write (x:=p) (e:=p) (by rw[h];trivial) (.inl rfl) (fun b u hb q=>(Heap.get?_update_other _ _ (Ne.symm hb)).trans q) ⟨_,e⟩ ?_
 exact ⟨hz,its',n',r,e⟩
noncomputable def rSetL:V->V->V->Hp->(Hp->Prop)->Prop:=fun o i v H Q=> ∃ p xs k j,o= .ref p/\i= .int k/\H p=some (.lst xs)/\ixN xs.length k=some j/\Q (upd H p (.lst (xs.set j v)))
theorem ZjA:Zsz X rSetL:=by
 intro pins s σ H o i v ov iv u Q I ro ri rv h
 obtain ⟨p,xs,k,j,rfl,rfl,hp,hj,q⟩:=h
 cases ro
 obtain ⟨t,rfl⟩:=ri
 obtain ⟨its,n,r,ho,hz⟩:=I.lst hp
 obtain ⟨h1,h2,h3,h4⟩:=ZhP hj
 have hl:=r.length
 have hn:=Zgx
 have I':Inv X pins σ (upd H p (.lst (xs.set j v))) { s with heap:=s.heap.update p (Obj.mapSeq (·.setIfInBounds j u)) }:=
  I.lstUpd hp ho (Zg5 its n j u) (r.set rv j) (by rw[List.length_set];exact hz) s.toks
 by_cases h0:0<=k
 ·have hk:k.toNat=j:=by
   rw[seqIndex_of h0 h4] at h1
   exact Option.some.inj h1
  exact PySem.W.ki_setAt ho h0 (by omega) (by rw[List.size_toArray,<- hl];exact h4) (by rw[hk];exact ⟨_,I',q⟩)
 ·have hk:(k + (its.toArray.size:Int)).toNat=j:=by
   rw[seqIndex_neg (by omega) h3] at h1
   rw[List.size_toArray,<- hl]
   exact Option.some.inj h1
  exact PySem.W.ki_setBack ho (by omega) (by rw[List.size_toArray,<- hl];exact h3) (by omega) (by rw[hk];exact ⟨_,I',q⟩)
theorem ZeQ (lo hi:Option Int) (n:Nat):(sliceBounds lo hi none n).1=((HT.sIx n 0 lo:Nat):Int)/\(sliceBounds lo hi none n).2.1=((HT.sIx n n hi:Nat):Int)/\(sliceBounds lo hi none n).2.2=1:=by
 refine ⟨?_,?_,rfl⟩
 ·cases lo with
  |none=>simp[sliceBounds,HT.sIx]
  |some i=>
   simp only[sliceBounds,HT.sIx,Option.getD_none,show (1:Int) > 0 by decide,if_true]
   by_cases h:i < 0
   ·simp only[h,if_true]<;>omega
   ·simp only[h,if_false]<;>omega
 ·cases hi with
  |none=>simp[sliceBounds,HT.sIx]
  |some i=>
   simp only[sliceBounds,HT.sIx,Option.getD_none,show (1:Int) > 0 by decide,if_true]
   by_cases h:i < 0
   ·simp only[h,if_true]<;>omega
   ·simp only[h,if_false]<;>omega
theorem Zef (its:List Value) (lo hi:Option Int):slicePick its.toArray lo hi none=((its.drop (HT.sIx its.length 0 lo)).take (HT.sIx its.length its.length hi - HT.sIx its.length 0 lo)).toArray:=by
 obtain ⟨h1,h2,h3⟩:=ZeQ lo hi its.toArray.size
 unfold slicePick
 rw[h1,h2,h3]
 simp only[sliceRange_one,pick_run,List.size_toArray]<;>rfl
noncomputable def ZtL (K:PySem.W.Frag):V->Option Int->Option Int->Hp->VK->Prop:=fun x lo hi H Q=> ∃ a xs,x= .ref a/\SqL K H a xs/\ ∀ p,H p=none->Q (.ref p) (upd H p (.lst (ZkM xs lo hi)))
theorem ZlK:SlR X (ZtL X.K):=by
 intro pins s σ H x v vl vu lo hi sl Q I rx hs pl pu h
 obtain ⟨a,xs,rfl,hx,q⟩:=h
 cases rx
 obtain ⟨its,r,ht,hz⟩:=I.list hx
 have hlen:=r.length
 refine ⟨"list",_,slot_list_getitem.lookup,ht.isList.typeIs,?_⟩
 refine wpAny_getItem_list_slice ht.isList hs pl pu .none (by simp) ?_ (by rw[List.size_toArray]<;>omega)
 rw[Zef,<- hlen]
 refine ⟨.ref s.heap.objs.size,_,I.laid (t':=s.toks) (o:= .lst (ZkM xs lo hi)) (fun b ob q=>Heap.get?_push_of_some _ q) (Nat.le_refl _) ?_,rfl,q _ (I.hok.fresh (Nat.le_refl _))⟩
 exact ⟨Nat.le_trans (Zdh xs lo hi) hz,_,0,(r.drop (HT.sIx xs.length 0 lo)).take (HT.sIx xs.length xs.length hi - HT.sIx xs.length 0 lo),Heap.get?_push_size _ rfl⟩
theorem Zq:Zb6 X (.builtin "len") (fun xs H Q=> ∃ p ys,xs=[.ref p]/\(SqL X.K H p ys\/SqT X.K H p ys)/\Q (.int ys.length) H):=by
 intro pins s σ H xs us Q I r h
 obtain ⟨p,ys,rfl,hq,q⟩:=h
 obtain ⟨u,rfl,rx⟩:=ZdL r
 cases rx
 have hn:=Zgx
 rcases hq with hq | hq
 ·obtain ⟨its,r',pl,hz⟩:=I.list hq
  have hlen:=r'.length
  exact Calls.call_len_list pl.isList (by simp only[List.size_toArray]<;>omega) ⟨.int ys.length,H,I.tok _,⟨s.toks + 1,by rw[List.size_toArray,hlen]⟩,q⟩
 ·obtain ⟨its,r',pl,hz⟩:=I.tuple hq
  have hlen:=r'.length
  exact len_tuple pl (by simp only[List.size_toArray]<;>omega) ⟨.int ys.length,H,I.tok _,⟨s.toks + 1,by rw[List.size_toArray,hlen]⟩,q⟩
theorem ZaP:Zb6 X (.type "list") (fun xs H Q=> ∃ p ys,xs=[.ref p]/\(SqL X.K H p ys\/SqT X.K H p ys)/\ ∀ l,H l=none->Q (.ref l) (upd H l (.lst ys))):=by
 intro pins s σ H xs us Q I r h
 obtain ⟨p,ys,rfl,hq,q⟩:=h
 obtain ⟨u,rfl,rx⟩:=ZdL r
 cases rx
 have fin: ∀ (its:List Value),Z2 ys its->ys.length<=sizeLine-> ∀ (h':Heap) (c':Nat),(∀ b o',s.heap.get? b=some o'->h'.get? b=some o')->
   h'.get? s.heap.objs.size=some { cls:= .type "list",dict:=none,data:= .seq its.toArray c',slots:= #[] }->EP X pins σ Q (.ref s.heap.objs.size) { s with heap:=h' }:=fun its r' hz h' c' kp e=>
  ⟨.ref s.heap.objs.size,_,I.laid (t':=s.toks) kp (Nat.le_refl _) (show Za6 X.prog X.w _ h' _ (.lst ys) from ⟨hz,its,c',r',e⟩),rfl,q _ (I.hok.fresh (Nat.le_refl _))⟩
 rcases hq with hq | hq
 ·obtain ⟨its,r',pl,hz⟩:=I.list hq
  have hlen:=r'.length
  obtain ⟨o,ho,hc,n,hd⟩:=pl.isList
  exact call_list_seq p (.inl rfl) ho hc hd (fun h' c' kp e=>fin its r' hz h' c' kp e) (by simp only[List.size_toArray]<;>omega)
 ·obtain ⟨its,r',pl,hz⟩:=I.tuple hq
  have hlen:=r'.length
  obtain ⟨o,ho,hc,n,hd⟩:=pl
  exact call_list_seq p (.inr rfl) ho hc hd (fun h' c' kp e=>fin its r' hz h' c' kp e) (by simp only[List.size_toArray]<;>omega)
noncomputable def tyV (K:PySem.W.Frag) (T:String) (x:V) (H:Hp):Prop:=match x with
 | .str _=>T="str"
 | .int _=>T="int"
 | .ref p=>(T="list"/\ ∃ xs,SqL K H p xs)\/(T="tuple"/\ ∃ o,K.lookup p=some o/\o.cls= .type "tuple"/\o.dict=none)\/
   (T="dict"/\((∃ kvs,H p=some (.dK kvs))\/ ∃ kvs,H p=some (.dT kvs)))\/(T="set"/\ ∃ S n,H p=some (.set S n))
 |_=>False
theorem ZnY {pins:List (Addr × Obj)} {σ:St} {H:Hp} {s:Shared} {T:String} {x:V} {v:Value} (I:Inv X pins σ H s) (r:Z9 x v) (ty:tyV X.K T x H):
  s.TypeIs v T/\ ∀ a,v= .ref a-> ∃ ob,s.heap.get? a=some ob/\ob.dict=none:=by
 cases x with
 |str z=>
  obtain ⟨t,rfl⟩:=r
  cases (show T="str" from ty)
  exact ⟨typeIs_str s z t,fun _ e=>nomatch e⟩
 |int i=>
  obtain ⟨t,rfl⟩:=r
  cases (show T="int" from ty)
  exact ⟨typeIs_int s i t,fun _ e=>nomatch e⟩
 |ref p=>
  cases r
  rcases ty with ⟨rfl,xs,hq⟩ | ⟨rfl,o,hk,hc,hd⟩ | ⟨rfl,hk⟩ | ⟨rfl,S,n,hk⟩
  ·obtain ⟨its,_,pl,_⟩:=I.list hq
   refine ⟨pl.isList.typeIs,fun a e=> ?_⟩
   cases e
   obtain ⟨o,n,e,c,hd,_⟩:=pl
   exact ⟨o,e,hd⟩
  ·refine ⟨⟨o,I.kIn p o hk,hc⟩,fun a e=> ?_⟩
   cases e
   exact ⟨o,I.kIn _ o hk,hd⟩
  ·have z: ∃ o,s.heap.get? p=some o/\o.ExactDict:=by
    rcases hk with ⟨kvs,hk⟩ | ⟨kvs,hk⟩
    ·obtain ⟨_,_,_,_,o,_,_,e,ex,_⟩:=I.hok p _ hk
     exact ⟨o,e,ex⟩
    ·obtain ⟨_,_,_,_,o,_,_,e,ex,_⟩:=I.hok p _ hk
     exact ⟨o,e,ex⟩
   obtain ⟨o,e,ex⟩:=z
   refine ⟨⟨o,e,ex.1⟩,fun a e2=> ?_⟩
   cases e2
   exact ⟨o,e,ex.2.1⟩
  ·obtain ⟨o,_,_,_,e,ex,_⟩:=I.hok p _ hk
   refine ⟨⟨o,e,ex.1⟩,fun a e2=> ?_⟩
   cases e2
   exact ⟨o,e,ex.2.1⟩
 |_=>exact False.elim ty
noncomputable def tBM (K:PySem.W.Frag) (T:String) (r:V->List V->Hp->VK->Prop) (to:TE) (t:TA):TE:=fun σ H Q=>to σ H fun x H1=>tyV K T x H1/\t σ H1 fun xs H2=>r x xs H2 Q
variable {o e:Expr} {es:List Expr} {to:TE} {t:TA} {name:Str} {apos cpos:Pos} {T id:String} {r:V->List V->Hp->VK->Prop}
theorem ZqN (pa:PlainAttrs T) (slot:Slot T name id) (hty:typeOf (.builtin id)=pure (.type "method_descriptor")) (hm:MtR X id r) (ho:PE X o to) (ha:PA X (e :: es) t)
  (hbase:attributeBase o name X.env (eval o X.env)=eval o X.env:=by rfl)
  (hfew:((backTo cpos (starEach (e :: es) X.env)).all (fun x=> !x.1) && (backToKw cpos (keywordEach [] X.env)).all (fun x=>x.1.isSome)
   && decide ((e :: es).length + ([]:List Keyword).length + (if ([]:List Keyword).isEmpty then 0 else 1) < 30))=true:=by rfl)
  (hline:(apos.endLine == cpos.line)=true:=by rfl) (hs:starEach (e :: es) X.env=(false,eval e X.env) :: starEach es X.env:=by rfl) (hplain:(backTo cpos (starEach es X.env)).any (·.1)=false:=by rfl):
  PE X (.Call (.Attribute o name apos) (e :: es) [] cpos) (tBM X.K T r to t):=by
 intro pins s σ H Q I h
 refine wpAny_Call_method_late hbase hfew hline rfl (thn (ho pins s σ H _ I h) fun v s1 ⟨x,H1,I1,r1,ty,q1⟩=> ?_)
 obtain ⟨h1,h2⟩:=ZnY I1 r1 ty
 refine ⟨T,id,pa,slot,hty,h1,h2,?_⟩
 have hA:=ha cpos pins s1 σ H1 _ I1 q1
 rw[hs] at hA ⊢
 refine Calls.callWith_builtin (by show (false || (backTo cpos (starEach es X.env)).any (·.1))=false;rw[hplain]<;>rfl) (Calls.evalArgs_plain ?_)
 exact thn hA fun us s2 ⟨vs,H2,I2,r2,q2⟩=>hm pins s2 σ H2 x vs v us Q I2 r1 r2 q2
end
end L2
namespace L2
open PySem PySem.Spec PyProof.Rows
noncomputable def MtM (X:Cx) (id:String) (r:V->List V->Hp->VK->Prop):Prop:=
 ∀ (pins:List (Addr × Obj)) (s:Shared) (σ:St) (H:Hp) (x:V) (xs:List V) (v:Value) (us:List Value) (Q:VK),Inv X pins σ H s->Z9 x v->Z2 xs us->r x xs H Q->
  wpAny (model X.prog X.w) X.A (call (.builtin id) (v :: us)) (EP X pins σ Q) X.xe s
theorem Z2.one: ∀ {x:V} {us:List Value},Z2 [x] us-> ∃ u,us=[u]/\Z9 x u
 |_,_,.cons r .nil=>⟨_,rfl,r⟩
theorem Z2.reverse {xs:List V} {us:List Value} (h:Z2 xs us):Z2 xs.reverse us.reverse:=by
 induction h with
 |nil=>exact .nil
 |cons r t ih=>rw[List.reverse_cons,List.reverse_cons];exact Z2.append ih (.cons r .nil)
theorem Z2.rep {xs:List V} {us:List Value} (h:Z2 xs us): ∀ k:Nat,Z2 (List.replicate k xs).flatten (List.replicate k us).flatten
 |0=> .nil
 |k + 1=>by
  rw[List.replicate_succ,List.replicate_succ,List.flatten_cons,List.flatten_cons]
  exact Z2.append h (Z2.rep h k)
theorem ZeR (its:List Value): ∀ (k:Nat) (acc:List Value),
  List.foldl (fun x1 x2=>x1 ++ x2) acc.toArray (List.replicate k its.toArray)=(acc ++ (List.replicate k its).flatten).toArray
 |0,acc=>by simp
 |k + 1,acc=>by
  have e:acc.toArray ++ its.toArray=(acc ++ its).toArray:=by simp
  have e2:(acc ++ its) ++ (List.replicate k its).flatten=acc ++ (List.replicate (k + 1) its).flatten:=by
   rw[List.replicate_succ,List.flatten_cons,List.append_assoc]
  rw[<- e2,<- ZeR its k (acc ++ its),<- e,List.replicate_succ,List.foldl_cons]
section
variable {X:Cx} {pins:List (Addr × Obj)} {σ:St} {H:Hp} {s:Shared} {l b:Addr} {xs ys zs:List V}
theorem Inv.lset {its its':List Value} {n:Nat} {f:Array Value->Array Value} {t':Nat} (I:Inv X pins σ H s) (hH:H l=some (.lst xs))
  (e:s.heap.get? l=some { cls:= .type "list",data:= .seq its.toArray n }) (hf:f its.toArray=its'.toArray) (hv:Z2 ys its') (hz:ys.length<=sizeLine):
  Inv X pins σ (upd H l (.lst ys)) { s with heap:=s.heap.update l (Obj.mapSeq f),toks:=t' }:=by
 have q:=PySem.IsL.update e f
 rw[hf] at q
 refine I.write (x:=l) (e:=l) (by rw[hH];exact trivial) (.inl rfl) (fun b' u hb hu=>(Heap.get?_update_other s.heap (Obj.mapSeq f) (Ne.symm hb)).trans hu) ⟨_,q⟩ ?_
 exact ⟨hz,its',_,hv,q⟩
theorem Inv.lnew {its:List Value} {t':Nat} (I:Inv X pins σ H s) (hv:Z2 ys its) (hz:ys.length<=sizeLine):
  Inv X pins σ (upd H s.heap.objs.size (.lst ys)) { s with heap:=s.heap.push { cls:= .type "list",data:= .seq its.toArray },toks:=t' }:=
 I.laid (fun _ _ q=>Heap.get?_push_of_some _ q) (Nat.le_refl _) ⟨hz,its,0,hv,Heap.get?_push_size _ rfl⟩
theorem Inv.fresh (I:Inv X pins σ H s):H s.heap.objs.size=none:=I.hok.fresh (Nat.le_refl _)
theorem Inv.lstM (I:Inv X pins σ H s) (hH:H l=some (.lst xs)):xs.length<=sizeLine/\ ∃ (its:List Value) (n:Nat),Z2 xs its/\xs.length=its.length/\s.heap.get? l=some { cls:= .type "list",data:= .seq its.toArray n }:=by
 obtain ⟨z,its,n,r,e⟩:=I.hok l _ hH
 exact ⟨z,its,n,r,r.length,e⟩
theorem Zgz {n:Nat} (h:n<=sizeLine):Builtin.List.listTooLong n=false:=by
 unfold Builtin.List.listTooLong
 exact decide_eq_false (by omega)
end
section
variable {X:Cx}
noncomputable def rAppend:V->List V->Hp->VK->Prop:=fun x vs H Q=> ∃ l xs y,x= .ref l/\vs=[y]/\H l=some (.lst xs)/\xs.length < sizeLine/\Q .non (upd H l (.lst (xs ++ [y])))
theorem ZeS:MtM X "list.append" rAppend:=by
 intro pins s σ H x vs v us Q I rx rv h
 obtain ⟨l,xs,y,rfl,rfl,hH,hz,q⟩:=h
 cases rx
 obtain ⟨u,rfl,ru⟩:=rv.one
 obtain ⟨z,its,n,r,hl,e⟩:=I.lstM hH
 refine call_meets F.slot_list_append ⟨_,e,rfl⟩ F.entry_list_append (F.args_list_append_2 _ _) (PySem.list_append l its.toArray n u (by rw[List.size_toArray];omega)) ⟨e,?_⟩
 refine ⟨.non,_,I.lset (its':=its ++ [u]) hH e (by simp) (r.append (.cons ru .nil)) ?_,rfl,q⟩
 rw[List.length_append,List.length_singleton]
 omega
noncomputable def rExtend:V->List V->Hp->VK->Prop:=fun x vs H Q=> ∃ l b xs zs,x= .ref l/\vs=[.ref b]/\H l=some (.lst xs)/\H b=some (.lst zs)/\xs.length + zs.length<=sizeLine/\Q .non (upd H l (.lst (xs ++ zs)))
theorem ZhS:MtM X "list.extend" rExtend:=by
 intro pins s σ H x vs v us Q I rx rv h
 obtain ⟨l,b,xs,zs,rfl,rfl,hH,hB,hz,q⟩:=h
 cases rx
 obtain ⟨u,rfl,ru⟩:=rv.one
 cases ru
 obtain ⟨z,its,n,r,hl,e⟩:=I.lstM hH
 obtain ⟨z2,its2,n2,r2,hl2,e2⟩:=I.lstM hB
 have hsz:its.toArray.size + its2.toArray.size<=sizeLine:=by rw[List.size_toArray,List.size_toArray];omega
 have hlong: ¬ (!its.toArray.isEmpty && Builtin.List.listTooLong (its.toArray.size + its2.toArray.size))=true:=by
  rw[Zgz hsz,Bool.and_false]
  exact Bool.false_ne_true
 refine call_meets F.slot_list_extend ⟨_,e,rfl⟩ F.entry_list_extend (F.args_list_extend_2 _ _)
  (AutoSeq1.list_extend_list_list_0 l its.toArray n b its2.toArray n2 hlong (by rw[List.size_toArray];omega) (by omega)) ⟨e,e2,?_⟩
 refine ⟨.non,_,I.lset (its':=its ++ its2) hH e (by simp) (r.append r2) ?_,rfl,q⟩
 rw[List.length_append]
 omega
noncomputable def rCat:R2:=fun x y H Q=> ∃ l b xs zs,x= .ref l/\y= .ref b/\H l=some (.lst xs)/\H b=some (.lst zs)/\xs.length + zs.length<=sizeLine/\ ∀ p,H p=none->Q (.ref p) (upd H p (.lst (xs ++ zs)))
theorem ZnZ:OpR X (binaryOp .Add) rCat:=by
 intro pins s σ H x y v u Q I rx ry h
 obtain ⟨l,b,xs,zs,rfl,rfl,hH,hB,hz,q⟩:=h
 cases rx
 cases ry
 obtain ⟨z,its,n,r,hl,e⟩:=I.lstM hH
 obtain ⟨z2,its2,n2,r2,hl2,e2⟩:=I.lstM hB
 refine PySem.P.add_list e e2 ?_ (by rw[List.size_toArray,List.size_toArray];omega)
 have ea:its.toArray ++ its2.toArray=(its ++ its2).toArray:=by simp
 rw[ea]
 exact ⟨.ref _,_,I.lnew (t':=s.toks) (r.append r2) (by rw[List.length_append];omega),rfl,q _ I.fresh⟩
noncomputable def rRep:R2:=fun x y H Q=> ∃ l k xs,x= .ref l/\y= .int k/\H l=some (.lst xs)/\ -(2 ^ 63)<=k/\k < 2 ^ 63/\xs.length * k.toNat<=sizeLine/\
 ∀ p,H p=none->Q (.ref p) (upd H p (.lst (List.replicate k.toNat xs).flatten))
theorem ZlL {α:Type} (xs:List α) (k:Nat):(List.replicate k xs).flatten.length=k * xs.length:=by
 induction k with
 |zero=>simp
 |succ k ih=>rw[List.replicate_succ,List.flatten_cons,List.length_append,ih,Nat.succ_mul,Nat.add_comm]
theorem Zn0:OpR X (binaryOp .Mult) rRep:=by
 intro pins s σ H x y v u Q I rx ry h
 obtain ⟨l,k,xs,rfl,rfl,hH,h1,h2,hz,q⟩:=h
 cases rx
 obtain ⟨t,rfl⟩:=ry
 obtain ⟨z,its,n,r,hl,e⟩:=I.lstM hH
 have hlen:its.toArray.size * k.toNat<=sizeLine:=by rw[List.size_toArray,<- hl];exact hz
 have hcap: ¬ its.toArray.size * k.toNat > (2 ^ 63 - 1) / 8:=by
  have:(sizeLine:Nat)<=(2 ^ 63 - 1) / 8:=by decide
  omega
 have hfit: ¬ (!Builtin.List.listFitsIndex k)=true:=by
  rw[fitsIndex_both h1 h2]
  exact Bool.false_ne_true
 have hlong: ¬ Builtin.List.listTooLong (its.toArray.size * k.toNat)=true:=by
  rw[Zgz hlen]
  exact Bool.false_ne_true
 have hnew:List.foldl (fun x1 x2=>x1 ++ x2) #[] (List.replicate (if its.toArray.isEmpty=true then 0 else k.toNat) its.toArray)=(List.replicate k.toNat its).flatten.toArray:=by
  have f0: ∀ m:Nat,List.foldl (fun x1 x2=>x1 ++ x2) #[] (List.replicate m its.toArray)=(List.replicate m its).flatten.toArray:=fun m=>by
   have:=ZeR its m []
   rw[List.nil_append] at this
   exact this
  rw[f0]
  cases its with
  |nil=>simp
  |cons a r'=>rw[if_neg (by simp)]
 refine wpAny_binaryOp_repeat_ref (T:="list") (U:="int") (by decide) ⟨_,e,rfl⟩ (fun s'=>typeIs_int s' k t) noFill_list_mul F.fills_int_mul F.slot_int_rmul repeat_list F.slot_int_index.lookup
  (call_meets F.slot_int_rmul (typeIs_int s k t) F.entry_int_rmul (F.args_int_rmul_2 _ _) (int___rmul___int_list k t l its.toArray n)
   ⟨e,rfl,⟨_,e,rfl⟩,call_meets F.slot_list_mul ⟨_,e,rfl⟩ F.entry_list_mul (F.args_list_mul_2 _ _) (AutoListH.list___mul___list_int_3 l its.toArray n k t hfit hcap hlong) ⟨e,?_⟩⟩)
 rw[hnew]
 exact ⟨.ref _,_,I.lnew (t':=s.toks) (r.rep k.toNat) (by rw[ZlL,Nat.mul_comm];exact hz),rfl,q _ I.fresh⟩
end
section
variable {prog:Program} {w:World} {A:Around} {E:Value->Shared->Prop} {s:Shared}
end
section
variable {X:Cx}
end
end L2
namespace Att
open PySem PySem.W PySem.Calls PyProof.Rows
theorem Zdi {P:Params} {h:Heap}: ∀ (ns:List Int) (vs:List Value),WellAll P h vs (ns.map WData.int)->IntsAre vs ns:=by
 intro ns
 induction ns with
 |nil=>
  intro vs w
  rw[List.map_nil] at w
  cases w
  exact .nil
 |cons n ns ih=>
  intro vs w
  rw[List.map_cons] at w
  cases w with
  |cons a b=>
   cases a
   exact .cons _ _ (ih _ b)
theorem ZhT {l:OpenLaw} {n:Nat} (hn:l.most=some n) {P:Params} {h:Heap} {args:List WData} {vals:List Value}
  (hpre:l.row.toRowW.claim.pre args=true) (hwl:WellAll P h vals args):
  ∃ a vs ns,vals=[Value.ref a]/\args=[WData.list (ns.map WData.int)]/\h.get? a=some { cls:= .type "list",data:= .seq vs.toArray }/\IntsAre vs ns/\ns.length<=n:=by
 have hsh:WShape.hasAll [] args [.list .int]=true:=(pre_splitW hpre).1
 have hc:l.pre.holds [] { args:=args }=true:=(pre_splitW hpre).2
 obtain ⟨d,r,rfl,h1,h2⟩:=hasAllW_cons hsh
 obtain rfl:=hasAllW_nil h2
 obtain ⟨xs,rfl,h3⟩:=hasW_list h1
 obtain ⟨ns,rfl⟩:=items_int h3
 have hlen:ns.length<=n:=by
  unfold OpenLaw.pre at hc
  have h4:(WTm.not (.lt (.lit (.int (n:Int))) (.len (.arg 0)))).holds [] { args:=[.list (ns.map .int)] }=true:=by
   have h4:=(holds_andW hc).1
   rw[hn] at h4
   exact h4
  have h5:=condW_of h4 (w_not (w_lt w_lit (w_len_list (w_arg rfl))))
  rw[List.length_map] at h5
  refine Nat.le_of_not_lt fun q=> ?_
  have q':(n:Int) < ((ns.length:Nat):Int):=by omega
  first
   | (rw[decide_eq_true q'] at h5;exact absurd h5 (by decide))
   | (simp at h5;omega)
 cases hwl with
 |cons w1 w2=>
  cases w2
  cases w1 with
  |list ho hall=>exact ⟨_,_,ns,rfl,rfl,ho,Zdi ns _ hall,hlen⟩
theorem ZhU (l:OpenLaw) (args:List WData):l.row.toRowW.claim.post args (.bool true) args=true:=
 postW_of (r:=l.row.toRowW) (X:=(true == true))
  (show WShape.has [] (.bool true) .bool=true by first | rfl | decide | simp[WShape.has,WShape.arms,WShape.armsAll])
  (show (WTm.eq .res (.lit (.bool true))).value [] { args:=args,res:=some (.bool true),after:=args }=some (.bool (true == true)) from w_eq_bool (w_res rfl) w_lit) rfl
theorem ZfK {l:OpenLaw} {n:Nat} {q:Program} {loose:List Str} {XP:(Str->Option Value)->Heap->Prop} {YP:World->Heap->Prop} {d:DefRec}
  (hn:l.most=some n) (hdf:d.params.defaults=[])
  (call: ∀ (w:World) (s₀ s₁:Shared) (mg mb:Str->Option Value) (fa:Addr) (o:Obj) (pm cd doc:Value) (a:Addr) (vs:List Value) (ns:List Int),
   Ground q loose [] XP w s₀ mg mb s₁.heap->YP w s₁.heap->
   s₁.heap.get? fa=some o->o.data= .func (docDef d.name d.params d.body d.scope pm cd doc)->s₁.heap.CodeRec cd d.name->mg d.name=some (.ref fa)->
   s₁.heap.get? a=some { cls:= .type "list",data:= .seq vs.toArray }->IntsAre vs ns->ns.length<=n->s₁.gens= #[]->
   codeAny (model l.prog w) callerA (.call (.ref fa) ⟨[.ref a],[]⟩) (fun r s'=>r= .ok (.ret (.bool true))/\OldK s₁.heap s'.heap/\s'.os=s₁.os/\AllBare s'.gens) s₁):
  WalkO q loose XP YP l.row.toRowW d [] (fun f vs=>PySem.call f vs):=by
 intro w s₀ s₁ mg mb G Y fa o pm cd doc dV kV ho hd hcd hD hmg hg args vals as hpre hlay hrd hwl hlo
 obtain rfl:dV= .none:=Dflts.none hD hdf
 obtain rfl:kV= .none:=Dflts.noKw hD
 obtain ⟨a,vs,ns,rfl,rfl,hobj,hints,hlen⟩:=ZhT hn hpre hwl
 refine enter_call (codeAny_mono (call w s₀ s₁ mg mb fa o pm cd doc a vs ns G Y ho (fd_plain hd) hcd hmg hobj hints hlen hg) fun r s' hq=> ?_)
 obtain ⟨rfl,h2,h3,h4⟩:=hq
 exact ⟨.inl ⟨.bool true,.bool true,[],rfl,fun _=>rfl,.bool true,ZhU l _,fun _=>⟨List.Pairwise.nil,fun _ hm=>(nomatch hm)⟩⟩,h2,h3,h4⟩
section
variable {prog:Program} {w:World} {A:Around} {E:Value->Shared->Prop} {s:Shared} {K:Frag}
end
end Att
namespace L2
open PySem PySem.Spec PyProof.Rows
theorem ZeT: ∀ {vs:List Value} {ns:List Int},IntsAre vs ns->Z2 (ns.map V.int) vs
 |_,_,.nil=> .nil
 |_,_,.cons n t h=> .cons ⟨t,rfl⟩ (ZeT h)
noncomputable def Zqm (H:Hp):Prop:= ∀ b,H b=none\/ ∃ o xs,H b=some (.frz o (.lst xs))
theorem ZjB {P:Program} {w:World} {K:PySem.W.Frag} {mg mb:Str->Option Value} {CX:CXT} {k:Nat} {fa a:Addr} {fd:FuncData} {x:Str} {sp:Sp} {s₁:Shared} {vs:List Value} {ns:List Int}
  (KX:K.In s₁.heap) (hns:s₁.heap.Ns mainGlobals mg) (hb:s₁.heap.Ns builtinsNs mb) (hbb: ∀ x:Str,x≠"__name__"->mb x=bootBuiltins x) (hlim:s₁.heap.NoLimit) (hg:s₁.gens= #[])
  (ha:s₁.heap.get? a=some { cls:= .type "list",data:= .seq vs.toArray }) (hi:IntsAre vs ns) (hl:ns.length<=sizeLine) (hr:Room k callerA)
  (F: ∀ base:Heap,K.In base->base.Ns mainGlobals mg->FnOk P w K mg base CX k fa fd [x] sp) (hbind: ∀ (s:Shared) (u:Value),BindsTo s fd ⟨[u],[]⟩ [(x,u)])
  (hsp: ∀ H:Hp,Zqm H->SqL K H a (ns.map V.int)->sp [.ref a] H (fun v _=>v= .bl true) fun _ _ _=>False)
  (hCX: ∀ H e s',CX [] H s₁ (fun _ _ _=>False) e s'->False):
  codeAny (model P w) callerA (.call (.ref fa) ⟨[.ref a],[]⟩) (fun r s'=>r= .ok (.ret (.bool true))/\OldK s₁.heap s'.heap/\s'.os=s₁.os/\AllBare s'.gens) s₁:=by
 have rv:=ZeT hi
 have lenV:=hi.length
 have core: ∀ H:Hp,Zqm H->SqL K H a (ns.map V.int)->HOk P w H s₁.heap->(∀ b,H b≠none->b=a)->(H a≠none->K.lookup a=none)->
   codeAny (model P w) callerA (.call (.ref fa) ⟨[.ref a],[]⟩) (fun r s'=>r= .ok (.ret (.bool true))/\OldK s₁.heap s'.heap/\s'.os=s₁.os/\AllBare s'.gens) s₁:=by
  intro H hO hS hok hA hK
  have base_of: ∀ {b:Addr} {o:Obj},s₁.heap.get? b=some o->H b=none->(Zjl s₁.heap H).get? b=some o:=fun e n=>Zgt e n
  have noA: ∀ {b:Addr} {o:Obj} {es:Array DictEntry} {ep:Nat},s₁.heap.get? b=some o->o.data= .dict es ep->H b=none:=fun {b o es ep} e d=>by
   cases q:H b with
   |none=>rfl
   |some u=>
    have e':b=a:=hA b (by rw[q];simp)
    subst e'
    rw[ha] at e;cases e
    have d':Data.seq vs.toArray _=Data.dict es ep:=d
    cases d'
  have nsK: ∀ {b:Addr} {m:Str->Option Value},s₁.heap.Ns b m->(Zjl s₁.heap H).Ns b m:=fun {b m} ⟨o,es,ep,e,d,r⟩=>⟨o,es,ep,base_of e (noA e d),d,r⟩
  have hKb:K.In (Zjl s₁.heap H):=fun b o e=>base_of (KX b o e) (by
   cases q:H b with
   |none=>rfl
   |some u=>
    have e':b=a:=hA b (by rw[q];simp)
    subst e'
    rw[hK (by rw[q];simp)] at e;cases e)
  have hM:Mod K mg (Zjl s₁.heap H):=⟨hKb,nsK hns,⟨mb,nsK hb,hbb⟩,let ⟨mc,h1,h2⟩:=hlim;⟨mc,nsK h1,h2⟩⟩
  have e0:Env0 P w K mg (Zjl s₁.heap H) callerA [] s₁ H:=⟨rfl,hM,fun b o e=>ZhB e,Nat.le_of_eq (ZhA _ _),trivial,fun b hb=>absurd (show b∈([]:List Addr) from hb) (by simp),hok,.of_eq hg,.inl rfl⟩
  refine codeAny_mono ((F _ hKb (nsK hns)).run callerA [] s₁ H ⟨[.ref a],[]⟩ [.ref a] [.ref a] _ _ hr e0 (hbind s₁ (.ref a)) (.cons rfl .nil) (hsp H hO hS)) fun r s' h=> ?_
  cases r with
  |error e=>exact (hCX H e s' h).elim
  |ok fl=>
   cases fl with
   |next=>exact False.elim h
   |brk=>exact False.elim h
   |cont=>exact False.elim h
   |ret u=>
    obtain ⟨v,H',os,bare,un,hok',r',q⟩:=h
    have q':v= .bl true:=q
    subst q'
    obtain rfl:u=Value.bool true:=r'
    refine ⟨rfl,OldK.of_keep fun b o e=> ?_,os,bare⟩
    cases q:H b with
    |none=>exact un.keep b o e q (by intro z;exact absurd (show b∈([]:List Addr) from z) (by simp)) (by simp)
    |some u=>
     rcases hO b with z | ⟨ob,xs,z⟩
     ·rw[q] at z;cases z
     ·have z2:=un.frzs b ob _ z
      obtain ⟨e1,_⟩:=hok b _ z
      obtain ⟨e2,_⟩:=hok' b _ z2
      rw[e] at e1;cases e1
      exact e2
 cases hk:K.lookup a with
 |some o=>
  have e:=KX a o hk
  rw[ha] at e
  cases e
  refine core (fun _=>none) (fun _=> .inl rfl) (.inr ⟨_,vs.toArray,_,hk,rfl,rfl,rfl,by rw[List.size_toArray,lenV];exact hl,by simpa using rv⟩) (fun b u z=>by have z':(none:Option HO)=some u:=z;cases z') (fun b z=>absurd rfl z) fun z=>absurd rfl z
 |none=>
  refine core (fun b=>if b=a then some (.frz { cls:= .type "list",data:= .seq vs.toArray } (.lst (ns.map V.int))) else none) (fun b=> ?_) (.inl (.inr ⟨{ cls:= .type "list",data:= .seq vs.toArray },if_pos rfl⟩)) (fun b u z=> ?_) (fun b z=> ?_) fun _=>hk
  ·by_cases hb:b=a
   ·exact .inr ⟨_,_,if_pos hb⟩
   ·exact .inl (if_neg hb)
  ·by_cases hb:b=a
   ·have z':=(if_pos hb).symm.trans z
    cases z'
    subst hb
    exact ⟨ha,by rw[List.length_map];exact hl,vs,_,rv,ha⟩
   ·have z':=(if_neg hb).symm.trans z
    cases z'
  ·by_cases hb:b=a
   ·exact hb
   ·exact absurd (if_neg hb) z
end L2
namespace L2
open PySem PySem.Spec PyProof.Rows
theorem ZlM {l:PySem.W.OpenLaw} {n k:Nat} {q:Program} {loose:List Str} {XP:(Str->Option Value)->Heap->Prop} {YP:World->Heap->Prop} {d:DefRec} {K:Params->PySem.W.Frag} {CX:World->CXT} {sp:World->Sp} {x:Str}
  (hn:l.most=some n) (hn2:n<=sizeLine) (hdf:d.params.defaults=[]) (hr:Room k callerA)
  (hY: ∀ (w:World) (h:Heap),YP w h->(K w.params).In h)
  (F: ∀ (w:World) (mg:Str->Option Value) (fa:Addr) (h:Heap),(K w.params).In h->h.Ns mainGlobals mg->mg d.name=some (.ref fa)->
   ∃ fd:FuncData,(∀ (s:Shared) (u:Value),BindsTo s fd ⟨[u],[]⟩ [(x,u)])/\
    ∀ base:Heap,(K w.params).In base->base.Ns mainGlobals mg->FnOk l.prog w (K w.params) mg base (CX w) k fa fd [x] (sp w))
  (hsp: ∀ (w:World) (H:Hp) (a:Addr) (ns:List Int),ns.length<=n->Zqm H->SqL (K w.params) H a (ns.map V.int)->sp w [.ref a] H (fun v _=>v= .bl true) fun _ _ _=>False)
  (hCX: ∀ (w:World) (H:Hp) (s:Shared) (e:Value) (s':Shared),CX w [] H s (fun _ _ _=>False) e s'->False):
  PySem.W.WalkO q loose XP YP l.row.toRowW d [] (fun f vs=>PySem.call f vs):=by
 refine Att.ZfK hn hdf fun w s₀ s₁ mg mb fa o pm cd doc a vs ns G Y ho hd hcd hmg hobj hints hlen hg=> ?_
 have KX:=hY w _ Y
 obtain ⟨fd,hb,hF⟩:=F w mg fa _ KX G.T.g hmg
 exact ZjB KX G.T.g G.T.b G.T.builtins G.T.nolimit hg hobj hints (Nat.le_trans hlen hn2) hr hF hb (fun H hO hS=>hsp w H a ns hlen hO hS) fun H e s'=>hCX w H s₁ e s'
end L2
namespace L2
open PySem PySem.Spec PyProof.Rows
noncomputable def Zo (s:Stmt):Arguments:=match s with
 | .FunctionDef _ a _ _ _ _ _ _ _ _=>a
 |_=>{ posonlyargs:=[],args:=[],vararg:=none,kwonlyargs:=[],kw_defaults:=[],kwarg:=none,defaults:=[] }
noncomputable def Zn (s:Stmt):List Stmt:=match s with
 | .FunctionDef _ _ b _ _ _ _ _ _ _=>b
 |_=>[]
noncomputable def Zi (s:Stmt):Scope:=match s with
 | .FunctionDef _ _ _ _ _ _ sc _ _ _=>sc
 |_=>{ kind:= .function,names:=[],isGenerator:=false,isCoroutine:=false }
noncomputable abbrev E0:XK:=fun _ _ _=>False
structure Fun (K:PySem.W.Frag) (x qual:Str) (st:Stmt) (f:Addr) (fd:FuncData):Prop where
 ex: ∃ (oc:Value) (od:Option Addr) (kV doc pm:Value) (an:Option Addr) (cdv ct:Value) (osl:Array (Option Value)),
  fd=PySem.W.fnOf x qual (Zo st) (Zn st) (Zi st) .none kV doc pm an cdv ct/\K.lookup f=some ⟨oc,od,.func fd,osl⟩/\PySem.W.codeIn K cdv qual=true
 kp:PySem.W.keepIn K (.ref f)=true
section
variable {P:Program} {w:World} {K:PySem.W.Frag} {mg:Str->Option Value} {base:Heap}
theorem Fun.binds {x qual:Str} {st:Stmt} {f:Addr} {fd:FuncData} {ps:List Str} (F:Fun K x qual st f fd)
  (h: ∀ (kV doc pm:Value) (an:Option Addr) (cdv ct:Value) (us:List Value),us.length=ps.length->bindArgs (PySem.W.fnOf x qual (Zo st) (Zn st) (Zi st) .none kV doc pm an cdv ct) ⟨us,[]⟩=pure (ps.zip us)):ZfJ K fd ps []:=by
 obtain ⟨oc,od,kV,doc,pm,an,cdv,ct,osl,rfl,lk,hcd⟩:=F.ex
 exact .all (h kV doc pm an cdv ct)
theorem ZA {x qual:Str} {st:Stmt} {f:Addr} {oc:Value} {od an:Option Addr} {osl:Array (Option Value)} {kV doc pm cdv ct:Value} (l:K.lookup f=some ⟨oc,od,.func (PySem.W.fnOf x qual (Zo st) (Zn st) (Zi st) .none kV doc pm an cdv ct),osl⟩)
  (c:PySem.W.codeIn K cdv qual=true) (k:PySem.W.keepIn K (.ref f)=true):Fun K x qual st f (PySem.W.fnOf x qual (Zo st) (Zn st) (Zi st) .none kV doc pm an cdv ct):=⟨⟨oc,od,kV,doc,pm,an,cdv,ct,osl,rfl,l,c⟩,k⟩
end
theorem ZhV {n:Nat} (h:n<=1000):n < sizeLine:=Nat.lt_of_le_of_lt h (by decide)
section
variable {X:Cx}
theorem pv (i:Nat) {x:Str} {pos:Pos} (hN:X.N[i]?=some x:=by rfl) (hv:Vis X.env.scope x:=by first | exact Or.inl rfl | exact Or.inr (Or.inl rfl) | exact Or.inr (Or.inr rfl)) (hd:(x == ("__debug__":Str))=false:=by decide)
  (hcd:(x == ("__classdict__":Str))=false:=by decide):PE X (.Name x pos) (Zsx i):=ZhC hN hv hd hcd
end
theorem ZlN {A B:Prop} (h:B):if false=true then A else B:=by
 rw[if_neg Bool.false_ne_true]
 exact h
theorem ZlO {A B:Prop} (h:A):if true=true then A else B:=by
 rw[if_pos rfl]
 exact h
end L2
end
section
namespace L2
open PySem PySem.Spec PyProof.Rows
end L2
namespace L2
open PySem PySem.Spec PyProof.Rows
section
variable (P:Program) (w:World)
end
section
variable {P:Program} {w:World} {H H':Hp} {h h':Heap} {a:Addr} {o:HO}
end
section
variable {P:Program} {w:World} {H:Hp} {h h':Heap} {x e:Addr} {o':HO}
end
section
variable {fs fs' ex ex':List Addr} {H H1 H2:Hp} {h h1 h2 h':Heap} {a x e:Addr} {o:HO}
end
end L2
namespace L2
open PySem PySem.Spec PyProof.Rows
section
variable {X:Cx} {pins:List (Addr × Obj)} {σ:List (Option V)} {H H':Hp} {s:Shared} {h':Heap}
end
end L2
namespace L2
open PySem PySem.Spec PyProof.Rows
section
variable {X:Cx}
variable {a b:Expr} {ta tb:TE} {pos:Pos}
variable {tA tB':TT} {rest:List Expr}
end
end L2
namespace L2
open PySem PySem.Spec PyProof.Rows
section
variable {X:Cx} {pins:List (Addr × Obj)} {σ:St} {H:Hp} {s:Shared} {a:Addr} {xs ys:List V}
end
section
variable {X:Cx} {pins:List (Addr × Obj)} {σ:St} {H:Hp} {s:Shared} {E:Value->Shared->Prop}
end
section
variable {X:Cx} {st:Stmt} {rest:List Stmt} {t u:TS} {e:Expr} {te:TE} {pos:Pos}
end
section
variable {X:Cx} {pos:Pos}
end
section
variable {X:Cx} {pos:Pos}
end
end L2
namespace L2
open PySem PySem.Spec PyProof.Rows
section
variable {X:Cx} {tg:Expr}
end
end L2
namespace L2
open PySem PySem.Spec PyProof.Rows
section
variable {X:Cx} {a b c:Expr} {ta tb tc:TE} {pos:Pos}
end
section
variable {X:Cx} {a b c:Expr} {ta tb tc:TE} {pos:Pos}
end
end L2
namespace L2
open PySem PySem.Spec PyProof.Rows
section
variable {prog:Program} {w:World} {A:Around} {E:Value->Shared->Prop} {s:Shared} {K:PySem.W.Frag} {x dx C f:Addr} {mA:Str->Option Value} {name:Str} {v:Value}
end
section
variable {P:Program} {w:World} {H H':Hp} {h h':Heap} {a C dx:Addr} {fs fs':List (Str × V)}
end
section
variable {X:Cx} {pins:List (Addr × Obj)} {σ:St} {H:Hp} {s:Shared} {a C dx:Addr} {fs:List (Str × V)} {f:Str} {v:V} {A:Around} {E:Value->Shared->Prop}
end
section
variable {X:Cx} {o e value:Expr} {f:Str} {pos pos' tpos:Pos} {ta tv:TE}
end
section
variable {X:Cx} {pins:List (Addr × Obj)} {σ:St} {H:Hp} {s:Shared} {A:Around} {E:Value->Shared->Prop} {Q:Value->Shared->Prop} {c:Value} {b:Bool}
end
end L2
namespace L2
open PySem PySem.Spec PyProof.Rows
section
variable {X:Cx} {e:Expr} {es:List Expr} {te:TE} {t:TA} {pos:Pos}
end
section
variable {X:Cx} {pins:List (Addr × Obj)} {σ:St} {H:Hp} {s s':Shared}
end
section
variable {X:Cx} {CX:CXT} {k:Nat} {f C:Addr} {fd:FuncData} {ps:List Str} {sp:Sp} {dvs:List V} {ds:List Value} {E:XK} {x m:Str} {p pos apos:Pos} {e o:Expr} {es:List Expr} {ta:TE} {t:TA}
end
section
variable {X:Cx} {CX:CXT} {k:Nat} {f C:Addr} {fd:FuncData} {ps ks:List Str} {sp:Sp} {E:XK} {x m:Str} {p pos apos kpos:Pos} {e o:Expr} {es:List Expr} {kws:List Keyword} {te ta:TE} {t tk:TA} {nm:Option Str}
variable {g:List Value->List Value->List Value} {gV:List V->List V->List V}
end
end L2
namespace L2
open PySem PySem.Spec PyProof.Rows
section
variable {X:Cx} {x:Str} {p pos:Pos} {e:Expr} {es:List Expr} {t:TA} {id T:String} {r:List V->Hp->VK->Prop}
end
end L2
namespace L2
open PySem PySem.Spec PyProof.Rows
section
variable {κ:Type} [DecidableEq κ]
noncomputable def ZfL (kvs:List (κ × V)) (k:κ):Option V:=(kvs.find? fun kv=>decide (kv.1=k)).map (·.2)
noncomputable def ZhW (kvs:List (κ × V)) (k:κ) (v:V):List (κ × V):=
 if (kvs.any fun kv=>decide (kv.1=k))=true then kvs.map (fun kv=>if kv.1=k then (kv.1,v) else kv) else kvs ++ [(k,v)]
theorem Zeg {p:κ × V} {r:List (κ × V)} {k:κ} (e:p.1=k):ZfL (p :: r) k=some p.2:=by simp[ZfL,List.find?_cons,e]
theorem Zeh {p:κ × V} {r:List (κ × V)} {k:κ} (e: ¬ p.1=k):ZfL (p :: r) k=ZfL r k:=by simp[ZfL,List.find?_cons,e]
theorem ZfM (kvs:List (κ × V)) (k:κ) (v:V):(ZhW kvs k v).length<=kvs.length + 1:=by
 unfold ZhW
 split
 ·rw[List.length_map];omega
 ·rw[List.length_append,List.length_cons,List.length_nil];omega
theorem KV.val {kvs:List (κ × V)} {vs:List (κ × Value)} (r:KV kvs vs) (k:κ):ZkH (ZfL kvs k) (valueAt vs k):=by
 unfold KV at r
 induction r with
 |nil=>exact True.intro
 | @cons p q ps qs h t ih=>
  obtain ⟨h1,h2⟩:=h
  by_cases e:p.1=k
  ·have e':q.1=k:=h1.symm.trans e
   have b:valueAt (q :: qs) k=some q.2:=by simp[valueAt,List.find?_cons,e']
   rw[Zeg e,b];exact h2
  ·have e': ¬ q.1=k:=fun z=>e (h1.trans z)
   have b:valueAt (q :: qs) k=valueAt qs k:=by simp[valueAt,List.find?_cons,e']
   rw[Zeh e,b];exact ih
theorem KV.any {kvs:List (κ × V)} {vs:List (κ × Value)} (r:KV kvs vs) (k:κ):(kvs.any fun kv=>decide (kv.1=k))=vs.any fun kv=>decide (kv.1=k):=by
 unfold KV at r
 induction r with
 |nil=>rfl
 |cons h t ih=>rw[List.any_cons,List.any_cons,ih,h.1]
theorem KV.repl {kvs:List (κ × V)} {vs:List (κ × Value)} (r:KV kvs vs) (k:κ) {y:V} {u:Value} (ry:Z9 y u):
  KV (kvs.map fun kv=>if kv.1=k then (kv.1,y) else kv) (vs.map fun kv=>if kv.1=k then (kv.1,u) else kv):=by
 unfold KV at r ⊢
 induction r with
 |nil=>exact .nil
 | @cons p q ps qs h t ih=>
  rw[List.map_cons,List.map_cons]
  refine .cons ?_ ih
  obtain ⟨h1,h2⟩:=h
  by_cases e:p.1=k
  ·rw[if_pos e,if_pos (h1.symm.trans e)];exact ⟨h1,ry⟩
  ·rw[if_neg e,if_neg (fun z=>e (h1.trans z))];exact ⟨h1,h2⟩
theorem KV.put {kvs:List (κ × V)} {vs:List (κ × Value)} (r:KV kvs vs) (k:κ) {y:V} {u:Value} (ry:Z9 y u):KV (ZhW kvs k y) (stored vs k u):=by
 unfold ZhW stored
 rw[r.any k]
 by_cases e:(vs.any fun kv=>decide (kv.1=k))=true
 ·rw[if_pos e,if_pos e];exact r.repl k ry
 ·rw[if_neg e,if_neg e];exact Paired.snoc r ⟨rfl,ry⟩
theorem KV.keys {kvs:List (κ × V)} {vs:List (κ × Value)} (r:KV kvs vs):kvs.map (·.1)=vs.map (·.1):=by
 unfold KV at r
 induction r with
 |nil=>rfl
 |cons h t ih=>rw[List.map_cons,List.map_cons,ih,h.1]
end
theorem ZlP {P:Program} {w:World} {k:Key} {u:Value} (r:Z9 (kV k) u):(Zaj P w).is k u=true:=by
 cases k with
 |inl i=>obtain ⟨t,e⟩:=(show ∃ t,u=Value.int i t from r);subst e;exact ZfG P w i t
 |inr x=>obtain ⟨t,e⟩:=(show ∃ t,u=Value.str x t from r);subst e;exact ZfH P w x t
theorem ZeU {P:Program} {w:World}: ∀ {ks:List Key} {us:List Value},Z2 (ks.map kV) us->ItemsAre (Zaj P w) ks us
 | [],_,r=>by rw[List.map_nil] at r;cases r;exact .nil
 |k :: ks,_,r=>by
  rw[List.map_cons] at r
  cases r with
  |cons h t=>exact .cons (ZlP h) (ZeU t)
noncomputable abbrev KT (H:Hp):List (List Key × V)->List (List Key × Addr × Value)->Prop:=Paired fun p q=>p.1=q.1/\H q.2.1=some (.tup (p.1.map kV))/\Z9 p.2 q.2.2
theorem KT.val {H:Hp} {kvs:List (List Key × V)} {xs:List (List Key × Addr × Value)} (r:KT H kvs xs) (k:List Key):ZkH (ZfL kvs k) ((atKey xs k).map (·.2)):=by
 induction r with
 |nil=>exact True.intro
 | @cons p q ps qs h t ih=>
  obtain ⟨h1,_,h2⟩:=h
  by_cases e:p.1=k
  ·have e':q.1=k:=h1.symm.trans e
   have b:atKey (q :: qs) k=some q.2:=by simp[atKey,List.find?_cons,e']
   rw[Zeg e,b];exact h2
  ·have e': ¬ q.1=k:=fun z=>e (h1.trans z)
   have b:atKey (q :: qs) k=atKey qs k:=by simp[atKey,List.find?_cons,e']
   rw[Zeh e,b];exact ih
section
variable {P:Program} {w:World} {H:Hp} {h:Heap} {a:Addr}
theorem Zn1 {u:HO} (ok:HOk P w H h) (e:Rd H a u):Za6 P w H h a u:=e.ok ok
theorem ZlQ {kvs:List (Key × V)} (ok:HOk P w H h) (e:Rd H a (.dK kvs)):kvs.length<=sizeLine/\(a == sysModules)=false/\ ∃ vs,KV kvs vs/\h.DictOf (Zaj P w) a vs:=
 show Za6 P w H h a (.dK kvs) from Zn1 ok e
theorem ZqO {kvs:List (Key × V)} (ok:HOk P w H h) (e:H a=some (.dK kvs)):kvs.length<=sizeLine/\(a == sysModules)=false/\ ∃ vs,KV kvs vs/\h.DictOf (Zaj P w) a vs:=ZlQ ok (.inl e)
theorem ZkN {ks:List Key} (ok:HOk P w H h) (e:H a=some (.tup (ks.map kV))):(tupleKind (Zaj P w)).is h ks a:=by
 obtain ⟨_,its,r,o,h1,h2,n,h3⟩:=(show Za6 P w H h a (.tup (ks.map kV)) from ok a _ e)
 exact ⟨o,its.toArray,n,h1,h2,h3,by simpa using ZeU r⟩
theorem Zn2 {kvs:List (List Key × V)} (ok:HOk P w H h) (e:Rd H a (.dT kvs)):kvs.length<=sizeLine/\(a == sysModules)=false/\
  ∃ xs,KT H kvs xs/\h.DictOfH (tupleKind (Zaj P w)) a xs:=by
 obtain ⟨z,y,xs,r,o,es,ep,h1,h2,h3,h4,h5⟩:=(show Za6 P w H h a (.dT kvs) from Zn1 ok e)
 refine ⟨z,y,xs,r,o,es,ep,h1,h2,h3,h4,fun x hx=> ?_,h5⟩
 have all: ∀ {l:List (List Key × V)} {m:List (List Key × Addr × Value)},KT H l m-> ∀ x∈m,(tupleKind (Zaj P w)).is h x.1 x.2.1:=by
  intro l m q
  induction q with
  |nil=>intro x hx;exact nomatch hx
  | @cons p q ps qs hq t ih=>
   intro x hx
   rcases List.mem_cons.mp hx with e | hx
   ·subst e
    exact ZkN ok (by rw[<- hq.1];exact hq.2.1)
   ·exact ih x hx
 exact all r x hx
end
noncomputable def Zqn (H:Hp) (a:Addr) (y:V) (r:Option V):Prop:=
 (∃ kvs k,Rd H a (.dK kvs)/\y=kV k/\r=ZfL kvs k)\/ ∃ kvs k b,Rd H a (.dT kvs)/\y= .ref b/\H b=some (.tup (k.map kV))/\r=ZfL kvs k
section
variable {X:Cx} {pins:List (Addr × Obj)} {σ:St} {H:Hp} {s:Shared} {a:Addr} {y v:V} {u r:Value} {o:Option V} {A:Around} {E:Value->Shared->Prop}
theorem Inv.big (I:Inv X pins σ H s):sysModules < s.heap.objs.size:=by
 have h:mainGlobals < s.heap.objs.size:=(I.mod.glob.keeps I.bk).lt
 exact Nat.lt_trans (by decide) h
theorem ZhX {Q:Value->Shared->Prop} (hu:A.units + 1 < cLine) (I:Inv X pins σ H s) (g:Zqn H a y (some v)) (ry:Z9 y u) (h: ∀ w' s',Inv X pins σ H s'->Z9 v w'->Q w' s'):
  wpAny (model X.prog X.w) A (getItem (.ref a) u) Q E s:=by
 rcases g with ⟨kvs,k,e,ey,l⟩ | ⟨kvs,k,b,e,ey,eb,l⟩
 ·subst ey
  obtain ⟨z,hd,vs,rel,dd⟩:=ZlQ I.hok e
  obtain ⟨w',hw,rw'⟩:=ZkH.some_of (v:=v) (o:=valueAt vs k) (by rw[l];exact rel.val k)
  exact wpAny_getItem_of (ZlP ry) dd.mapOf hw (h w' _ (I.tok _) rw')
 ·subst ey
  cases (show u=Value.ref b from ry)
  obtain ⟨z,hd,xs,rel,dd⟩:=Zn2 I.hok e
  obtain ⟨w',hw,rw'⟩:=ZkH.some_of (v:=v) (o:=(atKey xs k).map (·.2)) (by rw[l];exact rel.val k)
  obtain ⟨p,hp,hp2⟩:=Option.map_eq_some_iff.mp hw
  refine wpAny_getItem_heap (tupleKind_room_in1 hu) (ZkN I.hok eb) dd hp ?_
  rw[hp2]
  exact h w' _ (I.tok _) rw'
theorem ZlR {h':Heap} {t':Nat} {ob:HO} (I:Inv X pins σ H s) (mu:Mut (H a)) (hs:Heap.SameBut a s.heap h') (he: ∃ q,h'.get? a=some q) (new:Za6 X.prog X.w (upd H a ob) h' a ob):
  Inv X pins σ (upd H a ob) { s with heap:=h',toks:=t' }:=
 I.write (x:=a) (e:=a) mu (.inl rfl) (fun b q hb z=>(hs.2 b hb).trans z) he new
theorem Zn3 {P:Program} {w:World} {H':Hp} {h':Heap} {kvs:List (Key × V)} {vs:List (Key × Value)} (z:kvs.length<=sizeLine) (hd:(a == sysModules)=false) (rel:KV kvs vs) (dd:h'.DictOf (Zaj P w) a vs):
  Za6 P w H' h' a (.dK kvs):=⟨z,hd,vs,rel,dd⟩
end
section
variable {X:Cx} {pins:List (Addr × Obj)} {σ:St} {H:Hp} {s:Shared} {a:Addr} {kvs:List (Key × V)} {k:Key} {u:Value} {A:Around} {E:Value->Shared->Prop}
end
noncomputable def ZqP (i:Expr):Prop:= ∀ ov iv,subscripted i false ov iv=operate [ov,iv] (getItem ov iv)
theorem ZlS {prog:Program} {w:World} {A:Around} {E:Value->Shared->Prop} {s:Shared} {env:Env} {value slice:Expr} {pos:Pos} {T id:String} {Q:Value->Shared->Prop}
  (hl:typeLookup (.type T) "__getitem__"=pure (some (.builtin id))) (hs:ZqP slice)
  (h:wpAny (model prog w) A (eval value env) (fun o s₁=>wpAny (model prog w) A (eval slice env) (fun i s₂=>s₂.TypeIs o T/\wpAny (model prog w) A (getItem o i) Q E s₂) E s₁) E s):
  wpAny (model prog w) A (eval (.Subscript value slice pos) env) Q E s:=by
 refine Subscript_ (wpAny_mono h (fun o s₁ h₁=>wpAny_mono h₁ (fun i s₂ h₂=> ?_) fun _ _ x=>x) fun _ _ x=>x)
 obtain ⟨hT,h₂⟩:=h₂
 unfold subscriptTail
 refine wpAny_bind ?_
 rw[getitemInPython_of_ne hT.not_modules]
 refine wpAny_bind (wpAny_specialOf hT hl ?_)
 have fin:wpAny (model prog w) A (subscripted slice false o i) (fun r s₃=>wpAny (model prog w) A (letTemporaryGo value o r >>= fun _=>pure r) Q E s₃) E s₂:=by
  rw[hs o i]
  exact wpAny_operating (wpAny_mono h₂ (fun r s₃ h₃=>wpAny_bind (wpAny_letTemporaryGo (wpAny_pure h₃))) fun _ _ x=>x)
 first
  |exact wpAny_pure (wpAny_bind fin)
  |exact wpAny_bind (wpAny_pure (wpAny_bind fin))
  |exact wpAny_bind fin
theorem ZfN {X:Cx} {pins:List (Addr × Obj)} {σ:St} {H:Hp} {s:Shared} {a:Addr} {y:V} {o:Option V} (I:Inv X pins σ H s) (g:Zqn H a y o):s.TypeIs (.ref a) "dict":=by
 rcases g with ⟨kvs,k,e,_,_⟩ | ⟨kvs,k,b,e,_,_,_⟩
 ·obtain ⟨_,_,vs,_,dd⟩:=ZlQ I.hok e
  exact dd.typeIs
 ·obtain ⟨_,_,xs,_,dd⟩:=Zn2 I.hok e
  exact dd.typeIs
noncomputable def ZqQ (td ty:TE):TE:=fun σ H Q=>td σ H fun x H1=>ty σ H1 fun y H2=> ∃ a v,x= .ref a/\Zqn H2 a y (some v)/\Q v H2
section
variable {X:Cx} {o i e value:Expr} {pos pos' tpos:Pos} {td ty tv:TE}
theorem ZlT (hu:X.A.units + 1 < cLine) (ho:PE X o td) (hi:PE X i ty) (hs:ZqP i):PE X (.Subscript o i pos) (ZqQ td ty):=by
 intro pins s σ H Q I h
 refine ZlS PySem.F.slot_dict_getitem.lookup hs (thn (ho pins s σ H _ I h) fun u s1 ⟨x,H1,I1,rx,q1⟩=>thn (hi pins s1 σ H1 _ I1 q1) fun iv s2 ⟨y,H2,I2,ry,a,v,ex,g,q2⟩=> ?_)
 subst ex
 obtain rfl:u=Value.ref a:=rx
 exact ⟨ZfN I2 g,ZhX hu I2 g ry fun w' s3 I3 rw'=>⟨v,H2,I3,rw',q2⟩⟩
end
theorem ZjC {P:Program} {w:World} {H:Hp} (h:Heap) (hb:sysModules < h.objs.size):Za6 P w H (h.push { cls:= .type "dict",data:= .dict #[] }) h.objs.size (.dK []):=
 ⟨Nat.zero_le _,beq_eq_false_iff_ne.mpr (Ne.symm (Nat.ne_of_lt hb)),[],.nil,Heap.DictOf.new h⟩
section
variable {X:Cx} {pos:Pos}
end
noncomputable def ZgA:List (TE × TE)->St->Hp->(List (V × V)->Hp->Prop)->Prop
 | [],_,H,Q=>Q [] H
 | (tk,tv) :: r,σ,H,Q=>tk σ H fun x H1=>tv σ H1 fun y H2=>ZgA r σ H2 fun ps H3=>Q ((x,y) :: ps) H3
noncomputable abbrev VV:List (V × V)->List (Value × Value)->Prop:=Paired fun p q=>Z9 p.1 q.1/\Z9 p.2 q.2
noncomputable def PPs (X:Cx) (pos:Pos) (keys:List (Option Expr)) (values:List Expr) (trs:List (TE × TE)):Prop:=
 ∀ (pins:List (Addr × Obj)) (s:Shared) (σ:St) (H:Hp) (Q:List (V × V)->Hp->Prop),Inv X pins σ H s->ZgA trs σ H Q->
  wpAny (model X.prog X.w) X.A (evalPairs (pairTrees keys values X.env pos)) (fun vs s'=> ∃ ps H',Inv X pins σ H' s'/\VV ps vs/\Q ps H') X.xe s
theorem ZlU {X:Cx} {pos:Pos}:PPs X pos [] [] []:=fun pins s σ H Q I h=>pairTrees_nil_walk ⟨[],H,I,.nil,h⟩
theorem ZjD {X:Cx} {pos:Pos} {k v:Expr} {ks:List (Option Expr)} {vs:List Expr} {tk tv:TE} {trs:List (TE × TE)} (hk:PE X k tk) (hv:PE X v tv) (hr:PPs X pos ks vs trs):
  PPs X pos (some k :: ks) (v :: vs) ((tk,tv) :: trs):=fun pins s σ H Q I h=>
 pairTrees_cons_walk (thn (hk pins s σ H _ I h) fun u s1 ⟨x,H1,I1,rx,q1⟩=>thn (hv pins s1 σ H1 _ I1 q1) fun w2 s2 ⟨y,H2,I2,ry,q2⟩=>
  thn (hr pins s2 σ H2 _ I2 q2) fun ws s3 ⟨ps,H3,I3,rel,q3⟩=>⟨(x,y) :: ps,H3,I3,.cons ⟨rx,ry⟩ rel,q3⟩)
noncomputable def Zdj (kvs more:List (Key × V)):List (Key × V):=more.foldl (fun acc kv=>ZhW acc kv.1 kv.2) kvs
theorem KV.merge: ∀ {more:List (Key × V)} {rs:List (Key × Value)} {kvs:List (Key × V)} {vs:List (Key × Value)},KV more rs->KV kvs vs->KV (Zdj kvs more) (merged vs rs):=by
 intro more rs kvs vs r
 unfold KV at r
 induction r generalizing kvs vs with
 |nil=>intro q;exact q
 | @cons p q ps qs h t ih=>
  intro r0
  have e:KV (ZhW kvs p.1 p.2) (stored vs q.1 q.2):=by
   have:=r0.put p.1 h.2
   rw[<- h.1];exact this
  exact ih e
theorem Zco: ∀ (more kvs:List (Key × V)),(Zdj kvs more).length<=kvs.length + more.length
 | [],kvs=>by show kvs.length<=kvs.length + 0;omega
 |p :: r,kvs=>by
  have h1:=Zco r (ZhW kvs p.1 p.2)
  have h2:=ZfM kvs p.1 p.2
  show (Zdj (ZhW kvs p.1 p.2) r).length<=_
  rw[List.length_cons];omega
theorem ZdT {P:Program} {w:World}: ∀ {kvs:List (Key × V)} {ws:List (Value × Value)},VV (kvs.map fun kv=>(kV kv.1,kv.2)) ws-> ∃ rs,Carries (Zaj P w) ws rs/\KV kvs rs
 | [],_,r=>by rw[List.map_nil] at r;cases r;exact ⟨[],True.intro,.nil⟩
 |p :: kvs,_,r=>by
  rw[List.map_cons] at r
  cases r with
  | @cons a b as bs h t=>
   obtain ⟨rs,c,q⟩:=ZdT (P:=P) (w:=w) t
   obtain ⟨b1,b2⟩:=b
   exact ⟨(p.1,b2) :: rs,⟨ZlP h.1,rfl,c⟩,.cons ⟨rfl,h.2⟩ q⟩
noncomputable def ZqR (trs:List (TE × TE)):TE:=fun σ H Q=> ∀ p,H p=none->ZgA trs σ (upd H p (.dK [])) fun ps H2=>H2 p=some (.dK [])/\ ∃ kvs:List (Key × V),ps=kvs.map (fun kv=>(kV kv.1,kv.2))/\kvs.length<=15/\Q (.ref p) (upd H2 p (.dK (Zdj [] kvs)))
theorem ZlV {X:Cx} {pos:Pos} {keys:List (Option Expr)} {values:List Expr} {trs:List (TE × TE)} (h:PPs X pos keys values trs) (hall:keys.all (·.isSome)=true) (hl:keys.length=values.length) (h0:keys≠[])
  (h15:keys.length<=15):PE X (.Dict keys values pos) (ZqR trs):=by
 intro pins s σ H Q I q
 have hn:=I.hok.fresh (Nat.le_refl s.heap.objs.size)
 have I1:=I.laid (a:=s.heap.objs.size) (o:= .dK []) (h':=s.heap.push { cls:= .type "dict",data:= .dict #[] }) (t':=s.toks) (fun _ _ q=>Heap.get?_push_of_some _ q) (Nat.le_refl _) (ZjC s.heap I.big)
 refine wpAny_Dict_walk (knd:=Zaj X.prog X.w) hall hl h0 h15 (thn (h pins _ σ _ _ I1 (q _ hn)) fun ws s2 ⟨ps,H2,I2,rel,e,kvs,ep,lk,q2⟩=> ?_)
 subst ep
 obtain ⟨rs,c,rk⟩:=ZdT (P:=X.prog) (w:=X.w) rel
 obtain ⟨z,hd,vs0,r0,dd⟩:=ZqO I2.hok e
 cases r0
 refine ⟨rs,c,dd,fun h' dd' hs=>⟨.ref s.heap.objs.size,_,?_,rfl,q2⟩⟩
 have hz:(Zdj [] kvs).length<=sizeLine:=by
  have h1:=Zco kvs []
  rw[List.length_nil] at h1
  rw[sizeLine_eq];omega
 have he: ∃ q,h'.get? s.heap.objs.size=some q:=let ⟨q,_,_,hq,_⟩:=dd';⟨q,hq⟩
 exact ZlR I2 (by rw[e];exact True.intro) hs he (Zn3 hz hd (rk.merge .nil) dd')
structure M1 (X:Cx) (o:Expr) (m:Str) (apos:Pos) (e:Expr) (cpos:Pos):Prop where
 base:attributeBase o m X.env (eval o X.env)=eval o X.env
 few:((backTo cpos (starEach [e] X.env)).all (fun x=> !x.1) && (backToKw cpos (keywordEach [] X.env)).all (fun x=>x.1.isSome)
  && decide (([e]:List Expr).length + ([]:List Keyword).length + (if ([]:List Keyword).isEmpty then 0 else 1) < 30))=true
 line:(apos.endLine == cpos.line)=true
 trees:backTo cpos (starEach [e] X.env)=[(false,eval e X.env)]
structure M2 (X:Cx) (o:Expr) (m:Str) (apos:Pos) (e f:Expr) (cpos:Pos):Prop where
 base:attributeBase o m X.env (eval o X.env)=eval o X.env
 few:((backTo cpos (starEach [e,f] X.env)).all (fun x=> !x.1) && (backToKw cpos (keywordEach [] X.env)).all (fun x=>x.1.isSome)
  && decide (([e,f]:List Expr).length + ([]:List Keyword).length + (if ([]:List Keyword).isEmpty then 0 else 1) < 30))=true
 line:(apos.endLine == cpos.line)=true
 trees:backTo cpos (starEach [e,f] X.env)=[(false,eval e X.env),(false,eval f X.env)]
noncomputable def IsD (H:Hp) (a:Addr):Prop:=(∃ kvs,Rd H a (.dK kvs))\/ ∃ kvs,Rd H a (.dT kvs)
section
variable {X:Cx} {pins:List (Addr × Obj)} {σ:St} {H:Hp} {s:Shared} {a:Addr} {y d:V} {u r:Value} {o:Option V} {A:Around} {E:Value->Shared->Prop}
end
section
variable {X:Cx} {o e f:Expr} {apos cpos:Pos} {td ty tx:TE}
end
section
variable {X:Cx} {pins:List (Addr × Obj)} {σ:St} {H:Hp} {s:Shared} {a:Addr} {kvs:List (Key × V)} {A:Around} {E:Value->Shared->Prop}
end
section
variable {X:Cx} {pins:List (Addr × Obj)} {σ:St} {H:Hp} {s:Shared} {a:Addr} {y:V} {u:Value} {A:Around} {E:Value->Shared->Prop}
end
end L2
namespace Att
open PySem PySem.W PySem.Calls PyProof.Rows
section
variable {prog:Program} {w:World} {A:Around} {E:Value->Shared->Prop} {s:Shared} {K:Frag}
end
end Att
namespace L2
open PySem PySem.Spec PyProof.Rows
end L2
namespace L2
open PySem PySem.Spec PyProof.Rows
end L2
namespace L2
open PySem PySem.Spec PyProof.Rows
section
variable {P:Program} {w:World} {K:PySem.W.Frag} {mg:Str->Option Value} {base:Heap}
end
section
variable {X:Cx}
end
section
variable {κ:Type} [DecidableEq κ]
end
end L2
end
section
namespace DQ
open PySem PySem.Spec PyProof.Rows
structure Fly (B:Heap) (l:List Env) (e:Addr) (cls:Value) (dct:Option Addr) (fl:Value) (h:Heap):Prop where
 stay:B.StaysIn h
 new:B.get? e=none
 frames:h.FunFrames B l
 obj: ∃ oe vs T oT ts,h.get? e=some oe/\oe.cls=cls/\oe.dict=dct/\oe.data= .fields vs/\vs[2]?=some .none/\vs[1]?=some (.ref T)/\B.get? T=none/\T≠e/\h.get? T=some oT/\oT.data= .fields ts/\ts[3]?=some fl
theorem Fly.tail {B:Heap} {env:Env} {l:List Env} {e:Addr} {cls:Value} {dct:Option Addr} {fl:Value} {h:Heap} (f:Fly B (env :: l) e cls dct fl h):Fly B l e cls dct fl h:=⟨f.stay,f.new,f.frames.2.2,f.obj⟩
section
variable {M:Model} {A:Around} {E:Value->Shared->Prop} {s:Shared} {B:Heap} {env:Env} {outer l:List Env} {L e:Addr} {cls:Value} {dct:Option Addr} {fl:Value}
theorem apart {h:Heap} {oe:Obj} {vs:Array Value} (hl:h.FunFrames B l) (he:h.get? e=some oe) (hd:oe.data= .fields vs):e ∉ l.filterMap (·.frame):=fun z=>by
 obtain ⟨_,o,h1,h2⟩:=hl.mem z
 rw[he] at h1
 cases h1
 exact h2 vs hd
theorem Zdk {oe:Obj} {vs:Array Value} {head:Value} {hn:Bool} {Q:Unit->Shared->Prop} (hfr:A.frames=some (env :: outer)) (hl:s.heap.FunFrames B (env :: outer)) (hf:env.frame=some L)
  (he:s.heap.get? e=some oe) (hs:B.StaysIn s.heap) (hb:B.get? e=none) (hd:oe.data= .fields vs) (hz:2 < vs.size) (h2:vs[2]?=some .none)
  (h: ∀ h',Fly B (env :: outer) e oe.cls oe.dict (rawInt L) h'->s.heap.UpToSlots h'->Q () { s with heap:=h' }):
  wpAny M A (frameOf env >>= fun a=>entryPlaceOf L hn >>= fun pl=>EntryCells.newEntry head a .none (rawInt L) .none pl >>= fun b=>setField (.ref e) 1 b) Q E s:=by
 have ne:=apart hl he hd
 refine wpAny_bind (wpAny_frameOf_fun hfr hl hf fun h1 k1=>wpAny_bind (wpAny_entryPlaceOf fun pl hpl=>wpAny_bind ?_))
 unfold EntryCells.newEntry newFields
 refine wpAny_newObj_type ?_ (hpl.sizeOk5 _ _ _ _ _)
 generalize hT:([head,Value.ref L,Value.none,rawInt L,Value.none] ++ (if pl.isEmpty then List.replicate 6 Value.none else pl)).toArray=ts
 have h3:ts[3]?=some (rawInt L):=by
  rw[<- hT]
  rcases hpl with rfl | ⟨_,_,_,_,_,_,_,rfl⟩<;>simp
 have e1:h1.get? e=some oe:=(k1.2.1 e ne).trans he
 have s1:B.StaysIn h1:=fun b o hbo=>(k1.2.1 b fun z=>by rw[(hl.mem z).1] at hbo;cases hbo).trans (hs b o hbo)
 generalize hoT:({ cls:= .type "traceback",dict:=none,data:= .fields ts }:Obj)=oT
 have dT:oT.data= .fields ts:=by rw[<- hoT]
 have fT:oT.isFreed=false:=Obj.isFreed_of_fields dT
 have e2:(h1.push oT).get? e=some oe:=Heap.get?_push_of_some _ e1
 have nT:h1.objs.size≠e:=Nat.ne_of_gt (Heap.lt_size e1)
 refine wpAny_setField e2 hd (Nat.lt_trans (by decide) hz) (h _ ?_ ?_)
 ·have d3:=Obj.data_mapFields hd (·.setIfInBounds 1 (Value.ref h1.objs.size))
  have e3:=Heap.get?_update_self (Obj.mapFields (·.setIfInBounds 1 (Value.ref h1.objs.size))) e2 (Obj.isFreed_of_fields d3)
  have keep: ∀ b o,b≠e->h1.get? b=some o->((h1.push oT).update e (Obj.mapFields (·.setIfInBounds 1 (Value.ref h1.objs.size)))).get? b=some o:=fun b o hbe x=>by
   rw[Heap.get?_update_other _ _ (Ne.symm hbe)]
   exact Heap.get?_push_of_some _ x
  have gT:(h1.push oT).get? h1.objs.size=some oT:=Heap.get?_push_size _ fT
  refine ⟨fun b o x=>keep b o (fun z=>by rw[z,hb] at x;cases x) (s1 b o x),hb,hl.of_keeps fun b o x y=> ?_,_,_,h1.objs.size,oT,ts,e3,Obj.cls_mapFields _ _,?_,d3,?_,?_,s1.fresh,nT,?_,dT,h3⟩
  ·obtain ⟨sl,z⟩:=k1.2.2 b o x
   exact ⟨_,keep b _ (fun w=>y vs (by rw[w,he] at x;cases x;exact hd)) z,rfl⟩
  ·obtain ⟨c,d,dd,sl⟩:=oe
   cases hd
   rfl
  ·rw[Array.getElem?_setIfInBounds_ne (by decide)]
   exact h2
  ·rw[Array.getElem?_setIfInBounds_self_of_lt (Nat.lt_trans (by decide) hz)]
  ·rw[Heap.get?_update_other _ _ (Ne.symm nT)]
   exact gT
 ·intro b o x y
  obtain ⟨sl,z⟩:=k1.2.2 b o x
  refine ⟨sl,?_⟩
  rw[Heap.get?_update_other _ _ (fun w=>y vs (by rw[<- w,he] at x;cases x;exact hd))]
  exact Heap.get?_push_of_some _ z
theorem Zdb {Q:Unit->Shared->Prop} (f:Fly B l e cls dct fl s.heap) (h: ∀ h',Fly B l e cls dct .none h'->s.heap.UpToSlots h'->Q () { s with heap:=h' }):wpAny M A (setFlight (.ref e) none) Q E s:=by
 obtain ⟨st,nw,fr,oe,vs,T,oT,ts,g1,g2,g3,g4,g5,g6,g7,g8,g9,g10,g11⟩:=f
 have hz:3 < ts.size:=(Array.getElem?_eq_some_iff.mp g11).1
 unfold setFlight
 refine wpAny_bind (wpAny_field g1 g4 g6 ?_)
 rw[if_pos (by simp)]
 have oth: ∀ b o,b≠T->s.heap.get? b=some o->(s.heap.update T (Obj.mapFields (·.setIfInBounds 3 Value.none))).get? b=some o:=fun b o hb x=>by
  rw[Heap.get?_update_other _ _ (Ne.symm hb)]
  exact x
 have nr: ∀ b o,s.heap.get? b=some o->(∀ vs,o.data≠ .fields vs)->b≠T:=fun b o x y z=>by
  rw[z,g9] at x
  cases x
  exact y ts g10
 refine wpAny_setField g9 g10 hz (h _ ⟨fun b o x=>oth b o (fun z=>by rw[z,g7] at x;cases x) (st b o x),nw,fr.of_keeps fun b o x y=>⟨o,oth b o (nr b o x y) x,rfl⟩,?_⟩ fun b o x y=>⟨o.slots,oth b o (nr b o x y) x⟩)
 exact ⟨oe,vs,T,_,_,oth e oe (Ne.symm g8) g1,g2,g3,g4,g5,g6,g7,g8,Heap.get?_update_self _ g9 (Obj.isFreed_of_fields (Obj.data_mapFields g10 _)),Obj.data_mapFields g10 _,by rw[Array.getElem?_setIfInBounds_self_of_lt hz];rfl⟩
theorem ZgB {Q:Unit->Shared->Prop} (hfr:A.frames=some (env :: outer)) (hf:env.frame=some L) (f:Fly B (env :: outer) e cls dct .none s.heap)
  (h: ∀ h',Fly B (env :: outer) e cls dct (rawInt L) h'->s.heap.UpToSlots h'->Q () { s with heap:=h' }):wpAny M A (noteFrame (.ref e) env) Q E s:=by
 obtain ⟨st,nw,fr,oe,vs,T,oT,ts,g1,g2,g3,g4,g5,g6,g7,g8,g9,g10,g11⟩:=f
 unfold noteFrame
 simp only[hf]
 refine wpAny_bind (wpAny_field g1 g4 g6 ?_)
 rw[if_pos (by simp)]
 refine wpAny_bind (wpAny_field g9 g10 g11 ?_)
 rw[if_neg (by simp[rawInt])]
 have oth: ∀ b o,b≠T->s.heap.get? b=some o->(s.heap.update T (Obj.mapFields (·.setIfInBounds 3 Value.none))).get? b=some o:=fun b o hb x=>by
  rw[Heap.get?_update_other _ _ (Ne.symm hb)]
  exact x
 have nr: ∀ b o,s.heap.get? b=some o->(∀ vs,o.data≠ .fields vs)->b≠T:=fun b o x y z=>by
  rw[z,g9] at x
  cases x
  exact y ts g10
 refine wpAny_bind (wpAny_setField g9 g10 (Array.getElem?_eq_some_iff.mp g11).1 ?_)
 refine Zdk hfr (fr.of_keeps fun b o x y=>⟨o,oth b o (nr b o x y) x,rfl⟩) hf (oth e oe (Ne.symm g8) g1) (fun b o x=>oth b o (fun z=>by rw[z,g7] at x;cases x) (st b o x)) nw g4 (Array.getElem?_eq_some_iff.mp g5).1 g5 fun h' k1 k2=>h h' (g2 ▸ g3 ▸ k1) ?_
 intro b o x y
 exact k2 b o (oth b o (nr b o x y) x) y
theorem ZhY {Q:Unit->Shared->Prop} (hfr:A.frames=some (env :: outer)) (hf:env.frame=some L) (f:Fly B (env :: outer) e cls dct .none s.heap)
  (h: ∀ h',Fly B outer e cls dct .none h'->s.heap.UpToSlots h'->Q () { s with heap:=h' }):wpAny M A (leaving env (.ref e)) Q E s:=by
 unfold leaving
 refine wpAny_bind (ZgB hfr hf f fun h1 k1 u1=> ?_)
 exact Zdb (s:={ s with heap:=h1 }) k1 fun h2 k2 u2=>h h2 k2.tail (u1.trans u2)
theorem ZhZ {oe:Obj} {vs:Array Value} {Q:Unit->Shared->Prop} (hfr:A.frames=some (env :: outer)) (hf:env.frame=some L) (hl:s.heap.FunFrames B (env :: outer)) (he:s.heap.get? e=some oe) (hs:B.StaysIn s.heap) (hb:B.get? e=none) (hd:oe.data= .fields vs) (h1:vs[1]?=some .none) (h2:vs[2]?=some .none)
  (h: ∀ h',Fly B outer e oe.cls oe.dict .none h'->s.heap.UpToSlots h'->Q () { s with heap:=h' }):wpAny M A (leaving env (.ref e)) Q E s:=by
 unfold leaving noteFrame
 simp only[hf]
 refine wpAny_bind (wpAny_bind (wpAny_field he hd h1 ?_))
 rw[if_neg (by decide)]
 refine Zdk hfr hl hf he hs hb hd (Array.getElem?_eq_some_iff.mp h2).1 h2 fun h' k1 u1=> ?_
 exact Zdb (s:={ s with heap:=h' }) k1 fun h2 k2 u2=>h h2 k2.tail (u1.trans u2)
end
end DQ
end
section
namespace DQ
open PySem PySem.Spec PyProof.Rows
open PySem.W (Looks findIn mroIn specialIn takesIn clsIn looks_findIn looks_mroIn looks_find findObj KitX)
structure ExcC (K:PySem.W.Frag) (C:Addr):Prop where
 ga:findIn K (.ref C) "__getattribute__"=some (some (.builtin "BaseException.__getattribute__"))
 gt:findIn K (.ref C) "__getattr__"=some none
 cl:findIn K (.ref C) "__class__"=some (some (.builtin "object.__class__"))
 gs:specialIn K (.builtin "object.__class__") "__get__"=some (some (.builtin "getset_descriptor.__get__"))
 tk:takesIn K (.builtin "object.__class__")=some true
 bx:mroIn K C (.type "BaseException")=some true
 ob:mroIn K C (.type "object")=some true
 is:(clsIn K C).isSome=true
section
variable {prog:Program} {w:World} {A:Around} {E:Value->Shared->Prop} {s:Shared} {K:PySem.W.Frag} {e C:Addr} {oe:Obj} {od:Option Obj}
theorem ZjE {nameV:Value} {Q:Unit->Shared->Prop} (c:ExcC K C) (X:K.In s.heap) (I:PySem.W.InstAt s.heap e oe C od) (h:Q () s):wpAny (model prog w) A (checkBuiltinCall "BaseException.__getattribute__" ⟨[.ref e,nameV],[]⟩) Q E s:=by
 have hk:builtinKind "BaseException.__getattribute__"=some .slot:=by decide +kernel
 have hp:splitId "BaseException.__getattribute__"=some ("BaseException","__getattribute__"):=by decide +kernel
 obtain ⟨hh,g,d,t,os⟩:=s
 have L0:=I.type (M:=model prog w)
 have L1:=looks_mroIn (M:=model prog w) X c.bx
 have ha:=F.args_bexc_ga (.ref e) nameV
 simp only[checkBuiltinCall,hk,hp]
 refine wpAny_bind (wpAny_bind (L0.at (L1.at ?_)))
 repeat (any_goals (first | assumption | wp_step))
theorem Zh0 {tk:Tok} {Q:Fin->Shared->Prop} (c:ExcC K C) (X:K.In s.heap) (I:PySem.W.InstAt s.heap e oe C od) (h:Q (.done (.ret (.ref C))) s):
  wpAny (model prog w) A (Builtin.«object.__getattribute__» ⟨[.ref e,.str "__class__" tk],[]⟩) Q E s:=by
 have hf:findObj K C od "__class__"=some (.bind (.builtin "getset_descriptor.__get__") (.builtin "object.__class__")):=by
  obtain ⟨cd,hc⟩:=Option.isSome_iff_exists.mp c.is
  unfold findObj
  rw[hc,Option.bind_some,c.cl,Option.bind_some]
  simp[c.gs,c.tk]
 have fin: ∀ {E':Value->Shared->Prop} {Q':Value->Shared->Prop},Q' (.ref C) s->wpAny (model prog w) A (call (.builtin "getset_descriptor.__get__") [.builtin "object.__class__",.ref e,.ref C]) Q' E' s:=fun {E' Q'} z=>wpAny_call (PySem.W.class_get X I c.ob z)
 obtain ⟨hh,g,d,t,os⟩:=s
 have L0:=I.type (M:=model prog w)
 have L1:=looks_find (M:=model prog w) X I hf
 refine wpAny_bind (wpAny_pure (wpAny_bind (wpAny_pure (wpAny_bind (L0.at (wpAny_bind (L1.at ?_)))))))
 refine wpAny_bind (wpAny_holding (fin ?_))
 exact wpAny_pure h
theorem Zn4 {tk:Tok} {fill expr:Bool} {Q:Value->Shared->Prop} (c:ExcC K C) (X:K.In s.heap) (I:PySem.W.InstAt s.heap e oe C od) (h:Q (.ref C) s):wpAny (model prog w) A (getAttrBy (.ref e) (.str "__class__" tk) fill expr) Q E s:=by
 have hc: ∀ {E':Value->Shared->Prop} {Q':Value->Shared->Prop},Q' (.ref C) s->wpAny (model prog w) A (call (.builtin "BaseException.__getattribute__") [.ref e,.str "__class__" tk]) Q' E' s:=fun {E' Q'} z=>
  wpAny_call (codeAny_call_builtin F.attr_ValueError.ga.plain F.entry_bexc_ga (ZjE c X I (Zh0 c X I z)))
 obtain ⟨hh,g,d,t,os⟩:=s
 have L0:=I.type (M:=model prog w)
 have L1:=looks_findIn (M:=model prog w) X c.ga
 have L2:=looks_findIn (M:=model prog w) X c.gt
 have hb:=F.attr_ValueError.ga.bind (.ref e)
 have hx:(onTheHeap (Value.ref C) && Value.builtin "BaseException.__getattribute__" == Value.builtin "object.__getattribute__")=false:=by rw[show (Value.builtin "BaseException.__getattribute__" == Value.builtin "object.__getattribute__")=false by decide +kernel];rfl
 have hy:(expr && onTheHeap (Value.builtin "BaseException.__getattribute__"))=false:=by cases expr<;>rfl
 unfold getAttrBy
 refine wpAny_holding (wpAny_bind (L0.at (wpAny_bind (L1.at ?_))))
 dsimp only
 rw[hx,if_neg (by decide)]
 unfold getAttrByItsOwn hookBefore
 rw[if_pos (show onTheHeap (Value.ref C)=true from rfl)]
 refine wpAny_bind (L2.at (wpAny_bind (wpAny_attempt (wpAny_holding ?_))))
 unfold callGetattribute
 rw[hy,if_neg (by decide)]
 unfold boundAndCalled
 refine wpAny_bind (wpAny_of_eq hb (hc ?_))
 exact wpAny_pure h
theorem ZjF {Q:Option Value->Shared->Prop} (c:ExcC K C) (X:K.In s.heap) (I:PySem.W.InstAt s.heap e oe C od) (h:Q (some (.ref C)) { s with toks:=s.toks + 1 }):wpAny (model prog w) A (getAttr? (.ref e) "__class__") Q E s:=by
 unfold getAttr? getAttrBy?
 refine wpAny_bind (wpAny_mkText (wpAny_bind (wpAny_attempt (Zn4 (s:={ s with toks:=s.toks + 1 }) c X I (wpAny_pure h)))))
theorem ZjG (c:ExcC K C):KitX K (.ref e) (.ref C) (fun h=>PySem.W.InstAt h e oe C od) where
 ty:=fun _ _ _ I=>I.type
 it:=fun M h X _=>by
  obtain ⟨cd,hc⟩:=Option.isSome_iff_exists.mp c.is
  unfold clsIn at hc
  split at hc
  ·rename_i o1 o2 o3 o4 ho
   intro A' Q' E' s' k q
   unfold isType loadHead
   exact wpAny_bind (wpAny_loadPart (k _ _ (X _ _ ho)) (wpAny_pure q))
  ·cases hc
 ne:=fun h tp dd its n sl X htp=>by
  obtain ⟨cd,hc⟩:=Option.isSome_iff_exists.mp c.is
  refine Bool.eq_false_iff.mpr fun q=> ?_
  cases Value.ref.inj (beq_iff_eq.mp q)
  unfold clsIn at hc
  split at hc
  ·rename_i o1 o2 o3 o4 ho
   cases (X _ _ ho).symm.trans htp
  ·cases hc
 ca:=fun X I k=>ZjF c X I k
end
end DQ
end
section
namespace DL
open PySem PySem.Spec PyProof.Rows L2
inductive D where
 |non
 |bl (b:Bool)
 |int (i:Int)
 |str (x:Str)
 |tup (xs:List D)
 |rol (xs:List D)
 |con (xs:List D)
 |ref (n:Nat)
 |err (c:Str) (xs:List D)
 |dk (n:Nat)
 |dt (n:Nat)
 |fn (c:Str)
inductive SO where
 |lst (xs:List D)
noncomputable abbrev Sto:=List SO
noncomputable abbrev Ro:=List (Option D)
noncomputable def SqF (K:PySem.W.Frag) (H:Hp) (a:Addr) (xs:List V):Prop:=
 (∃ o,H a=some (.frz o (.lst xs)))\/ ∃ (o:Obj) (its:Array Value) (n:Nat),K.lookup a=some o/\o.cls= .type "list"/\o.dict=none/\o.data= .seq its n/\its.size<=sizeLine/\Z2 xs its.toList
theorem SqF.sq {K:PySem.W.Frag} {H:Hp} {a:Addr} {xs:List V} (h:SqF K H a xs):SqL K H a xs:=by
 rcases h with ⟨o,h⟩ | h
 ·exact .inl (.inr ⟨o,h⟩)
 ·exact .inr h
noncomputable def SqK (K:PySem.W.Frag) (a:Addr) (xs:List V):Prop:= ∃ (o:Obj) (its:Array Value) (n:Nat),K.lookup a=some o/\o.cls= .type "tuple"/\o.data= .seq its n/\its.size<=sizeLine/\Z2 xs its.toList/\o.dict=none
theorem SqK.sq {K:PySem.W.Frag} {H:Hp} {a:Addr} {xs:List V} (h:SqK K a xs):SqT K H a xs:=
 let ⟨o,its,n,h1,h2,h3,h4,h5,_⟩:=h
 .inr ⟨o,its,n,h1,h2,h3,h4,h5⟩
noncomputable def EOk (H:Hp) (p C:Addr) (xs:List V):Prop:= ∃ oe u vs,H p=some (.frz oe u)/\oe.cls= .ref C/\oe.data= .fields vs/\vs[2]?=some .none/\((xs=[]/\oe.dict=none)\/ ∃ dx fs,oe.dict=some dx/\H dx=some (.xd fs)/\fs.map (·.2)=xs)
noncomputable def Kn (H:Hp) (p:Addr):Option Nat:=match H p with | some (.lst _)=>some 0 | some (.dK _)=>some 1 | some (.dT _)=>some 2 | some (.frz _ (.dK _))=>some 1 | some (.frz _ (.dT _))=>some 2 | _=>none
structure RefK (H:Hp) (α:List Addr) (j n:Nat) (p:Addr):Prop where
 at':α[n]?=some p
 kn:Kn H p=some j
theorem Kn.lst {H:Hp} {p:Addr} {xs:List V} (h:H p=some (.lst xs)):Kn H p=some 0:=by unfold Kn;rw[h]
theorem Kn.ne {H:Hp} {p q:Addr} {j:Nat} {o:HO} (h:Kn H p=some j) (hq:H q=none):Kn (upd H q o) p=some j:=by
 have:p≠q:=by
  intro z
  unfold Kn at h
  rw[z,hq] at h
  cases h
 unfold Kn
 rw[ZE this]
 exact h
mutual
inductive Rep (K:PySem.W.Frag) (H:Hp) (α:List Addr):V->D->Prop where
 |non:Rep K H α .non .non
 |bl (b:Bool):Rep K H α (.bl b) (.bl b)
 |int (i:Int):Rep K H α (.int i) (.int i)
 |str (x:Str):Rep K H α (.str x) (.str x)
 |tup {p:Addr} {xs:List V} {ds:List D}:H p=some (.tup xs)->Reps K H α xs ds->Rep K H α (.ref p) (.tup ds)
 |rol {p:Addr} {xs:List V} {ds:List D}:SqF K H p xs->Reps K H α xs ds->Rep K H α (.ref p) (.rol ds)
 |con {p:Addr} {xs:List V} {ds:List D}:SqK K p xs->Reps K H α xs ds->Rep K H α (.ref p) (.con ds)
 |ref {p:Addr} {n:Nat}:RefK H α 0 n p->Rep K H α (.ref p) (.ref n)
 |dk {p:Addr} {n:Nat}:RefK H α 1 n p->Rep K H α (.ref p) (.dk n)
 |dt {p:Addr} {n:Nat}:RefK H α 2 n p->Rep K H α (.ref p) (.dt n)
 |fn {p:Addr} {c:Str}:PySem.W.nsIn K mainGlobals c=some (some (.ref p))->Rep K H α (.ref p) (.fn c)
 |err {p C:Addr} {c:Str} {xs:List V} {ds:List D}:PySem.W.nsIn K mainGlobals c=some (some (.ref C))->EOk H p C xs->Reps K H α xs ds->Rep K H α (.ref p) (.err c ds)
inductive Reps (K:PySem.W.Frag) (H:Hp) (α:List Addr):List V->List D->Prop where
 |nil:Reps K H α [] []
 |cons {v:V} {d:D} {vs:List V} {ds:List D}:Rep K H α v d->Reps K H α vs ds->Reps K H α (v :: vs) (d :: ds)
end
structure Ext (K:PySem.W.Frag) (H H':Hp) (α α':List Addr):Prop where
 tup: ∀ p xs,H p=some (.tup xs)->H' p=some (.tup xs)
 rol: ∀ p xs,SqF K H p xs->SqF K H' p xs
 err: ∀ p C xs,EOk H p C xs->EOk H' p C xs
 kn: ∀ p j,Kn H p=some j->Kn H' p=some j
 fz: ∀ p o u,H p=some (.frz o u)->H' p=some (.frz o u)
 al: ∃ β,α'=α ++ β
section
variable {K:PySem.W.Frag} {H H1 H2 H':Hp} {α α1 α2 α':List Addr}
theorem Ext.refl:Ext K H H α α:=⟨fun _ _ h=>h,fun _ _ h=>h,fun _ _ _ h=>h,fun _ _ h=>h,fun _ _ _ h=>h,[],(List.append_nil _).symm⟩
theorem Ext.trans (a:Ext K H H1 α α1) (b:Ext K H1 H2 α1 α2):Ext K H H2 α α2:=by
 obtain ⟨b1,e1⟩:=a.al
 obtain ⟨b2,e2⟩:=b.al
 exact ⟨fun p xs h=>b.tup p xs (a.tup p xs h),fun p xs h=>b.rol p xs (a.rol p xs h),fun p C xs h=>b.err p C xs (a.err p C xs h),fun p j h=>b.kn p j (a.kn p j h),fun p o u h=>b.fz p o u (a.fz p o u h),b1 ++ b2,by rw[e2,e1,List.append_assoc]⟩
theorem Ext.get0 (e:Ext K H H' α α') {n:Nat} {p:Addr} (h:α[n]?=some p):α'[n]?=some p:=by
 obtain ⟨β,e1⟩:=e.al
 have hl:n < α.length:=(List.getElem?_eq_some_iff.mp h).1
 rw[e1,List.getElem?_append_left hl]
 exact h
theorem Ext.get (e:Ext K H H' α α') {j n:Nat} {p:Addr} (h:RefK H α j n p):RefK H' α' j n p:=⟨e.get0 h.at',e.kn _ _ h.kn⟩
mutual
theorem Rep.mono (e:Ext K H H' α α'): ∀ {v:V} {d:D},Rep K H α v d->Rep K H' α' v d
 |_,_,.non=> .non
 |_,_,.bl b=> .bl b
 |_,_,.int i=> .int i
 |_,_,.str x=> .str x
 |_,_,.tup h r=> .tup (e.tup _ _ h) (Reps.mono e r)
 |_,_,.rol h r=> .rol (e.rol _ _ h) (Reps.mono e r)
 |_,_,.con h r=> .con h (Reps.mono e r)
 |_,_,.ref h=> .ref (e.get h)
 |_,_,.dk h=> .dk (e.get h)
 |_,_,.dt h=> .dt (e.get h)
 |_,_,.fn h=> .fn h
 |_,_,.err n h r=> .err n (e.err _ _ _ h) (Reps.mono e r)
theorem Reps.mono (e:Ext K H H' α α'): ∀ {vs:List V} {ds:List D},Reps K H α vs ds->Reps K H' α' vs ds
 |_,_,.nil=> .nil
 |_,_,.cons r t=> .cons (Rep.mono e r) (Reps.mono e t)
end
theorem Reps.length: ∀ {vs:List V} {ds:List D},Reps K H α vs ds->vs.length=ds.length
 |_,_,.nil=>rfl
 |_,_,.cons _ t=>by rw[List.length_cons,List.length_cons,Reps.length t]
theorem Reps.get: ∀ {vs:List V} {ds:List D} {i:Nat} {d:D},Reps K H α vs ds->ds[i]?=some d-> ∃ v,vs[i]?=some v/\Rep K H α v d
 |_,_,_,_,.nil,e=>by simp at e
 |_,_,0,_,.cons r _,e=>by simp at e;subst e;exact ⟨_,rfl,r⟩
 |_,_,i + 1,d,.cons _ t,e=>by
  obtain ⟨u,h1,h2⟩:=Reps.get (i:=i) (d:=d) t (by simpa using e)
  exact ⟨u,by simpa using h1,h2⟩
theorem Reps.set {v:V} {d:D} (r:Rep K H α v d): ∀ {vs:List V} {ds:List D} (i:Nat),Reps K H α vs ds->Reps K H α (vs.set i v) (ds.set i d)
 |_,_,_,.nil=> .nil
 |_,_,0,.cons _ t=> .cons r t
 |_,_,i + 1,.cons q t=> .cons q (Reps.set r i t)
theorem Reps.append: ∀ {vs ws:List V} {ds es:List D},Reps K H α vs ds->Reps K H α ws es->Reps K H α (vs ++ ws) (ds ++ es)
 |_,_,_,_,.nil,s=>s
 |_,_,_,_,.cons r t,s=> .cons r (Reps.append t s)
theorem Reps.ints: ∀ (ns:List Int),Reps K H α (ns.map V.int) (ns.map D.int)
 | []=> .nil
 |n :: r=> .cons (.int n) (Reps.ints r)
theorem Zh1 {p q:Addr} {xs:List V} {o:HO} (h:H q=some (.tup xs)) (hp: ∀ u,H p=some u->(∀ ys,u≠ .tup ys)/\ ∀ ob w,u≠ .frz ob w):upd H p o q=some (.tup xs):=by
 rw[ZE (fun e=>(hp _ (e ▸ h)).1 _ rfl)]
 exact h
theorem Zh2 {p q:Addr} {xs:List V} {o:HO} (h:SqF K H q xs) (hp: ∀ u,H p=some u-> ∀ ob w,u≠ .frz ob w):SqF K (upd H p o) q xs:=by
 rcases h with ⟨ob,h⟩ | h
 ·refine .inl ⟨ob,?_⟩
  rw[ZE (fun e=>hp _ (e ▸ h) _ _ rfl)]
  exact h
 ·exact .inr h
theorem ZkO {p q:Addr} {ob:Obj} {u o:HO} (h:H q=some (.frz ob u)) (hp: ∀ u,H p=some u-> ∀ ob w,u≠ .frz ob w):upd H p o q=some (.frz ob u):=by
 rw[ZE (fun e=>hp _ (e ▸ h) _ _ rfl)]
 exact h
theorem Zh3 {p q C:Addr} {xs:List V} {o:HO} (h:EOk H q C xs) (hp: ∀ u,H p=some u->(∀ ob w,u≠ .frz ob w)/\ ∀ fs,u≠ .xd fs):EOk (upd H p o) q C xs:=by
 obtain ⟨oe,u,vs,h1,h2,h3,h4,h5⟩:=h
 refine ⟨oe,u,vs,?_,h2,h3,h4,?_⟩
 ·rw[ZE (fun e=>(hp _ (e ▸ h1)).1 _ _ rfl)]
  exact h1
 ·rcases h5 with h5 | ⟨dx,fs,k1,k2,k3⟩
  ·exact .inl h5
  ·refine .inr ⟨dx,fs,k1,?_,k3⟩
   rw[ZE (fun e=>(hp _ (e ▸ k2)).2 _ rfl)]
   exact k2
theorem Ext.new {p:Addr} {o:HO} (h:H p=none) {β:List Addr}:Ext K H (upd H p o) α (α ++ β):=
 ⟨fun q xs z=>Zh1 z (fun u e=>(by rw[h] at e;cases e)),fun q xs z=>Zh2 z (fun u e=>(by rw[h] at e;cases e)),fun q C xs z=>Zh3 z (fun u e=>(by rw[h] at e;cases e)),fun q j z=>Kn.ne z h,fun q o u z=>ZkO z (fun u e=>(by rw[h] at e;cases e)),β,rfl⟩
theorem Ext.new0 {p:Addr} {o:HO} (h:H p=none):Ext K H (upd H p o) α α:=by
 have e:=Ext.new (K:=K) (H:=H) (α:=α) (o:=o) h (β:=[])
 rw[List.append_nil] at e
 exact e
theorem Ext.wrK {p:Addr} {o:HO} {j:Nat} (h:Kn H p=some j) (nf: ∀ ob w,H p≠some (.frz ob w)) (h':Kn (upd H p o) p=some j):Ext K H (upd H p o) α α:=by
 have ne (u:HO) (e:H p=some u):(∀ ys,u≠ .tup ys)/\(∀ ob w,u≠ .frz ob w)/\ ∀ fs,u≠ .xd fs:=by
  unfold Kn at h
  rw[e] at h
  refine ⟨fun ys z=> ?_,fun ob w z=>nf ob w (by rw[e,z]),fun fs z=> ?_⟩<;>subst z<;>cases h
 refine ⟨fun q xs z=>Zh1 z fun u e=>⟨(ne u e).1,(ne u e).2.1⟩,fun q xs z=>Zh2 z fun u e=>(ne u e).2.1,fun q C xs z=>Zh3 z fun u e=>⟨(ne u e).2.1,(ne u e).2.2⟩,fun q i z=> ?_,fun q ob u z=>ZkO z fun u e=>(ne u e).2.1,[],(List.append_nil _).symm⟩
 by_cases c:q=p
 ·subst c
  rw[h] at z
  cases z
  exact h'
 ·unfold Kn
  rw[ZE c]
  exact z
theorem Ext.wr {p:Addr} {xs ys:List V} (h:H p=some (.lst xs)):Ext K H (upd H p (.lst ys)) α α:=Ext.wrK (Kn.lst h) (fun ob w z=>by rw[h] at z;cases z) (Kn.lst Zt)
noncomputable def Zg6:Key->D
 | .inl i=> .int i
 | .inr x=> .str x
noncomputable def Zg7 (ks:List Key):D:= .tup (ks.map Zg6)
noncomputable def Zbo (K:PySem.W.Frag) (H:Hp) (α:List Addr) {κ:Type} (key:κ->D) (kvs:List (κ × V)) (ds:List D):Prop:=
 ∃ es:List D,ds=List.zipWith (fun kv e=>D.tup [key kv.1,e]) kvs es/\Reps K H α (kvs.map (·.2)) es
noncomputable def SOk (K:PySem.W.Frag) (H:Hp) (α:List Addr) (p:Addr):SO->Prop
 | .lst ds=>(∃ xs,H p=some (.lst xs)/\Reps K H α xs ds)\/(∃ kvs,H p=some (.dK kvs)/\Zbo K H α Zg6 kvs ds)\/(∃ kvs,H p=some (.dT kvs)/\Zbo K H α Zg7 kvs ds)\/(∃ o kvs r,H p=some (.frz o (.dK kvs))/\ds= .non :: r/\Zbo K H α Zg6 kvs r)\/(∃ o kvs r,H p=some (.frz o (.dT kvs))/\ds= .non :: r/\Zbo K H α Zg7 kvs r)
theorem SOk.there {p:Addr} {o:SO} (h:SOk K H α p o): ∃ u,H p=some u:=by
 cases o with
 |lst ds=>rcases h with ⟨_,e,_⟩ | ⟨_,e,_⟩ | ⟨_,e,_⟩ | ⟨_,_,_,e,_⟩ | ⟨_,_,_,e,_⟩<;>exact ⟨_,e⟩
theorem SOk.mono {p:Addr} {o:SO} (h:SOk K H α p o) (ex:Ext K H H' α α') (e:H' p=H p):SOk K H' α' p o:=by
 cases o with
 |lst ds=>
  rcases h with ⟨xs,h1,h2⟩ | ⟨kvs,h1,es,h2,h3⟩ | ⟨kvs,h1,es,h2,h3⟩ | ⟨o,kvs,r,h1,h0,es,h2,h3⟩ | ⟨o,kvs,r,h1,h0,es,h2,h3⟩
  ·exact .inl ⟨xs,e.trans h1,Reps.mono ex h2⟩
  ·exact .inr (.inl ⟨kvs,e.trans h1,es,h2,Reps.mono ex h3⟩)
  ·exact .inr (.inr (.inl ⟨kvs,e.trans h1,es,h2,Reps.mono ex h3⟩))
  ·exact .inr (.inr (.inr (.inl ⟨o,kvs,r,e.trans h1,h0,es,h2,Reps.mono ex h3⟩)))
  ·exact .inr (.inr (.inr (.inr ⟨o,kvs,r,e.trans h1,h0,es,h2,Reps.mono ex h3⟩)))
structure HR (K:PySem.W.Frag) (H:Hp) (α:List Addr) (M:Sto):Prop where
 len:α.length=M.length
 nd:α.Nodup
 ob: ∀ (n:Nat) (p:Addr) (o:SO),α[n]?=some p->M[n]?=some o->SOk K H α p o
theorem HR.nil:HR K H [] []:=⟨rfl,List.nodup_nil,fun n p o h=>by simp at h⟩
theorem Kn.at {H:Hp} {p:Addr} {j:Nat} {u:HO} (k:Kn H p=some j) (e:H p=some u):(match some u with | some (.lst _)=>some 0 | some (.dK _)=>some 1 | some (.dT _)=>some 2 | some (.frz _ (.dK _))=>some 1 | some (.frz _ (.dT _))=>some 2 | _=>none)=some j:=by
 unfold Kn at k
 rw[e] at k
 exact k
theorem HR.at (h:HR K H α M) {n:Nat} {p:Addr} {ds:List D} (e:RefK H α 0 n p) (m:M[n]?=some (.lst ds)): ∃ xs,H p=some (.lst xs)/\Reps K H α xs ds:=by
 rcases h.ob n p _ e.at' m with h1 | ⟨_,h1,_⟩ | ⟨_,h1,_⟩ | ⟨_,_,_,h1,_⟩ | ⟨_,_,_,h1,_⟩
 ·exact h1
 all_goals exact absurd (Kn.at e.kn h1) (fun z=>nomatch z)
noncomputable def nfz (ds:List D):Bool:=match ds with | .non :: _=>false | _=>true
theorem HR.atK (h:HR K H α M) {n:Nat} {p:Addr} {ds:List D} (e:RefK H α 1 n p) (m:M[n]?=some (.lst ds)):(∃ kvs,H p=some (.dK kvs)/\Zbo K H α Zg6 kvs ds)\/ ∃ o kvs r,H p=some (.frz o (.dK kvs))/\ds= .non :: r/\Zbo K H α Zg6 kvs r:=by
 rcases h.ob n p _ e.at' m with ⟨_,h1,_⟩ | h1 | ⟨_,h1,_⟩ | h1 | ⟨_,_,_,h1,_⟩
 ·exact absurd (Kn.at e.kn h1) (fun z=>nomatch z)
 ·exact .inl h1
 ·exact absurd (Kn.at e.kn h1) (fun z=>nomatch z)
 ·exact .inr h1
 ·exact absurd (Kn.at e.kn h1) (fun z=>nomatch z)
theorem HR.atT (h:HR K H α M) {n:Nat} {p:Addr} {ds:List D} (e:RefK H α 2 n p) (m:M[n]?=some (.lst ds)):(∃ kvs,H p=some (.dT kvs)/\Zbo K H α Zg7 kvs ds)\/ ∃ o kvs r,H p=some (.frz o (.dT kvs))/\ds= .non :: r/\Zbo K H α Zg7 kvs r:=by
 rcases h.ob n p _ e.at' m with ⟨_,h1,_⟩ | ⟨_,h1,_⟩ | h1 | ⟨_,_,_,h1,_⟩ | h1
 ·exact absurd (Kn.at e.kn h1) (fun z=>nomatch z)
 ·exact absurd (Kn.at e.kn h1) (fun z=>nomatch z)
 ·exact .inl h1
 ·exact absurd (Kn.at e.kn h1) (fun z=>nomatch z)
 ·exact .inr h1
theorem RefK.lst {n:Nat} {p:Addr} (e:RefK H α 0 n p): ∃ xs,H p=some (.lst xs):=by
 have:=e.kn
 unfold Kn at this
 split at this
 ·rename_i xs h;exact ⟨xs,h⟩
 all_goals cases this
theorem HR.some_at {M:Sto} (h:HR K H α M) {n:Nat} {p:Addr} (e:RefK H α 0 n p): ∃ xs,H p=some (.lst xs):=e.lst
theorem HR.there {M:Sto} (h:HR K H α M) {n:Nat} {p:Addr} (e:α[n]?=some p): ∃ u,H p=some u:=by
 have hl:n < α.length:=(List.getElem?_eq_some_iff.mp e).1
 have hm:n < M.length:=by rw[<- h.len];exact hl
 exact (h.ob n p M[n] e (List.getElem?_eq_getElem hm)).there
theorem HR.tup {M:Sto} {p:Addr} {o:HO} (h:HR K H α M) (hp:H p=none):HR K (upd H p o) α M:=
 ⟨h.len,h.nd,fun n q so e m=>by
  obtain ⟨u,hu⟩:=h.there e
  exact (h.ob n q so e m).mono (Ext.new0 hp) (ZE (Zao hu hp))⟩
theorem HR.newO {M:Sto} {p:Addr} {o:HO} {so:SO} (h:HR K H α M) (hp:H p=none) (r:SOk K (upd H p o) (α ++ [p]) p so):HR K (upd H p o) (α ++ [p]) (M ++ [so]):=by
 have ex:Ext K H (upd H p o) α (α ++ [p]):=Ext.new hp
 refine ⟨by rw[List.length_append,List.length_append,h.len];rfl,?_,fun n q so' e m=> ?_⟩
 ·refine List.nodup_append.mpr ⟨h.nd,by simp,fun a ha b hb=> ?_⟩
  have hb':b=p:=by simpa using hb
  obtain ⟨n,hn,e⟩:=List.getElem_of_mem ha
  obtain ⟨u,z⟩:=h.there (n:=n) (p:=a) (by rw[List.getElem?_eq_getElem hn,e])
  rw[hb']
  exact Zao z hp
 ·by_cases hn:n < α.length
  ·rw[List.getElem?_append_left hn] at e
   rw[List.getElem?_append_left (by rw[<- h.len];exact hn)] at m
   obtain ⟨u,hu⟩:=h.there e
   exact (h.ob n q so' e m).mono ex (ZE (Zao hu hp))
  ·have en:n=α.length:=by
    have:n < (α ++ [p]).length:=(List.getElem?_eq_some_iff.mp e).1
    rw[List.length_append,List.length_singleton] at this
    omega
   subst en
   rw[List.getElem?_append_right (Nat.le_refl _),Nat.sub_self] at e
   rw[h.len,List.getElem?_append_right (Nat.le_refl _),Nat.sub_self] at m
   cases e
   cases m
   exact r
theorem HR.new {M:Sto} {p:Addr} {xs:List V} {ds:List D} (h:HR K H α M) (hp:H p=none) (r:Reps K H α xs ds):HR K (upd H p (.lst xs)) (α ++ [p]) (M ++ [.lst ds]):=
 h.newO hp (.inl ⟨xs,Zt,Reps.mono (Ext.new hp) r⟩)
theorem ZjH {n m:Nat} {p:Addr} (h:α.Nodup) (a:α[n]?=some p) (b:α[m]?=some p):n=m:=by
 obtain ⟨h1,e1⟩:=List.getElem?_eq_some_iff.mp a
 obtain ⟨h2,e2⟩:=List.getElem?_eq_some_iff.mp b
 exact (List.getElem_inj h).mp (e1.trans e2.symm)
theorem HR.wrO {M:Sto} {n:Nat} {p:Addr} {o:HO} {so:SO} (h:HR K H α M) (e:α[n]?=some p) (ex:Ext K H (upd H p o) α α) (r:SOk K (upd H p o) α p so):HR K (upd H p o) α (M.set n so):=by
 have hn:n < M.length:=by rw[<- h.len];exact (List.getElem?_eq_some_iff.mp e).1
 refine ⟨by rw[List.length_set];exact h.len,h.nd,fun k q so' e' m=> ?_⟩
 by_cases hk:k=n
 ·subst hk
  rw[e] at e'
  cases e'
  rw[List.getElem?_set_self hn] at m
  cases m
  exact r
 ·rw[List.getElem?_set_ne (Ne.symm hk)] at m
  have hq:q≠p:=fun z=>hk (ZjH h.nd (z ▸ e') e)
  exact (h.ob k q so' e' m).mono ex (ZE hq)
theorem HR.wr {M:Sto} {n:Nat} {p:Addr} {xs ys:List V} {ds:List D} (h:HR K H α M) (e:RefK H α 0 n p) (hp:H p=some (.lst ys)) (r:Reps K H α xs ds):HR K (upd H p (.lst xs)) α (M.set n (.lst ds)):=
 h.wrO e.at' (Ext.wr hp) (.inl ⟨xs,Zt,Reps.mono (Ext.wr hp) r⟩)
end
inductive Out (β:Type) where
 |ok (a:β) (M:Sto)
 |exc (c:Str) (M:Sto)
 |bad
noncomputable def Out.bind {β γ:Type} (o:Out β) (f:β->Sto->Out γ):Out γ:=match o with
 | .ok a M=>f a M
 | .exc c M=> .exc c M
 | .bad=> .bad
inductive Fl where
 |nx (ρ:Ro) (M:Sto)
 |ret (d:D) (M:Sto)
 |brk (ρ:Ro) (M:Sto)
 |cnt (ρ:Ro) (M:Sto)
 |exc (c:Str) (M:Sto)
 |bad
noncomputable def OG {β γ:Type} (K:PySem.W.Frag) (R:Hp->List Addr->γ->β->Prop) (H:Hp) (α:List Addr) (ξ:XK) (Q:γ->Hp->Prop):Out β->Prop
 | .ok d M'=> ∀ v H' α',Ext K H H' α α'->HR K H' α' M'->R H' α' v d->Q v H'
 | .exc c M'=> ∀ C H' α',PySem.W.nsIn K mainGlobals c=some (some (.ref C))->Ext K H H' α α'->HR K H' α' M'->ξ (.ref C) none H'
 | .bad=>False
theorem OG.ext {β γ:Type} {K:PySem.W.Frag} {R:Hp->List Addr->γ->β->Prop} {H H1:Hp} {α α1:List Addr} {ξ:XK} {Q:γ->Hp->Prop} {o:Out β} (h:OG K R H α ξ Q o) (e:Ext K H H1 α α1):OG K R H1 α1 ξ Q o:=by
 cases o with
 |ok d M'=>exact fun v H' α' e'=>h v H' α' (e.trans e')
 |exc c M'=>exact fun C H' α' n e'=>h C H' α' n (e.trans e')
 |bad=>exact h
noncomputable abbrev OP (K:PySem.W.Frag):=OG K (Rep K)
noncomputable abbrev OT (K:PySem.W.Frag):=OG (β:=Bool) (γ:=Bool) K (fun _ _ v d=>v=d)
noncomputable abbrev OA (K:PySem.W.Frag):=OG K (Reps K)
noncomputable def SR (K:PySem.W.Frag) (H:Hp) (α:List Addr) (σ:L2.St) (ρ:Ro):Prop:=σ.length=ρ.length/\ ∀ (i:Nat) (d:D),ρ[i]?=some (some d)-> ∃ v,σ[i]?=some (some v)/\Rep K H α v d
theorem SR.mono {K:PySem.W.Frag} {H H':Hp} {α α':List Addr} {σ:L2.St} {ρ:Ro} (h:SR K H α σ ρ) (e:Ext K H H' α α'):SR K H' α' σ ρ:=
 ⟨h.1,fun i d q=>let ⟨v,a,b⟩:=h.2 i d q;⟨v,a,Rep.mono e b⟩⟩
theorem SR.set {K:PySem.W.Frag} {H:Hp} {α:List Addr} {σ:L2.St} {ρ:Ro} {v:V} {d:D} (h:SR K H α σ ρ) (i:Nat) (r:Rep K H α v d):SR K H α (σ.set i (some v)) (ρ.set i (some d)):=by
 refine ⟨by rw[List.length_set,List.length_set];exact h.1,fun j e q=> ?_⟩
 by_cases hj:j=i
 ·subst hj
  have hl:j < ρ.length:=by
   have:=(List.getElem?_eq_some_iff.mp q).1
   rw[List.length_set] at this
   exact this
  rw[List.getElem?_set_self hl] at q
  cases q
  exact ⟨v,by rw[List.getElem?_set_self (by rw[h.1];exact hl)],r⟩
 ·rw[List.getElem?_set_ne (Ne.symm hj)] at q
  rw[List.getElem?_set_ne (Ne.symm hj)]
  exact h.2 j e q
noncomputable abbrev Ev:=Ro->Sto->Out D
noncomputable abbrev Tv:=Ro->Sto->Out Bool
noncomputable abbrev Av:=Ro->Sto->Out (List D)
noncomputable abbrev Sv:=Ro->Sto->Fl
noncomputable def DE (X:Cx) (ξ:XK) (e:Expr) (f:Ev):Prop:= ∃ t:TE,PE X e t/\ ∀ σ ρ H α M Q,SR X.K H α σ ρ->HR X.K H α M->OP X.K H α ξ Q (f ρ M)->t σ H Q
noncomputable def DT (X:Cx) (ξ:XK) (e:Expr) (f:Tv):Prop:= ∃ t:TT,PT X e t/\ ∀ σ ρ H α M Q,SR X.K H α σ ρ->HR X.K H α M->OT X.K H α ξ Q (f ρ M)->t σ H Q
noncomputable def DW (X:Cx) (ξ:XK) (e:Expr) (f:Tv):Prop:= ∃ t:TT,PW X e t/\ ∀ σ ρ H α M Q,SR X.K H α σ ρ->HR X.K H α M->OT X.K H α ξ Q (f ρ M)->t σ H Q
noncomputable def DA (X:Cx) (ξ:XK) (es:List Expr) (f:Av):Prop:= ∃ t:TA,PA X es t/\ ∀ σ ρ H α M Q,SR X.K H α σ ρ->HR X.K H α M->OA X.K H α ξ Q (f ρ M)->t σ H Q
theorem OG.seq {β γ β' γ':Type} {K:PySem.W.Frag} {R:Hp->List Addr->γ->β->Prop} {R':Hp->List Addr->γ'->β'->Prop} {H:Hp} {α:List Addr} {ξ:XK} {Q:γ'->Hp->Prop} {Q1:γ->Hp->Prop} {o:Out β} {f:β->Sto->Out β'}
  (h:OG K R' H α ξ Q (o.bind f)) (k: ∀ d M' v H' α',Ext K H H' α α'->HR K H' α' M'->R H' α' v d->OG K R' H' α' ξ Q (f d M')->Q1 v H'):OG K R H α ξ Q1 o:=by
 cases o with
 |ok d M'=>exact fun v H' α' e hr r=>k d M' v H' α' e hr r (OG.ext (o:=f d M') h e)
 |exc c M'=>exact h
 |bad=>exact h
section
variable {X:Cx} {ξ:XK} {a b e:Expr} {fa fb:Ev} {pos:Pos}
noncomputable def Zh (i:Nat):Ev:=fun ρ M=>match ρ[i]? with | some (some d)=> .ok d M | _=> .bad
noncomputable def eC (d:D):Ev:=fun _ M=> .ok d M
theorem Zb (i:Nat) {x:Str} (hN:X.N[i]?=some x:=by rfl) (hv:Vis X.env.scope x:=by first | exact Or.inl rfl | exact Or.inr (Or.inl rfl) | exact Or.inr (Or.inr rfl)) (hd:(x == ("__debug__":Str))=false:=by decide)
  (hcd:(x == ("__classdict__":Str))=false:=by decide):DE X ξ (.Name x pos) (Zh i):=by
 refine ⟨_,ZhC hN hv hd hcd,fun σ ρ H α M Q s h q=> ?_⟩
 unfold Zh at q
 cases e:ρ[i]? with
 |none=>rw[e] at q;exact q.elim
 |some o=>
  cases o with
  |none=>rw[e] at q;exact q.elim
  |some d=>
   rw[e] at q
   obtain ⟨v,h1,h2⟩:=s.2 i d e
   exact ⟨v,h1,q v H α Ext.refl h h2⟩
theorem Ze {i:Int} {j pos}:DE X ξ (.Constant (.int i) j pos) (eC (.int i)):=⟨_,Znz,fun _ _ H α M _ _ h q=>q _ H α Ext.refl h (.int i)⟩
theorem Zdl {i:Bool} {j pos}:DE X ξ (.Constant (.bool i) j pos) (eC (.bl i)):=⟨_,Zqu,fun _ _ H α M _ _ h q=>q _ H α Ext.refl h (.bl i)⟩
theorem ZdU {j pos}:DE X ξ (.Constant .none j pos) (eC .non):=⟨_,ZnA,fun _ _ H α M _ _ h q=>q _ H α Ext.refl h .non⟩
theorem ZaQ {x:Str} {j pos}:DE X ξ (.Constant (.str x) j pos) (eC (.str x)):=⟨_,ZkI,fun _ _ H α M _ _ h q=>q _ H α Ext.refl h (.str x)⟩
noncomputable abbrev Bo:=D->D->Sto->Out D
noncomputable def e2 (f:Bo) (fa fb:Ev):Ev:=fun ρ M=>(fa ρ M).bind fun x M1=>(fb ρ M1).bind fun y M2=>f x y M2
noncomputable def BO (X:Cx) (ξ:XK) (r:R2) (f:Bo):Prop:= ∀ H α M v w x y Q,HR X.K H α M->Rep X.K H α v x->Rep X.K H α w y->OP X.K H α ξ Q (f x y M)->r v w H Q
theorem two {r:R2} {f:Bo} (hb:BO X ξ r f) {ta tb:TE} (qa: ∀ σ ρ H α M Q,SR X.K H α σ ρ->HR X.K H α M->OP X.K H α ξ Q (fa ρ M)->ta σ H Q)
  (qb: ∀ σ ρ H α M Q,SR X.K H α σ ρ->HR X.K H α M->OP X.K H α ξ Q (fb ρ M)->tb σ H Q): ∀ σ ρ H α M Q,SR X.K H α σ ρ->HR X.K H α M->OP X.K H α ξ Q (e2 f fa fb ρ M)->tOp r ta tb σ H Q:=by
 intro σ ρ H α M Q s h q
 refine qa σ ρ H α M _ s h (OG.seq q fun x M1 v H1 α1 e1 h1 r1 q1=> ?_)
 refine qb σ ρ H1 α1 M1 _ (s.mono e1) h1 (OG.seq q1 fun y M2 w H2 α2 e2 h2 r2 q2=> ?_)
 exact hb H2 α2 M2 v w x y Q h2 (Rep.mono e2 r1) r2 q2
theorem ZfO {op:Operator} {r:R2} {f:Bo} (ho:OpR X (binaryOp op) r) (hf:BO X ξ r f) (ha:DE X ξ a fa) (hb:DE X ξ b fb):DE X ξ (.BinOp a op b pos) (e2 f fa fb):=by
 obtain ⟨ta,ha,qa⟩:=ha
 obtain ⟨tb,hb,qb⟩:=hb
 exact ⟨_,ZqF ho ha hb,two hf qa qb⟩
theorem ZcU {op:CmpOp} {r:R2} {f:Bo} (ho:OpR X (compareOp op) r) (hf:BO X ξ r f) (ha:DE X ξ a fa) (hb:DE X ξ b fb) (hm:behindInMarks op b=false:=by first | exact ZkK _ | with_unfolding_all rfl):DE X ξ (.Compare a [op] [b] pos) (e2 f fa fb):=by
 obtain ⟨ta,ha,qa⟩:=ha
 obtain ⟨tb,hb,qb⟩:=hb
 exact ⟨_,ZlA ho ha hb hm,two hf qa qb⟩
noncomputable def tv (f:Ev):Tv:=fun ρ M=>(f ρ M).bind fun x M1=>match x with | .bl k=> .ok k M1 | _=> .bad
theorem Zn5 {t:TE} {f:Ev} (qa: ∀ σ ρ H α M Q,SR X.K H α σ ρ->HR X.K H α M->OP X.K H α ξ Q (f ρ M)->t σ H Q): ∀ σ ρ H α M Q,SR X.K H α σ ρ->HR X.K H α M->OT X.K H α ξ Q (tv f ρ M)->ZnS t σ H Q:=by
 intro σ ρ H α M Q s h q
 refine qa σ ρ H α M _ s h (OG.seq q fun x M1 v H1 α1 e1 h1 r1 q1=> ?_)
 cases r1 with
 |bl k=>exact ⟨k,rfl,q1 k H1 α1 Ext.refl h1 rfl⟩
 |_=>exact q1.elim
theorem ZJ {op:CmpOp} {r:R2} {f:Bo} (ho:OpR X (compareOp op) r) (hf:BO X ξ r f) (ha:DE X ξ a fa) (hb:DE X ξ b fb) (hm:behindInMarks op b=false:=by first | exact ZkK _ | with_unfolding_all rfl):DT X ξ (.Compare a [op] [b] pos) (tv (e2 f fa fb)):=by
 obtain ⟨ta,ha,qa⟩:=ha
 obtain ⟨tb,hb,qb⟩:=hb
 exact ⟨_,ZlB ho ha hb hm,Zn5 (two hf qa qb)⟩
theorem ZaD (h:DE X ξ e fa) (he: ∀ whole,isTrue e X.env whole=(do let v <- whole;standAt e.pos;holding [v] (truthy v)):=by intro _;rfl):DT X ξ e (tv fa):=by
 obtain ⟨ta,ha,qa⟩:=h
 exact ⟨_,ZnB ha he,Zn5 qa⟩
variable {ga gb:Tv} {rest:List Expr}
noncomputable def Zdm (f g:Tv):Tv:=fun ρ M=>(f ρ M).bind fun k M1=>if k=true then g ρ M1 else .ok false M1
noncomputable def Zht (f g:Tv):Tv:=fun ρ M=>(f ρ M).bind fun k M1=>if k=true then .ok true M1 else g ρ M1
noncomputable def ZbZ (f:Tv):Tv:=fun ρ M=>(f ρ M).bind fun k M1=> .ok (!k) M1
theorem Zb7 (ha:DT X ξ a ga):DW X ξ (.BoolOp .And [a] pos) ga:=let ⟨_,h,q⟩:=ha;⟨_,pw_and1 h,q⟩
theorem ZcV (ha:DT X ξ a ga):DW X ξ (.BoolOp .Or [a] pos) ga:=let ⟨_,h,q⟩:=ha;⟨_,pw_or1 h,q⟩
theorem Zdn (ha:DT X ξ a ga) (hb:DW X ξ (.BoolOp .And (b :: rest) pos) gb):DW X ξ (.BoolOp .And (a :: b :: rest) pos) (Zdm ga gb):=by
 obtain ⟨ta,ha,qa⟩:=ha
 obtain ⟨tb,hb,qb⟩:=hb
 refine ⟨_,pw_and ha hb,fun σ ρ H α M Q s h q=> ?_⟩
 refine qa σ ρ H α M _ s h (OG.seq q fun k M1 v H1 α1 e1 h1 r1 q1=> ?_)
 cases r1
 cases k with
 |true=>exact ZlO (qb σ ρ H1 α1 M1 Q (s.mono e1) h1 q1)
 |false=>exact ZlN (q1 false H1 α1 Ext.refl h1 rfl)
theorem ZeV (ha:DT X ξ a ga) (hb:DW X ξ (.BoolOp .Or (b :: rest) pos) gb):DW X ξ (.BoolOp .Or (a :: b :: rest) pos) (Zht ga gb):=by
 obtain ⟨ta,ha,qa⟩:=ha
 obtain ⟨tb,hb,qb⟩:=hb
 refine ⟨_,pw_or ha hb,fun σ ρ H α M Q s h q=> ?_⟩
 refine qa σ ρ H α M _ s h (OG.seq q fun k M1 v H1 α1 e1 h1 r1 q1=> ?_)
 cases r1
 cases k with
 |true=>exact ZlO (q1 true H1 α1 Ext.refl h1 rfl)
 |false=>exact ZlN (qb σ ρ H1 α1 M1 Q (s.mono e1) h1 q1)
theorem ZfP (h:DW X ξ e ga):DT X ξ e ga:=let ⟨_,h,q⟩:=h;⟨_,h.pt,q⟩
theorem ZbE (ha:DT X ξ a ga):DT X ξ (.UnaryOp .Not a pos) (ZbZ ga):=by
 obtain ⟨ta,ha,qa⟩:=ha
 refine ⟨_,ZnC ha,fun σ ρ H α M Q s h q=> ?_⟩
 refine qa σ ρ H α M _ s h (OG.seq q fun k M1 v H1 α1 e1 h1 r1 q1=> ?_)
 cases r1
 exact q1 (!k) H1 α1 Ext.refl h1 rfl
noncomputable def Zg8 (f g:Ev):Ev:=fun ρ M=>(f ρ M).bind fun x M1=>match x with | .bl k=>if k=true then g ρ M1 else .ok (.bl false) M1 | _=> .bad
noncomputable def Zn6 (f g:Ev):Ev:=fun ρ M=>(f ρ M).bind fun x M1=>match x with | .bl k=>if k=true then .ok (.bl true) M1 else g ρ M1 | _=> .bad
noncomputable def Zh4 (f:Ev):Ev:=fun ρ M=>(f ρ M).bind fun x M1=>match x with | .bl k=> .ok (.bl (!k)) M1 | _=> .bad
theorem Zh5 {op} (ha:DE X ξ a fa):DE X ξ (.BoolOp op [a] pos) fa:=let ⟨_,h,q⟩:=ha;⟨_,ZnD h,q⟩
theorem ZkP (ha:DE X ξ a fa) (hb:DE X ξ (.BoolOp .And (b :: rest) pos) fb):DE X ξ (.BoolOp .And (a :: b :: rest) pos) (Zg8 fa fb):=by
 obtain ⟨ta,ha,qa⟩:=ha
 obtain ⟨tb,hb,qb⟩:=hb
 refine ⟨_,ZnE ha hb,fun σ ρ H α M Q s h q=> ?_⟩
 refine qa σ ρ H α M _ s h (OG.seq q fun x M1 v H1 α1 e1 h1 r1 q1=> ?_)
 cases r1 with
 |bl k=>
  refine ⟨k,rfl,?_⟩
  cases k with
  |true=>exact ZlO (qb σ ρ H1 α1 M1 Q (s.mono e1) h1 q1)
  |false=>exact ZlN (q1 _ H1 α1 Ext.refl h1 (.bl false))
 |_=>exact q1.elim
theorem ZqS (ha:DE X ξ a fa) (hb:DE X ξ (.BoolOp .Or (b :: rest) pos) fb):DE X ξ (.BoolOp .Or (a :: b :: rest) pos) (Zn6 fa fb):=by
 obtain ⟨ta,ha,qa⟩:=ha
 obtain ⟨tb,hb,qb⟩:=hb
 refine ⟨_,Zqx ha hb,fun σ ρ H α M Q s h q=> ?_⟩
 refine qa σ ρ H α M _ s h (OG.seq q fun x M1 v H1 α1 e1 h1 r1 q1=> ?_)
 cases r1 with
 |bl k=>
  refine ⟨k,rfl,?_⟩
  cases k with
  |true=>exact ZlO (q1 _ H1 α1 Ext.refl h1 (.bl true))
  |false=>exact ZlN (qb σ ρ H1 α1 M1 Q (s.mono e1) h1 q1)
 |_=>exact q1.elim
theorem Zn7 (ha:DE X ξ a fa):DE X ξ (.UnaryOp .Not a pos) (Zh4 fa):=by
 obtain ⟨ta,ha,qa⟩:=ha
 refine ⟨_,ZnF ha,fun σ ρ H α M Q s h q=> ?_⟩
 refine qa σ ρ H α M _ s h (OG.seq q fun x M1 v H1 α1 e1 h1 r1 q1=> ?_)
 cases r1 with
 |bl k=>exact ⟨k,rfl,q1 _ H1 α1 Ext.refl h1 (.bl (!k))⟩
 |_=>exact q1.elim
noncomputable def eIf (c:Tv) (f g:Ev):Ev:=fun ρ M=>(c ρ M).bind fun k M1=>if k=true then f ρ M1 else g ρ M1
variable {es:List Expr} {fs:Av}
noncomputable def aNil:Av:=fun _ M=> .ok [] M
noncomputable def Zc (f:Ev) (g:Av):Av:=fun ρ M=>(f ρ M).bind fun x M1=>(g ρ M1).bind fun xs M2=> .ok (x :: xs) M2
theorem Zd:DA X ξ [] aNil:=⟨_,ZhK,fun _ _ H α M _ _ h q=>q _ H α Ext.refl h .nil⟩
theorem Za (ha:DE X ξ e fa) (hr:DA X ξ es fs) (hs:starEach (e :: es) X.env=(false,eval e X.env) :: starEach es X.env:=by rfl):DA X ξ (e :: es) (Zc fa fs):=by
 obtain ⟨ta,ha,qa⟩:=ha
 obtain ⟨tb,hb,qb⟩:=hr
 refine ⟨_,Zdg ha hb hs,fun σ ρ H α M Q s h q=> ?_⟩
 refine qa σ ρ H α M _ s h (OG.seq q fun x M1 v H1 α1 e1 h1 r1 q1=> ?_)
 refine qb σ ρ H1 α1 M1 _ (s.mono e1) h1 (OG.seq q1 fun y M2 w H2 α2 e2 h2 r2 q2=> ?_)
 exact q2 _ H2 α2 Ext.refl h2 (.cons (Rep.mono e2 r1) r2)
noncomputable def Zap (f:Av):Ev:=fun ρ M=>(f ρ M).bind fun xs M1=>if xs.length<=1000 then .ok (.tup xs) M1 else .bad
noncomputable def Zbn (f:Av):Ev:=fun ρ M=>(f ρ M).bind fun xs M1=>if xs.length<=1000 then .ok (.ref M1.length) (M1 ++ [.lst xs]) else .bad
theorem ZlW {n:Nat} (h:n<=1000):n<=sizeLine:=Nat.le_of_lt (ZhV h)
theorem Zv {x1} (ha:DA X ξ es fs):DE X ξ (.Tuple es x1 pos) (Zap fs):=by
 obtain ⟨ta,ha,qa⟩:=ha
 refine ⟨_,ZnT ha,fun σ ρ H α M Q s h q=> ?_⟩
 refine qa σ ρ H α M _ s h (OG.seq q fun xs M1 vs H1 α1 e1 h1 r1 q1=> ?_)
 by_cases hl:xs.length<=1000
 ·rw[if_pos hl] at q1
  refine ⟨by rw[r1.length];exact ZlW hl,fun p hp=>q1 _ _ α1 (Ext.new0 hp) (h1.tup hp) (.tup Zt (Reps.mono (Ext.new0 hp) r1))⟩
 ·rw[if_neg hl] at q1
  exact q1.elim
theorem HR.last {K:PySem.W.Frag} {H:Hp} {α:List Addr} {M:Sto} (h:HR K H α M) (p:Addr):(α ++ [p])[M.length]?=some p:=by
 rw[<- h.len,List.getElem?_append_right (Nat.le_refl _),Nat.sub_self]
 rfl
theorem ZG (ha:DA X ξ es fs):DE X ξ (.List es pos) (Zbn fs):=by
 obtain ⟨ta,ha,qa⟩:=ha
 refine ⟨_,ZnU ha,fun σ ρ H α M Q s h q=> ?_⟩
 refine qa σ ρ H α M _ s h (OG.seq q fun xs M1 vs H1 α1 e1 h1 r1 q1=> ?_)
 by_cases hl:xs.length<=1000
 ·rw[if_pos hl] at q1
  refine ⟨by rw[r1.length];exact ZlW hl,fun p hp=>q1 _ _ (α1 ++ [p]) (Ext.new hp) (h1.new hp r1) (.ref ⟨h1.last p,Kn.lst Zt⟩)⟩
 ·rw[if_neg hl] at q1
  exact q1.elim
end
end DL
end
section
namespace DL
open PySem PySem.Spec PyProof.Rows L2
open PySem.SeqAt (EqAt RcAt RcNeAt)
noncomputable def ZO (i j:Int):Prop:=Builtin.Int.intBits i<=64\/Builtin.Int.intBits j<=64\/(Builtin.Int.intBits i<=60000000/\Builtin.Int.intBits j<=60000000)
noncomputable instance (i j:Int):Decidable (ZO i j):=by unfold ZO;infer_instance
theorem ZO.ok {i j:Int} (h:ZO i j):IntMulOk i j:=by
 rcases h with h | h | ⟨h1,h2⟩
 ·exact .of_left h
 ·exact .of_right h
 ·exact .of_le h1 h2 (by decide)
theorem Zaq {i j:Int} (m n:Nat) (h1:i.natAbs < 2 ^ m) (h2:j.natAbs < 2 ^ n) (hm:m<=60000000:=by decide) (hn:n<=60000000:=by decide):ZO i j:=
 .inr (.inr ⟨Nat.le_trans (intBits_le_iff.mpr h1) hm,Nat.le_trans (intBits_le_iff.mpr h2) hn⟩)
noncomputable def Zbi (j:Int):Prop:=j≠0/\j.natAbs.log2 < 9000
noncomputable instance (j:Int):Decidable (Zbi j):=by unfold Zbi;infer_instance
section
variable {X:Cx}
theorem ZlX:OpR X (binaryOp .Mult) (rI ZO fun i j=> .int (i * j)):=opI fun _ _ _ _ _ _ _ hc q=>mul_int q hc.ok
theorem ZjI:OpR X (binaryOp .FloorDiv) (rI (fun _ j=>Zbi j) fun i j=> .int (i.fdiv j)):=opI fun _ _ _ _ _ _ _ hc q=>floordiv_int hc.1 q (.inl (PyProof.noPylong_of_log2 hc.2))
end
noncomputable def dAdd:Bo:=fun x y M=>match x,y with
 | .int i,.int j=> .ok (.int (i + j)) M
 | .str i,.str j=>if i.length + j.length<=100000 then .ok (.str (i ++ j)) M else .bad
 | .ref n,.ref m=>match M[n]?,M[m]? with
  |some (.lst xs),some (.lst ys)=>if xs.length + ys.length<=10000000 then .ok (.ref M.length) (M ++ [.lst (xs ++ ys)]) else .bad
  |_,_=> .bad
 | .tup xs,.tup ys=>if xs.length + ys.length<=100000/\xs≠[] then .ok (.tup (xs ++ ys)) M else .bad
 |_,_=> .bad
noncomputable def dSub:Bo:=fun x y M=>match x,y with | .int i,.int j=> .ok (.int (i - j)) M | _,_=> .bad
noncomputable def dMul:Bo:=fun x y M=>match x,y with | .int i,.int j=>if ZO i j then .ok (.int (i * j)) M else .bad | _,_=> .bad
noncomputable def dDiv:Bo:=fun x y M=>match x,y with | .int i,.int j=>if Zbi j then .ok (.int (i.fdiv j)) M else .bad | _,_=> .bad
noncomputable def dMod:Bo:=fun x y M=>match x,y with | .int i,.int j=>if j≠0 then .ok (.int (i.fmod j)) M else .bad | _,_=> .bad
noncomputable def dPow:Bo:=fun x y M=>match x,y with | .int i,.int j=>if 0<=j/\j<=1000000/\i.natAbs < 2 ^ 64 then .ok (.int (i ^ j.toNat)) M else .bad | _,_=> .bad
noncomputable def dLt:Bo:=fun x y M=>match x,y with | .int i,.int j=> .ok (.bl (decide (i < j))) M | _,_=> .bad
noncomputable def dLe:Bo:=fun x y M=>match x,y with | .int i,.int j=> .ok (.bl (decide (i<=j))) M | _,_=> .bad
noncomputable def dGt:Bo:=fun x y M=>match x,y with | .int i,.int j=> .ok (.bl (decide (j < i))) M | _,_=> .bad
noncomputable def dGe:Bo:=fun x y M=>match x,y with | .int i,.int j=> .ok (.bl (decide (j<=i))) M | _,_=> .bad
theorem ZlY {n:Nat} (h:n<=100000):n<=sizeLine:=Nat.le_trans h (by decide)
section
variable {X:Cx} {ξ:XK}
theorem Zcp {r:R2} {f:Bo} {C:Int->Int->Prop} [∀ i j,Decidable (C i j)] {g:Int->Int->D} {gV:Int->Int->V} (hg: ∀ H α i j,Rep X.K H α (gV i j) (g i j))
  (hf: ∀ x y M,f x y M=match x,y with | .int i,.int j=>if C i j then .ok (g i j) M else .bad | _,_=> .bad) (hr: ∀ i j H Q,C i j->Q (gV i j) H->r (.int i) (.int j) H Q):BO X ξ r f:=by
 intro H α M v w x y Q h rv rw' q
 rw[hf] at q
 cases rv<;>first | exact q.elim | skip
 cases rw'<;>first | exact q.elim | skip
 rename_i i j
 by_cases c:C i j
 ·simp only[if_pos c] at q
  exact hr i j H Q c (q _ H α Ext.refl h (hg H α i j))
 ·simp only[if_neg c] at q
  exact q.elim
theorem Zn8:BO X ξ (rI0 fun i j=> .int (i - j)) dSub:=Zcp (C:=fun _ _=>True) (fun _ _ i j=> .int (i - j)) (fun x y M=>by cases x<;>cases y<;>simp[dSub]) fun i j H Q _ q=>⟨i,j,rfl,rfl,q⟩
theorem Zn9:BO X ξ (rI ZO fun i j=> .int (i * j)) dMul:=Zcp (C:=ZO) (fun _ _ i j=> .int (i * j)) (fun x y M=>by cases x<;>cases y<;>rfl) fun i j H Q c q=>⟨i,j,rfl,rfl,c,q⟩
theorem Zoa:BO X ξ (rI (fun _ j=>Zbi j) fun i j=> .int (i.fdiv j)) dDiv:=Zcp (C:=fun _ j=>Zbi j) (fun _ _ i j=> .int (i.fdiv j)) (fun x y M=>by cases x<;>cases y<;>rfl) fun i j H Q c q=>⟨i,j,rfl,rfl,c,q⟩
theorem Zob:BO X ξ (rI (fun _ j=>j≠0) fun i j=> .int (i.fmod j)) dMod:=Zcp (C:=fun _ j=>j≠0) (fun _ _ i j=> .int (i.fmod j)) (fun x y M=>by cases x<;>cases y<;>rfl) fun i j H Q c q=>⟨i,j,rfl,rfl,c,q⟩
theorem Zoc:BO X ξ (rI ZsC fun i j=> .int (i ^ j.toNat)) dPow:=Zcp (C:=fun i j=>0<=j/\j<=1000000/\i.natAbs < 2 ^ 64) (fun _ _ i j=> .int (i ^ j.toNat)) (fun x y M=>by cases x<;>cases y<;>rfl) fun i j H Q c q=>⟨i,j,rfl,rfl,c,q⟩
theorem Zc3:BO X ξ (rI0 fun i j=> .bl (decide (i < j))) dLt:=Zcp (C:=fun _ _=>True) (fun _ _ i j=> .bl _) (fun x y M=>by cases x<;>cases y<;>simp[dLt]) fun i j H Q _ q=>⟨i,j,rfl,rfl,q⟩
theorem ZqT:BO X ξ (rI0 fun i j=> .bl (decide (i<=j))) dLe:=Zcp (C:=fun _ _=>True) (fun _ _ i j=> .bl _) (fun x y M=>by cases x<;>cases y<;>simp[dLe]) fun i j H Q _ q=>⟨i,j,rfl,rfl,q⟩
theorem ZeW:BO X ξ (rI0 fun i j=> .bl (decide (j < i))) dGt:=Zcp (C:=fun _ _=>True) (fun _ _ i j=> .bl _) (fun x y M=>by cases x<;>cases y<;>simp[dGt]) fun i j H Q _ q=>⟨i,j,rfl,rfl,q⟩
theorem Zod:BO X ξ (rI0 fun i j=> .bl (decide (j<=i))) dGe:=Zcp (C:=fun _ _=>True) (fun _ _ i j=> .bl _) (fun x y M=>by cases x<;>cases y<;>simp[dGe]) fun i j H Q _ q=>⟨i,j,rfl,rfl,q⟩
theorem ZlZ:OpR X (binaryOp .Add) (fun x y H Q=>(rI0 (fun i j=> .int (i + j)) x y H Q\/(∃ i j,x= .str i/\y= .str j/\i.length + j.length<=sizeLine/\Q (.str (i ++ j)) H))\/(rCat x y H Q\/ZlG X.K x y H Q)):=
 OpR.or (OpR.or ZnN Zg2) (OpR.or ZnZ ZlH)
theorem Zoe:BO X ξ (fun x y H Q=>(rI0 (fun i j=> .int (i + j)) x y H Q\/(∃ i j,x= .str i/\y= .str j/\i.length + j.length<=sizeLine/\Q (.str (i ++ j)) H))\/(rCat x y H Q\/ZlG X.K x y H Q)) dAdd:=by
 intro H α M v w x y Q h rv rw' q
 unfold dAdd at q
 split at q
 ·rename_i i j
  cases rv
  cases rw'
  exact .inl (.inl ⟨i,j,rfl,rfl,q _ H α Ext.refl h (.int (i + j))⟩)
 ·rename_i i j
  cases rv
  cases rw'
  split at q
  ·rename_i c
   exact .inl (.inr ⟨i,j,rfl,rfl,ZlY c,q _ H α Ext.refl h (.str _)⟩)
  ·exact q.elim
 ·rename_i n m
  cases rv with
  | @ref p _ hp=>
   cases rw' with
   | @ref p2 _ hp2=>
    split at q
    ·rename_i ds ds2 e1 e2
     split at q
     ·rename_i c
      obtain ⟨xs,g1,r1⟩:=h.at hp e1
      obtain ⟨ys,g2,r2⟩:=h.at hp2 e2
      refine .inr (.inl ⟨p,p2,xs,ys,rfl,rfl,g1,g2,by rw[r1.length,r2.length];exact Nat.le_trans c (by decide),fun l hl=> ?_⟩)
      exact q _ _ (α ++ [l]) (Ext.new hl) (h.new hl (r1.append r2)) (.ref ⟨h.last l,Kn.lst Zt⟩)
     ·exact q.elim
    ·exact q.elim
 ·rename_i ds ds2
  cases rv with
  | @tup p xs _ hp rp=>
   cases rw' with
   | @tup p2 xs2 _ hp2 rp2=>
    split at q
    ·rename_i c
     have nx:xs≠[]:=fun z=>c.2 (by have:=rp.length;rw[z] at this;exact List.eq_nil_of_length_eq_zero this.symm)
     refine .inr (.inr ⟨p,p2,xs,xs2,rfl,rfl,(SqT.of hp),(SqT.of hp2),nx,by rw[rp.length,rp2.length];exact ZlY c.1,fun z=> ?_,fun _ l hl=> ?_⟩)
     ·subst z
      cases rp2
      rw[List.append_nil] at q
      exact q _ H α Ext.refl h (.tup hp rp)
     ·exact q _ _ α (Ext.new0 hl) (h.tup hl) (.tup Zt (Reps.mono (Ext.new0 hl) (rp.append rp2)))
    ·exact q.elim
 ·exact q.elim
variable {a b e:Expr} {fa fb:Ev} {pos:Pos}
theorem ZH (ha:DE X ξ a fa) (hb:DE X ξ b fb):DE X ξ (.BinOp a .Add b pos) (e2 dAdd fa fb):=ZfO ZlZ Zoe ha hb
theorem Zaa (ha:DE X ξ a fa) (hb:DE X ξ b fb):DE X ξ (.BinOp a .Sub b pos) (e2 dSub fa fb):=ZfO ZnO Zn8 ha hb
theorem Zy (ha:DE X ξ a fa) (hb:DE X ξ b fb):DE X ξ (.BinOp a .Mult b pos) (e2 dMul fa fb):=ZfO ZlX Zn9 ha hb
theorem Za7 (ha:DE X ξ a fa) (hb:DE X ξ b fb):DE X ξ (.BinOp a .FloorDiv b pos) (e2 dDiv fa fb):=ZfO ZjI Zoa ha hb
theorem ZbF (ha:DE X ξ a fa) (hb:DE X ξ b fb):DE X ξ (.BinOp a .Mod b pos) (e2 dMod fa fb):=ZfO Zlz Zob ha hb
theorem Zh6 (ha:DE X ξ a fa) (hb:DE X ξ b fb):DE X ξ (.BinOp a .Pow b pos) (e2 dPow fa fb):=ZfO ZnP Zoc ha hb
noncomputable def Zdo (f:Ev):Ev:=fun ρ M=>(f ρ M).bind fun x M1=>match x with | .int i=> .ok (.int (-i)) M1 | _=> .bad
theorem Zax (ha:DE X ξ a fa):DE X ξ (.UnaryOp .USub a pos) (Zdo fa):=by
 obtain ⟨ta,ha,qa⟩:=ha
 refine ⟨_,ZqG ZnQ ha,fun σ ρ H α M Q s h q=> ?_⟩
 refine qa σ ρ H α M _ s h (OG.seq q fun x M1 v H1 α1 e1 h1 r1 q1=> ?_)
 cases r1 with
 |int i=>exact ⟨i,rfl,q1 _ H1 α1 Ext.refl h1 (.int (-i))⟩
 |_=>exact q1.elim
noncomputable def atD (xs:List D) (i:Int) (M:Sto):Out D:=match atI xs i with | some d=> .ok d M | none=> .bad
noncomputable def dIx:Bo:=fun x y M=>match x,y with
 | .tup xs,.int i=>atD xs i M
 | .rol xs,.int i=>atD xs i M
 | .ref n,.int i=>match M[n]? with | some (.lst xs)=>atD xs i M | _=> .bad
 |_,_=> .bad
theorem Reps.atI {K:PySem.W.Frag} {H:Hp} {α:List Addr} {vs:List V} {ds:List D} {i:Int} {d:D} (r:Reps K H α vs ds) (h:L2.atI ds i=some d): ∃ v,L2.atI vs i=some v/\Rep K H α v d:=by
 unfold L2.atI at h ⊢
 rw[r.length]
 cases e:ixN ds.length i with
 |none=>rw[e] at h;cases h
 |some j=>
  rw[e] at h
  exact r.get h
theorem ZqU:BO X ξ (fun x y H Q=>ZsD X.K x y H Q\/ZsE X.K x y H Q) dIx:=by
 intro H α M v w x y Q h rv rw' q
 have at': ∀ {ds:List D} {i:Int},OP X.K H α ξ Q (atD ds i M)-> ∃ d,L2.atI ds i=some d/\OP X.K H α ξ Q (.ok d M):=fun {ds i} q=>by
  unfold atD at q
  cases e:L2.atI ds i with
  |none=>rw[e] at q;exact q.elim
  |some d=>rw[e] at q;exact ⟨d,rfl,q⟩
 unfold dIx at q
 split at q
 ·rename_i ds i
  cases rw'
  cases rv with
  | @tup p xs _ hp rp=>
   obtain ⟨d,e,q⟩:=at' q
   obtain ⟨v,h1,h2⟩:=rp.atI e
   exact .inr ⟨p,xs,i,v,rfl,rfl,(SqT.of hp),h1,q v H α Ext.refl h h2⟩
 ·rename_i ds i
  cases rw'
  cases rv with
  | @rol p xs _ hp rp=>
   obtain ⟨d,e,q⟩:=at' q
   obtain ⟨v,h1,h2⟩:=rp.atI e
   exact .inl ⟨p,xs,i,v,rfl,rfl,hp.sq,h1,q v H α Ext.refl h h2⟩
 ·rename_i n i
  cases rw'
  cases rv with
  | @ref p _ hp=>
   split at q
   ·rename_i ds e1
    obtain ⟨d,e,q⟩:=at' q
    obtain ⟨xs,g1,r1⟩:=h.at hp e1
    obtain ⟨v,h1,h2⟩:=r1.atI e
    exact .inl ⟨p,xs,i,v,rfl,rfl,SqL.of g1,h1,q v H α Ext.refl h h2⟩
   ·exact q.elim
 ·exact q.elim
theorem Zl (ha:DE X ξ a fa) (hb:DE X ξ b fb) (hs:ZhR b:=by exact fun _ _=>rfl):DE X ξ (.Subscript a b pos) (e2 dIx fa fb):=by
 obtain ⟨ta,ha,qa⟩:=ha
 obtain ⟨tb,hb,qb⟩:=hb
 exact ⟨_,ZqM (IxR.or ZlJ ZnX) ha hb hs,two ZqU qa qb⟩
end
inductive Kd where
 |non | bl (b:Bool) | int (i:Int) | str (x:Str) | tup (xs:List D) | lst (xs:List D)
noncomputable def kd (M:Sto):D->Option Kd
 | .non=>some .non
 | .bl b=>some (.bl b)
 | .int i=>some (.int i)
 | .str x=>some (.str x)
 | .tup xs=>some (.tup xs)
 | .rol xs=>some (.lst xs)
 | .con xs=>some (.tup xs)
 | .ref n=>match M[n]? with | some (.lst xs)=>some (.lst xs) | _=>none
 | .err _ _=>none
 | .dk _=>none
 | .dt _=>none
 | .fn _=>none
noncomputable def eqL (f:D->D->Option Bool):List D->List D->Option Bool
 | [],[]=>some true
 |x :: xs,y :: ys=>match f x y with | some a=>(match eqL f xs ys with | some b=>some (a && b) | none=>none) | none=>none
 |_,_=>some false
noncomputable def eqK (f:D->D->Option Bool):Kd->Kd->Option Bool
 | .non,.non=>some true
 | .bl a,.bl b=>some (a == b)
 | .bl a,.int b=>some ((if a then 1 else 0) == b)
 | .int a,.bl b=>some (a == (if b then 1 else 0))
 | .int a,.int b=>some (a == b)
 | .str a,.str b=>some (a == b)
 | .tup xs,.tup ys=>eqL f xs ys
 | .lst xs,.lst ys=>if xs.length=ys.length then eqL f xs ys else some false
 |_,_=>some false
noncomputable def eqF:Nat->Sto->D->D->Option Bool
 |0,_,_,_=>none
 |n + 1,M,x,y=>match kd M x,kd M y with | some a,some b=>eqK (eqF n M) a b | _,_=>none
inductive Vw (X:Cx) (H:Hp) (α:List Addr) (s:Shared):Kd->Value->Prop where
 |non:Vw X H α s .non .none
 |bl (b:Bool):Vw X H α s (.bl b) (.bool b)
 |int (i:Int) (t:Tok):Vw X H α s (.int i) (.int i t)
 |str (x:Str) (t:Tok):Vw X H α s (.str x) (.str x t)
 |tup {p:Addr} {xs:List V} {ds:List D} {its:List Value}:s.heap.IsTuple p its.toArray->Z2 xs its->Reps X.K H α xs ds->Vw X H α s (.tup ds) (.ref p)
 |lst {p:Addr} {xs:List V} {ds:List D} {its:List Value}:s.heap.IsList p its.toArray->Z2 xs its->Reps X.K H α xs ds->Vw X H α s (.lst ds) (.ref p)
section
variable {X:Cx} {ξ:XK} {pins:List (Addr × Obj)} {σ:L2.St} {H:Hp} {s:Shared} {α:List Addr} {M:Sto}
theorem vw (I:Inv X pins σ H s) (h:HR X.K H α M) {v:V} {x:D} {u:Value} {k:Kd} (r:Rep X.K H α v x) (ru:Z9 v u) (e:kd M x=some k):Vw X H α s k u:=by
 cases r with
 |non=>cases e;cases ru;exact .non
 |bl b=>cases e;cases ru;exact .bl b
 |int i=>cases e;obtain ⟨t,rfl⟩:=ru;exact .int i t
 |str x=>cases e;obtain ⟨t,rfl⟩:=ru;exact .str x t
 |err _ _ _=>cases e
 |dk _=>cases e
 |dt _=>cases e
 |fn _=>cases e
 | @tup p xs ds hp rp=>
  cases e;cases ru
  obtain ⟨its,h1,h2,_⟩:=I.tuple (SqT.of hp)
  exact .tup h2 h1 rp
 | @con p xs ds hp rp=>
  cases e;cases ru
  obtain ⟨its,h1,h2,_⟩:=I.tuple hp.sq
  exact .tup h2 h1 rp
 | @rol p xs ds hp rp=>
  cases e;cases ru
  obtain ⟨its,h1,h2,_⟩:=I.list hp.sq
  exact .lst h2.isList h1 rp
 | @ref p n hp=>
  cases ru
  cases e1:M[n]? with
  |none=>simp only[kd,e1] at e;cases e
  |some o=>
   cases o with
   |lst ds=>
    simp only[kd,e1] at e
    cases e
    obtain ⟨xs,g1,r1⟩:=h.at hp e1
    obtain ⟨its,h1,h2,_⟩:=I.list (SqL.of g1)
    exact .lst h2.isList h1 r1
noncomputable def Eq3 (A:Around) (s:Shared) (u z:Value) (b:Bool):Prop:=EqAt A s u z b/\RcAt A s u z b/\RcNeAt A s u z (!b)
theorem Zh7 {f:D->D->Option Bool}: ∀ {xs ys:List D} {b:Bool},eqL f xs ys=some b->
  (∀ (j:Nat) x y,xs[j]?=some x->ys[j]?=some y-> ∃ c,f x y=some c)/\
  b=((List.range (min xs.length ys.length)).all (fun j=>match xs[j]?,ys[j]? with | some x,some y=>(f x y).getD false | _,_=>false) && xs.length == ys.length)
 | [],[],b,e=>by
  simp only[eqL,Option.some.injEq] at e
  subst e
  exact ⟨fun j x y h=>(by simp at h),(by simp)⟩
 |x :: xs,[],b,e=>by
  simp only[eqL,Option.some.injEq] at e
  subst e
  exact ⟨fun j x y h1 h2=>(by simp at h2),(by simp)⟩
 | [],y :: ys,b,e=>by
  simp only[eqL,Option.some.injEq] at e
  subst e
  exact ⟨fun j x y h1 h2=>(by simp at h1),(by simp)⟩
 |x :: xs,y :: ys,b,e=>by
  cases e1:f x y with
  |none=>simp only[eqL,e1] at e;cases e
  |some a=>
   cases e2:eqL f xs ys with
   |none=>simp only[eqL,e1,e2] at e;cases e
   |some c=>
    simp only[eqL,e1,e2,Option.some.injEq] at e
    subst e
    obtain ⟨h1,h2⟩:=Zh7 e2
    refine ⟨fun j x' y' g1 g2=> ?_,?_⟩
    ·cases j with
     |zero=>
      simp at g1 g2
      subst g1 g2
      exact ⟨a,e1⟩
     |succ j=>
      simp at g1 g2
      exact h1 j x' y' g1 g2
    ·have em:min (x :: xs).length (y :: ys).length=min xs.length ys.length + 1:=by simp only[List.length_cons];omega
     rw[em,List.range_succ_eq_map,List.all_cons,List.all_map,h2]
     simp[e1,Bool.and_assoc,Function.comp_def]
theorem ZjJ (I:Inv X pins σ H s) (h:HR X.K H α M): ∀ (n:Nat) {v:V} {x y:D} {b:Bool},Rep X.K H α v x->Rep X.K H α v y->eqF n M x y=some b->b=true:=by
 intro n
 induction n with
 |zero=>intro v x y b _ _ e;simp only[eqF] at e;cases e
 |succ n ih=>
  have lists: ∀ (vs:List V) (xs ys:List D) (b:Bool),Reps X.K H α vs xs->Reps X.K H α vs ys->eqL (eqF n M) xs ys=some b->b=true:=by
   intro vs
   induction vs with
   |nil=>
    intro xs ys b r1 r2 e
    cases r1;cases r2
    simp only[eqL,Option.some.injEq] at e
    exact e.symm
   |cons v vs iv=>
    intro xs ys b r1 r2 e
    cases r1 with
    |cons p1 t1=>
     cases r2 with
     |cons p2 t2=>
      rename_i d1 ds1 d2 ds2
      cases e1:eqF n M d1 d2 with
      |none=>simp only[eqL,e1] at e;cases e
      |some a=>
       cases e2:eqL (eqF n M) ds1 ds2 with
       |none=>simp only[eqL,e1,e2] at e;cases e
       |some c=>
        simp only[eqL,e1,e2,Option.some.injEq] at e
        rw[<- e,ih p1 p2 e1,iv _ _ _ t1 t2 e2]
        rfl
  intro v x y b r1 r2 e
  have nl: ∀ {p:Addr} {xs ys:List V},SqT X.K H p xs->SqL X.K H p ys->False:=fun {p xs ys} a c=>by
   obtain ⟨i1,_,⟨o1,g1,c1,_⟩,_⟩:=I.tuple a
   obtain ⟨i2,_,⟨o2,_,g2,c2,_⟩,_⟩:=I.list c
   rw[g1] at g2
   cases g2
   rw[c1] at c2
   exact absurd c2 (by decide)
  have ll: ∀ {p:Addr} {n:Nat} {ds:List D},RefK H α 0 n p->M[n]?=some (.lst ds)-> ∃ vs,SqL X.K H p vs/\Reps X.K H α vs ds:=fun {p n ds} a c=>by
   obtain ⟨xs,g1,r1⟩:=h.at a c
   exact ⟨xs,SqL.of g1,r1⟩
  cases r1 with
  |non=>cases r2;simp only[eqF,kd,eqK,Option.some.injEq] at e;exact e.symm
  |bl c=>cases r2;simp only[eqF,kd,eqK,Option.some.injEq,beq_self_eq_true] at e;exact e.symm
  |int c=>cases r2;simp only[eqF,kd,eqK,Option.some.injEq,beq_self_eq_true] at e;exact e.symm
  |str c=>cases r2;simp only[eqF,kd,eqK,Option.some.injEq,beq_self_eq_true] at e;exact e.symm
  |err _ _ _=>simp[eqF,kd] at e
  |dk _=>simp[eqF,kd] at e
  |dt _=>simp[eqF,kd] at e
  |fn _=>simp[eqF,kd] at e
  | @tup p xs ds hp rp=>
   cases r2 with
   | @tup _ xs2 ds2 hp2 rp2=>
    cases I.tuple_inj (SqT.of hp) (SqT.of hp2)
    simp only[eqF,kd,eqK] at e
    exact lists _ _ _ _ rp rp2 e
   | @con _ xs2 ds2 hp2 rp2=>
    cases I.tuple_inj (SqT.of hp) hp2.sq
    simp only[eqF,kd,eqK] at e
    exact lists _ _ _ _ rp rp2 e
   | @rol _ xs2 ds2 hp2 rp2=>exact (nl (SqT.of hp) hp2.sq).elim
   |err _ _ _=>simp[eqF,kd] at e
   |dk _=>simp[eqF,kd] at e
   |dt _=>simp[eqF,kd] at e
   |fn _=>simp[eqF,kd] at e
   | @ref _ n2 hp2=>
    obtain ⟨ys,g⟩:=h.some_at hp2
    exact (nl (SqT.of hp) (SqL.of g)).elim
  | @con p xs ds hp rp=>
   cases r2 with
   | @tup _ xs2 ds2 hp2 rp2=>
    cases I.tuple_inj hp.sq (SqT.of hp2)
    simp only[eqF,kd,eqK] at e
    exact lists _ _ _ _ rp rp2 e
   | @con _ xs2 ds2 hp2 rp2=>
    cases I.tuple_inj hp.sq hp2.sq
    simp only[eqF,kd,eqK] at e
    exact lists _ _ _ _ rp rp2 e
   | @rol _ xs2 ds2 hp2 rp2=>exact (nl hp.sq hp2.sq).elim
   |err _ _ _=>simp[eqF,kd] at e
   |dk _=>simp[eqF,kd] at e
   |dt _=>simp[eqF,kd] at e
   |fn _=>simp[eqF,kd] at e
   | @ref _ n2 hp2=>
    obtain ⟨ys,g⟩:=h.some_at hp2
    exact (nl hp.sq (SqL.of g)).elim
  | @rol p xs ds hp rp=>
   cases r2 with
   | @tup _ xs2 ds2 hp2 rp2=>exact (nl (SqT.of hp2) hp.sq).elim
   | @con _ xs2 ds2 hp2 rp2=>exact (nl hp2.sq hp.sq).elim
   |err _ _ _=>simp[eqF,kd] at e
   |dk _=>simp[eqF,kd] at e
   |dt _=>simp[eqF,kd] at e
   |fn _=>simp[eqF,kd] at e
   | @rol _ xs2 ds2 hp2 rp2=>
    cases I.list_inj hp.sq hp2.sq
    simp only[eqF,kd,eqK,if_pos (rp.length.symm.trans rp2.length)] at e
    exact lists _ _ _ _ rp rp2 e
   | @ref _ n2 hp2=>
    cases e1:M[n2]? with
    |none=>simp only[eqF,kd,e1] at e;cases e
    |some o=>
     cases o with
     |lst ds2=>
      obtain ⟨ys,g,r⟩:=ll hp2 e1
      cases I.list_inj hp.sq g
      simp only[eqF,kd,e1,eqK,if_pos (rp.length.symm.trans r.length)] at e
      exact lists _ _ _ _ rp r e
  | @ref p n1 hp=>
   cases e0:M[n1]? with
   |none=>simp only[eqF,kd,e0] at e;cases e
   |some o0=>
    cases o0 with
    |lst ds=>
     obtain ⟨xs,g0,rp⟩:=ll hp e0
     cases r2 with
     | @tup _ xs2 ds2 hp2 rp2=>exact (nl (SqT.of hp2) g0).elim
     | @con _ xs2 ds2 hp2 rp2=>exact (nl hp2.sq g0).elim
     |err _ _ _=>simp[eqF,kd,e0] at e
     |dk _=>simp[eqF,kd,e0] at e
     |dt _=>simp[eqF,kd,e0] at e
     |fn _=>simp[eqF,kd,e0] at e
     | @rol _ xs2 ds2 hp2 rp2=>
      cases I.list_inj g0 hp2.sq
      simp only[eqF,kd,e0,eqK,if_pos (rp.length.symm.trans rp2.length)] at e
      exact lists _ _ _ _ rp rp2 e
     | @ref _ n2 hp2=>
      cases e1:M[n2]? with
      |none=>simp only[eqF,kd,e0,e1] at e;cases e
      |some o=>
       cases o with
       |lst ds2=>
        obtain ⟨ys,g,r⟩:=ll hp2 e1
        cases I.list_inj g0 g
        simp only[eqF,kd,e0,e1,eqK,if_pos (rp.length.symm.trans r.length)] at e
        exact lists _ _ _ _ rp r e
end
end DL
end
section
namespace DL
open PySem PySem.Spec PyProof.Rows L2
open PySem.SeqAt (EqAt RcAt RcNeAt)
section
variable {X:Cx} {ξ:XK} {pins:List (Addr × Obj)} {σ:L2.St} {H:Hp} {s:Shared} {α:List Addr} {M:Sto}
theorem ZgC {A:Around} {n:Nat} {xs1 xs2:List V} {ds1 ds2:List D} {i1 i2:List Value} {b:Bool} (v1:Z2 xs1 i1) (v2:Z2 xs2 i2) (r1:Reps X.K H α xs1 ds1) (r2:Reps X.K H α xs2 ds2)
  (ih: ∀ (x y:D) (v w:V) (u z:Value) (b:Bool),eqF n M x y=some b->Rep X.K H α v x->Rep X.K H α w y->Z9 v u->Z9 w z->EqAt A s u z b) (e:eqL (eqF n M) ds1 ds2=some b):
  ∃ f:Nat->Bool,(∀ (j:Nat) (h1:j < i1.toArray.size) (h2:j < i2.toArray.size),EqAt A s i1.toArray[j] i2.toArray[j] (f j))/\b=((List.range (min i1.toArray.size i2.toArray.size)).all f && i1.toArray.size == i2.toArray.size):=by
 obtain ⟨g1,g2⟩:=Zh7 e
 have l1:i1.toArray.size=ds1.length:=by rw[List.size_toArray,<- v1.length,r1.length]
 have l2:i2.toArray.size=ds2.length:=by rw[List.size_toArray,<- v2.length,r2.length]
 refine ⟨_,fun j h1 h2=> ?_,by rw[l1,l2];exact g2⟩
 have k1:j < ds1.length:=by rw[<- l1];exact h1
 have k2:j < ds2.length:=by rw[<- l2];exact h2
 obtain ⟨c,hc⟩:=g1 j _ _ (List.getElem?_eq_getElem k1) (List.getElem?_eq_getElem k2)
 obtain ⟨v,a1,a2⟩:=r1.get (List.getElem?_eq_getElem k1)
 obtain ⟨w,b1,b2⟩:=r2.get (List.getElem?_eq_getElem k2)
 obtain ⟨u,a3,a4⟩:=v1.get a1
 obtain ⟨z,b3,b4⟩:=v2.get b1
 have q:=ih _ _ v w u z c hc a2 b2 a4 b4
 simp only[List.getElem?_eq_getElem k1,List.getElem?_eq_getElem k2,hc,Option.getD_some]
 have e1:i1.toArray[j]=u:=by
  have:=List.getElem?_eq_some_iff.mp a3
  obtain ⟨_,z⟩:=this
  simpa using z
 have e2:i2.toArray[j]=z:=by
  have:=List.getElem?_eq_some_iff.mp b3
  obtain ⟨_,z⟩:=this
  simpa using z
 rw[e1,e2]
 exact q
theorem Zh8 (I:Inv X pins σ H s) (h:HR X.K H α M) {n:Nat} {x y:D} {v w:V} {p q:Addr} {b:Bool} {A:Around} (e:eqF n M x y=some b) (rx:Rep X.K H α v x) (ry:Rep X.K H α w y) (rv:Z9 v (.ref p)) (rw':Z9 w (.ref q))
  (k:RcAt A s (.ref p) (.ref q) b) (k':RcNeAt A s (.ref p) (.ref q) (!b)):Eq3 A s (.ref p) (.ref q) b:=by
 refine ⟨?_,k,k'⟩
 by_cases c:p=q
 ·subst c
  cases Z9.inj rv rw'
  rw[ZjJ I h n rx ry e]
  exact EqAt.same _
 ·exact EqAt.of_refs c k
theorem eq3 (I:Inv X pins σ H s) (h:HR X.K H α M): ∀ (n:Nat) (x y:D) (v w:V) (u z:Value) (b:Bool) (A:Around),A.units + n < cLine->eqF n M x y=some b->Rep X.K H α v x->Rep X.K H α w y->Z9 v u->Z9 w z->Eq3 A s u z b:=by
 intro n
 induction n with
 |zero=>intro x y v w u z b A _ e;simp only[eqF] at e;cases e
 |succ n ih=>
  intro x y v w u z b A hn e rx ry rv rw'
  have hu:A.units < cLine:=by omega
  have e0:=e
  unfold eqF at e
  cases ka:kd M x with
  |none=>rw[ka] at e;cases e
  |some ka'=>
   cases kb:kd M y with
   |none=>rw[ka,kb] at e;cases e
   |some kb'=>
    rw[ka,kb] at e
    have va:=vw I h rx rv ka
    have vb:=vw I h ry rw' kb
    have deep: ∀ (x y:D) (v w:V) (u z:Value) (b:Bool),eqF n M x y=some b->Rep X.K H α v x->Rep X.K H α w y->Z9 v u->Z9 w z->EqAt A.in1 s u z b:=fun x y v w u z b e a1 a2 a3 a4=>
     (ih x y v w u z b A.in1 (by rw[Around.in1_units];omega) e a1 a2 a3 a4).1
    cases va with
    |non=>
     cases vb<;>simp only[eqK,Option.some.injEq] at e<;>subst e
     ·exact ⟨EqAt.same _,.none_none,.none_none⟩
     ·exact ⟨.none_bool _,.none_bool _,.none_bool _⟩
     ·exact ⟨.none_int _ _,.none_int _ _,.none_int _ _⟩
     ·exact ⟨.none_str _ _,.none_str _ _,.none_str _ _⟩
     ·rename_i g _ _;exact ⟨.none_tuple g hu,.none_tuple g hu,.none_tuple g hu⟩
     ·rename_i g _ _;exact ⟨.none_list g hu,.none_list g hu,.none_list g hu⟩
    |bl c=>
     cases vb<;>simp only[eqK,Option.some.injEq] at e<;>subst e
     ·exact ⟨.bool_none _,.bool_none _,.bool_none _⟩
     ·exact ⟨.bool_bool _ _,.bool_bool _ _,.bool_bool _ _⟩
     ·exact ⟨.bool_int _ _ _,.bool_int _ _ _,.bool_int _ _ _⟩
     ·exact ⟨.bool_str _ _ _,.bool_str _ _ _,.bool_str _ _ _⟩
     ·rename_i g _ _;exact ⟨.bool_tuple _ g hu,.bool_tuple _ g hu,.bool_tuple _ g hu⟩
     ·rename_i g _ _;exact ⟨.bool_list _ g hu,.bool_list _ g hu,.bool_list _ g hu⟩
    |int c t=>
     cases vb<;>simp only[eqK,Option.some.injEq] at e<;>subst e
     ·exact ⟨.int_none _ _,.int_none _ _,.int_none _ _⟩
     ·exact ⟨.int_bool _ _ _,.int_bool _ _ _,.int_bool _ _ _⟩
     ·exact ⟨.int_int _ _ _ _,.int_int _ _ _ _,.int_int _ _ _ _⟩
     ·exact ⟨.int_str _ _ _ _,.int_str _ _ _ _,.int_str _ _ _ _⟩
     ·rename_i g _ _;exact ⟨.int_tuple _ _ g hu,.int_tuple _ _ g hu,.int_tuple _ _ g hu⟩
     ·rename_i g _ _;exact ⟨.int_list _ _ g hu,.int_list _ _ g hu,.int_list _ _ g hu⟩
    |str c t=>
     cases vb<;>simp only[eqK,Option.some.injEq] at e<;>subst e
     ·exact ⟨.str_none _ _,.str_none _ _,.str_none _ _⟩
     ·exact ⟨.str_bool _ _ _,.str_bool _ _ _,.str_bool _ _ _⟩
     ·exact ⟨.str_int _ _ _ _,.str_int _ _ _ _,.str_int _ _ _ _⟩
     ·exact ⟨.str_str _ _ _ _,.str_str _ _ _ _,.str_str _ _ _ _⟩
     ·rename_i g _ _;exact ⟨.str_tuple _ _ g hu,.str_tuple _ _ g hu,.str_tuple _ _ g hu⟩
     ·rename_i g _ _;exact ⟨.str_list _ _ g hu,.str_list _ _ g hu,.str_list _ _ g hu⟩
    | @tup p xs ds its g1 w1 q1=>
     cases vb with
     | @tup p2 xs2 ds2 its2 g2 w2 q2=>
      simp only[eqK] at e
      obtain ⟨f,hf,hb⟩:=ZgC w1 w2 q1 q2 deep e
      subst hb
      exact Zh8 I h e0 rx ry rv rw' (.tuples g1 g2 hu hf) (.tuples g1 g2 hu hf)
     | @lst p2 xs2 ds2 its2 g2 w2 q2=>
      simp only[eqK,Option.some.injEq] at e
      subst e
      exact Zh8 I h e0 rx ry rv rw' (.tuple_list g1 g2 hu) (.tuple_list g1 g2 hu)
     |non=>simp only[eqK,Option.some.injEq] at e;subst e;exact ⟨.tuple_none g1 hu,.tuple_none g1 hu,.tuple_none g1 hu⟩
     |bl c=>simp only[eqK,Option.some.injEq] at e;subst e;exact ⟨.tuple_bool _ g1 hu,.tuple_bool _ g1 hu,.tuple_bool _ g1 hu⟩
     |int c t=>simp only[eqK,Option.some.injEq] at e;subst e;exact ⟨.tuple_int _ _ g1 hu,.tuple_int _ _ g1 hu,.tuple_int _ _ g1 hu⟩
     |str c t=>simp only[eqK,Option.some.injEq] at e;subst e;exact ⟨.tuple_str _ _ g1 hu,.tuple_str _ _ g1 hu,.tuple_str _ _ g1 hu⟩
    | @lst p xs ds its g1 w1 q1=>
     cases vb with
     | @lst p2 xs2 ds2 its2 g2 w2 q2=>
      simp only[eqK] at e
      have l1:its.toArray.size=ds.length:=by rw[List.size_toArray,<- w1.length,q1.length]
      have l2:its2.toArray.size=ds2.length:=by rw[List.size_toArray,<- w2.length,q2.length]
      by_cases c:ds.length=ds2.length
      ·rw[if_pos c] at e
       have hs:its.toArray.size=its2.toArray.size:=by rw[l1,l2,c]
       obtain ⟨f,hf,hb⟩:=ZgC w1 w2 q1 q2 deep e
       rw[hs,Nat.min_self,beq_self_eq_true,Bool.and_true,<- hs] at hb
       subst hb
       exact Zh8 I h e0 rx ry rv rw' (.lists g1 g2 hs hu hf) (.lists g1 g2 hs hu hf)
      ·rw[if_neg c] at e
       have e':false=b:=Option.some.inj e
       subst e'
       have hs:(its.toArray.size != its2.toArray.size)=true:=by rw[l1,l2];simpa using c
       exact Zh8 I h e0 rx ry rv rw' (.lists_lengths g1 g2 hs hu) (.lists_lengths g1 g2 hs hu)
     | @tup p2 xs2 ds2 its2 g2 w2 q2=>
      simp only[eqK,Option.some.injEq] at e
      subst e
      exact Zh8 I h e0 rx ry rv rw' (.list_tuple g1 g2 hu) (.list_tuple g1 g2 hu)
     |non=>simp only[eqK,Option.some.injEq] at e;subst e;exact ⟨.list_none g1 hu,.list_none g1 hu,.list_none g1 hu⟩
     |bl c=>simp only[eqK,Option.some.injEq] at e;subst e;exact ⟨.list_bool _ g1 hu,.list_bool _ g1 hu,.list_bool _ g1 hu⟩
     |int c t=>simp only[eqK,Option.some.injEq] at e;subst e;exact ⟨.list_int _ _ g1 hu,.list_int _ _ g1 hu,.list_int _ _ g1 hu⟩
     |str c t=>simp only[eqK,Option.some.injEq] at e;subst e;exact ⟨.list_str _ _ g1 hu,.list_str _ _ g1 hu,.list_str _ _ g1 hu⟩
end
section
variable {X:Cx} {ξ:XK}
noncomputable def Zqo (X:Cx) (neg:Bool):R2:=fun v w H Q=> ∃ α M x y b,HR X.K H α M/\Rep X.K H α v x/\Rep X.K H α w y/\eqF 12 M x y=some b/\Q (.bl (neg ^^ b)) H
theorem Zb3 (hu:X.A.units + 64 < cLine):OpR X (compareOp .Eq) (Zqo X false):=by
 intro pins s σ H v w u z Q I rv rw' ⟨α,M,x,y,b,h,rx,ry,e,q⟩
 refine (eq3 I h 12 x y v w u z b X.A (by omega) e rx ry rv rw').2.1 _ _ _ _ ⟨.bl b,H,I,rfl,?_⟩
 simpa using q
theorem ZgD (hu:X.A.units + 64 < cLine):OpR X (compareOp .NotEq) (Zqo X true):=by
 intro pins s σ H v w u z Q I rv rw' ⟨α,M,x,y,b,h,rx,ry,e,q⟩
 refine (eq3 I h 12 x y v w u z b X.A (by omega) e rx ry rv rw').2.2 _ _ _ _ ⟨.bl (!b),H,I,rfl,?_⟩
 simpa using q
noncomputable def dEq:Bo:=fun x y M=>match eqF 12 M x y with | some b=> .ok (.bl b) M | none=> .bad
noncomputable def dNe:Bo:=fun x y M=>match eqF 12 M x y with | some b=> .ok (.bl (!b)) M | none=> .bad
theorem ZdN:BO X ξ (Zqo X false) dEq:=by
 intro H α M v w x y Q h rv rw' q
 unfold dEq at q
 cases e:eqF 12 M x y with
 |none=>rw[e] at q;exact q.elim
 |some b=>rw[e] at q;exact ⟨α,M,x,y,b,h,rv,rw',e,by simpa using q _ H α Ext.refl h (.bl b)⟩
theorem ZjK:BO X ξ (Zqo X true) dNe:=by
 intro H α M v w x y Q h rv rw' q
 unfold dNe at q
 cases e:eqF 12 M x y with
 |none=>rw[e] at q;exact q.elim
 |some b=>rw[e] at q;exact ⟨α,M,x,y,b,h,rv,rw',e,by simpa using q _ H α Ext.refl h (.bl (!b))⟩
noncomputable def Zh9:V->Bool
 | .non=>true
 | .bl _=>true
 |_=>false
noncomputable def rIs (neg:Bool):R2:=fun v w H Q=>Zh9 w=true/\Q (.bl (neg ^^ decide (v=w))) H
theorem ZgE {v w:V} {u z:Value} (rv:Z9 v u) (rw':Z9 w z) (p:Zh9 w=true):plainIs u z=true/\(u == z)=decide (v=w):=by
 cases w with
 |non=>
  cases rw'
  cases v with
  |non=>cases rv;exact ⟨rfl,rfl⟩
  |bl b=>cases rv;exact ⟨rfl,by rw[decide_eq_false (fun z=>(nomatch z))];rfl⟩
  |int b=>obtain ⟨t,rfl⟩:=rv;exact ⟨rfl,by rw[decide_eq_false (fun z=>(nomatch z))];rfl⟩
  |str b=>obtain ⟨t,rfl⟩:=rv;exact ⟨rfl,by rw[decide_eq_false (fun z=>(nomatch z))];rfl⟩
  |byt b=>obtain ⟨t,rfl⟩:=rv;exact ⟨rfl,by rw[decide_eq_false (fun z=>(nomatch z))];rfl⟩
  |flt b=>obtain ⟨t,rfl⟩:=rv;exact ⟨rfl,by rw[decide_eq_false (fun z=>(nomatch z))];rfl⟩
  |ref b=>cases rv;exact ⟨rfl,by rw[decide_eq_false (fun z=>(nomatch z))];rfl⟩
  |ty b=>cases rv;exact ⟨rfl,by rw[decide_eq_false (fun z=>(nomatch z))];rfl⟩
 |bl c=>
  cases rw'
  cases v with
  |non=>cases rv;exact ⟨rfl,by rw[decide_eq_false (fun z=>(nomatch z))];rfl⟩
  |bl b=>cases rv;refine ⟨rfl,?_⟩;cases b<;>cases c<;>rfl
  |int b=>obtain ⟨t,rfl⟩:=rv;exact ⟨rfl,by rw[decide_eq_false (fun z=>(nomatch z))];rfl⟩
  |str b=>obtain ⟨t,rfl⟩:=rv;exact ⟨rfl,by rw[decide_eq_false (fun z=>(nomatch z))];rfl⟩
  |byt b=>obtain ⟨t,rfl⟩:=rv;exact ⟨rfl,by rw[decide_eq_false (fun z=>(nomatch z))];rfl⟩
  |flt b=>obtain ⟨t,rfl⟩:=rv;exact ⟨rfl,by rw[decide_eq_false (fun z=>(nomatch z))];rfl⟩
  |ref b=>cases rv;exact ⟨rfl,by rw[decide_eq_false (fun z=>(nomatch z))];rfl⟩
  |ty b=>cases rv;exact ⟨rfl,by rw[decide_eq_false (fun z=>(nomatch z))];rfl⟩
 |_=>cases p
theorem ZgF:OpR X (compareOp .Is) (rIs false):=by
 intro pins s σ H v w u z Q I rv rw' ⟨p,q⟩
 obtain ⟨h1,h2⟩:=ZgE rv rw' p
 refine wpAny_is_plain h1 ⟨.bl (u == z),H,I,rfl,?_⟩
 rw[h2]
 simpa using q
theorem Zia:OpR X (compareOp .IsNot) (rIs true):=by
 intro pins s σ H v w u z Q I rv rw' ⟨p,q⟩
 obtain ⟨h1,h2⟩:=ZgE rv rw' p
 refine wpAny_isNot_plain h1 ⟨.bl (!(u == z)),H,I,rfl,?_⟩
 rw[h2]
 simpa using q
noncomputable def isP:D->D->Option Bool
 | .non,.non=>some true
 | .bl a,.bl b=>some (a == b)
 |_,.non=>some false
 |_,.bl _=>some false
 |_,_=>none
noncomputable def dIs:Bo:=fun x y M=>match isP x y with | some b=> .ok (.bl b) M | none=> .bad
noncomputable def dIsNot:Bo:=fun x y M=>match isP x y with | some b=> .ok (.bl (!b)) M | none=> .bad
theorem ZkQ {K:PySem.W.Frag} {H:Hp} {α:List Addr} {v w:V} {x y:D} {b:Bool} (rv:Rep K H α v x) (rw':Rep K H α w y) (e:isP x y=some b):Zh9 w=true/\decide (v=w)=b:=by
 unfold isP at e
 split at e
 ·cases rv;cases rw';cases e;exact ⟨rfl,rfl⟩
 ·rename_i c d
  cases rv;cases rw';cases e
  refine ⟨rfl,?_⟩
  cases c<;>cases d<;>rfl
 ·rename_i hx
  cases rw';cases e
  refine ⟨rfl,decide_eq_false fun z=> ?_⟩
  subst z
  cases rv
  exact hx rfl
 ·rename_i c hx
  cases rw';cases e
  refine ⟨rfl,decide_eq_false fun z=> ?_⟩
  subst z
  cases rv
  exact hx _ rfl
 ·cases e
theorem ZjL:BO X ξ (rIs false) dIs:=by
 intro H α M v w x y Q h rv rw' q
 unfold dIs at q
 cases e:isP x y with
 |none=>rw[e] at q;exact q.elim
 |some b=>
  rw[e] at q
  obtain ⟨p,d⟩:=ZkQ rv rw' e
  exact ⟨p,by rw[d];simpa using q _ H α Ext.refl h (.bl b)⟩
theorem ZjM:BO X ξ (rIs true) dIsNot:=by
 intro H α M v w x y Q h rv rw' q
 unfold dIsNot at q
 cases e:isP x y with
 |none=>rw[e] at q;exact q.elim
 |some b=>
  rw[e] at q
  obtain ⟨p,d⟩:=ZkQ rv rw' e
  exact ⟨p,by rw[d];simpa using q _ H α Ext.refl h (.bl (!b))⟩
noncomputable def Zof:D->Bool
 | .non=>true
 | .bl _=>true
 | .int _=>true
 | .str _=>true
 |_=>false
noncomputable def ZtM:D->D->Bool
 | .non,.non=>true
 | .bl a,.bl b=>a == b
 | .bl a,.int b=>(if a then 1 else 0) == b
 | .int a,.bl b=>a == (if b then 1 else 0)
 | .int a,.int b=>a == b
 | .str a,.str b=>a == b
 |_,_=>false
noncomputable def ZfQ (M:Sto):D->Option (List D)
 | .tup xs=>some xs
 | .rol xs=>some xs
 | .con xs=>some xs
 | .ref n=>match M[n]? with | some (.lst xs)=>some xs | _=>none
 |_=>none
theorem Zib {K:PySem.W.Frag} {H:Hp} {α:List Addr} {M:Sto} (h:HR K H α M) {v:V} {x:D} {ds:List D} (r:Rep K H α v x) (e:ZfQ M x=some ds): ∃ p xs,v= .ref p/\(SqL K H p xs\/SqT K H p xs)/\Reps K H α xs ds:=by
 cases r with
 | @tup p xs ds hp rp=>cases e;exact ⟨p,xs,rfl,.inr (SqT.of hp),rp⟩
 | @con p xs ds hp rp=>cases e;exact ⟨p,xs,rfl,.inr hp.sq,rp⟩
 | @rol p xs ds hp rp=>cases e;exact ⟨p,xs,rfl,.inl hp.sq,rp⟩
 | @ref p n hp=>
  cases e1:M[n]? with
  |none=>simp only[ZfQ,e1] at e;cases e
  |some o=>
   cases o with
   |lst es=>
    simp only[ZfQ,e1] at e
    cases e
    obtain ⟨xs,g1,r1⟩:=h.at hp e1
    exact ⟨p,xs,rfl,.inl (SqL.of g1),r1⟩
 |_=>cases e
noncomputable def inD (x y:D) (M:Sto):Option Bool:=match ZfQ M y with | some ds=>if Zof x=true/\ds.all Zof=true then some (ds.any fun y=>ZtM y x) else none | none=>none
variable {e:Expr} {es:List Expr} {fs:Av} {fa:Ev} {p pos:Pos} {x:Str} {id T:String} {r:List V->Hp->VK->Prop} {f:List D->Sto->Out D}
noncomputable def Zk (f:List D->Sto->Out D) (fs:Av):Ev:=fun ρ M=>(fs ρ M).bind f
noncomputable def CO (X:Cx) (ξ:XK) (r:List V->Hp->VK->Prop) (f:List D->Sto->Out D):Prop:= ∀ H α M vs ds Q,HR X.K H α M->Reps X.K H α vs ds->OP X.K H α ξ Q (f ds M)->r vs H Q
theorem Zs (hc:Zb6 X (.builtin id) r) (hf:CO X ξ r f) (hm:X.mg x=none) (hv:bootBuiltins x=some (.builtin id)) (ha:DA X ξ (e :: es) fs) (hg:Gl X x:=by rfl) (hn:x≠"__name__":=by decide) (hdb:(x == ("__debug__":Str))=false:=by decide)
  (he:starEach (e :: es) X.env=(false,eval e X.env) :: starEach es X.env:=by rfl) (hpl:(backTo pos (starEach es X.env)).any (·.1)=false:=by rfl):DE X ξ (.Call (.Name x p) (e :: es) [] pos) (Zk f fs):=by
 obtain ⟨ta,ha,qa⟩:=ha
 refine ⟨_,Zee hc hg hm hv ha hn hdb he hpl,fun σ ρ H α M Q s h q=> ?_⟩
 exact qa σ ρ H α M _ s h (OG.seq q fun ds M1 vs H1 α1 e1 h1 r1 q1=>hf H1 α1 M1 vs ds Q h1 r1 q1)
theorem Zae (hc:Zb6 X (.type T) r) (hf:CO X ξ r f) (hm:X.mg x=none) (hv:bootBuiltins x=some (.type T)) (ha:DA X ξ (e :: es) fs) (hg:Gl X x:=by rfl) (hn:x≠"__name__":=by decide) (hdb:(x == ("__debug__":Str))=false:=by decide)
  (he:starEach (e :: es) X.env=(false,eval e X.env) :: starEach es X.env:=by rfl) (hpl:(backTo pos (starEach es X.env)).any (·.1)=false:=by rfl):DE X ξ (.Call (.Name x p) (e :: es) [] pos) (Zk f fs):=by
 obtain ⟨ta,ha,qa⟩:=ha
 refine ⟨_,ZhN hc hg hm hv ha hn hdb he hpl,fun σ ρ H α M Q s h q=> ?_⟩
 exact qa σ ρ H α M _ s h (OG.seq q fun ds M1 vs H1 α1 e1 h1 r1 q1=>hf H1 α1 M1 vs ds Q h1 r1 q1)
noncomputable def bLen:List D->Sto->Out D:=fun ds M=>match ds with
 | [x]=>match ZfQ M x with | some xs=> .ok (.int xs.length) M | none=> .bad
 |_=> .bad
theorem Zaf:CO X ξ (fun xs H Q=> ∃ p ys,xs=[.ref p]/\(SqL X.K H p ys\/SqT X.K H p ys)/\Q (.int ys.length) H) bLen:=by
 intro H α M vs ds Q h rs q
 unfold bLen at q
 cases rs with
 |nil=>exact q.elim
 | @cons v x vs ds r t=>
  cases t with
  |cons _ _=>exact q.elim
  |nil=>
  cases e:ZfQ M x with
  |none=>simp only[e] at q;exact q.elim
  |some ys=>
   simp only[e] at q
   obtain ⟨p,xs,rfl,h2,h3⟩:=Zib h r e
   exact ⟨p,xs,rfl,h2,by rw[h3.length];exact q _ H α Ext.refl h (.int _)⟩
noncomputable def bAbs:List D->Sto->Out D:=fun ds M=>match ds with | [.int i]=> .ok (.int (if i < 0 then -i else i)) M | _=> .bad
theorem ZeX:CO X ξ (fun xs H Q=> ∃ i,xs=[.int i]/\Q (.int (if i < 0 then -i else i)) H) bAbs:=by
 intro H α M vs ds Q h rs q
 unfold bAbs at q
 split at q
 ·cases rs with
  |cons r t=>
   cases t
   cases r
   exact ⟨_,rfl,q _ H α Ext.refl h (.int _)⟩
 ·exact q.elim
noncomputable def bMax:List D->Sto->Out D:=fun ds M=>match ds with | [.int i,.int j]=> .ok (.int (if j > i then j else i)) M | _=> .bad
noncomputable def bMin:List D->Sto->Out D:=fun ds M=>match ds with | [.int i,.int j]=> .ok (.int (if j < i then j else i)) M | _=> .bad
theorem ZkR {g:Int->Int->Int} {f:List D->Sto->Out D} (hf: ∀ ds M,f ds M=match ds with | [.int i,.int j]=> .ok (.int (g i j)) M | _=> .bad):CO X ξ (fun xs H Q=> ∃ i j,xs=[.int i,.int j]/\Q (.int (g i j)) H) f:=by
 intro H α M vs ds Q h rs q
 rw[hf] at q
 split at q
 ·rename_i i j
  cases rs with
  |cons r t=>
   cases t with
   |cons r' t'=>
    cases t'
    cases r
    cases r'
    exact ⟨i,j,rfl,q _ H α Ext.refl h (.int _)⟩
 ·exact q.elim
theorem ZkS:CO X ξ (fun xs H Q=> ∃ i j,xs=[.int i,.int j]/\Q (.int (if j > i then j else i)) H) bMax:=ZkR (g:=fun i j=>if j > i then j else i) fun ds M=>rfl
theorem Zog:CO X ξ (fun xs H Q=> ∃ i j,xs=[.int i,.int j]/\Q (.int (if j < i then j else i)) H) bMin:=ZkR (g:=fun i j=>if j < i then j else i) fun ds M=>rfl
noncomputable def bInt:List D->Sto->Out D:=fun ds M=>match ds with | [.int i]=> .ok (.int i) M | [.bl k]=> .ok (.int (if k then 1 else 0)) M | _=> .bad
theorem ZeY:CO X ξ (fun xs H Q=>(∃ i,xs=[.int i]/\Q (.int i) H)\/ ∃ k,xs=[.bl k]/\Q (.int (if k then 1 else 0)) H) bInt:=by
 intro H α M vs ds Q h rs q
 unfold bInt at q
 split at q
 ·cases rs with
  |cons r t=>
   cases t
   cases r
   exact .inl ⟨_,rfl,q _ H α Ext.refl h (.int _)⟩
 ·cases rs with
  |cons r t=>
   cases t
   cases r
   exact .inr ⟨_,rfl,q _ H α Ext.refl h (.int _)⟩
 ·exact q.elim
noncomputable def bList:List D->Sto->Out D:=fun ds M=>match ds with
 | [x]=>match ZfQ M x with | some xs=> .ok (.ref M.length) (M ++ [.lst xs]) | none=> .bad
 |_=> .bad
theorem Zdp:CO X ξ (fun xs H Q=> ∃ p ys,xs=[.ref p]/\(SqL X.K H p ys\/SqT X.K H p ys)/\ ∀ l,H l=none->Q (.ref l) (upd H l (.lst ys))) bList:=by
 intro H α M vs ds Q h rs q
 unfold bList at q
 cases rs with
 |nil=>exact q.elim
 | @cons v x vs ds r t=>
  cases t with
  |cons _ _=>exact q.elim
  |nil=>
  cases e:ZfQ M x with
  |none=>simp only[e] at q;exact q.elim
  |some ys=>
   simp only[e] at q
   obtain ⟨p,xs,rfl,h2,h3⟩:=Zib h r e
   exact ⟨p,xs,rfl,h2,fun l hl=>q _ _ (α ++ [l]) (Ext.new hl) (h.new hl h3) (.ref ⟨h.last l,Kn.lst Zt⟩)⟩
noncomputable def ZbA (M:Sto) (x:D):Option String:=match kd M x with
 |some .non=>some "NoneType"
 |some (.bl _)=>some "bool"
 |some (.int _)=>some "int"
 |some (.str _)=>some "str"
 |some (.tup _)=>some "tuple"
 |some (.lst _)=>some "list"
 |none=>none
noncomputable def Zdc (t T:String):Bool:=t == T || (t == "bool" && T == "int")
noncomputable def Znq (T:String) (f:Ev):Ev:=fun ρ M=>(f ρ M).bind fun x M1=>match ZbA M1 x with | some t=> .ok (.bl (Zdc t T)) M1 | none=> .bad
noncomputable def ZtN (X:Cx) (T:String):List V->Hp->VK->Prop:=fun vs H Q=> ∃ v α M x t,vs=[v,.ty T]/\HR X.K H α M/\Rep X.K H α v x/\ZbA M x=some t/\Q (.bl (Zdc t T)) H
structure Kit (K:PySem.W.Frag) (T:String):Prop where
 non:PySem.W.kitOne K (.type "NoneType") (.type T)=some (Zdc "NoneType" T)
 bl:PySem.W.kitOne K (.type "bool") (.type T)=some (Zdc "bool" T)
 int:PySem.W.kitOne K (.type "int") (.type T)=some (Zdc "int" T)
 str:PySem.W.kitOne K (.type "str") (.type T)=some (Zdc "str" T)
 tup:PySem.W.kitOne K (.type "tuple") (.type T)=some (Zdc "tuple" T)
 lst:PySem.W.kitOne K (.type "list") (.type T)=some (Zdc "list" T)
theorem Zl0 {K:PySem.W.Frag}:Kit K "int":=⟨rfl,rfl,rfl,rfl,rfl,rfl⟩
theorem ZjN {K:PySem.W.Frag}:Kit K "bool":=⟨rfl,rfl,rfl,rfl,rfl,rfl⟩
theorem ZjO (kt:Kit X.K T):Zb6 X (.builtin "isinstance") (ZtN X T):=by
 intro pins s σ H vs us Q I rs ⟨v,α,M,x,t,e1,h,rx,et,q⟩
 subst e1
 obtain ⟨u,w,rfl,ru,rw'⟩:=ZhI rs
 cases rw'
 unfold ZbA at et
 cases ek:kd M x with
 |none=>rw[ek] at et;cases et
 |some k=>
  rw[ek] at et
  have va:=vw I h rx ru ek
  have fin: ∀ tk,EP X pins σ Q (.bool (Zdc t T)) { s with toks:=tk }:=fun tk=>⟨.bl _,H,I.tok tk,rfl,q⟩
  cases va with
  |non=>cases et;exact PySem.W.kia_one PySem.W.kitx_none I.kIn True.intro kt.non (fun z=>nomatch z) fin
  |bl b=>cases et;exact PySem.W.kia_one PySem.W.kitx_bool I.kIn True.intro kt.bl (fun z=>nomatch z) fin
  |int i t=>cases et;exact PySem.W.kia_one PySem.W.kitx_int I.kIn True.intro kt.int (fun z=>nomatch z) fin
  |str i t=>cases et;exact PySem.W.kia_one PySem.W.kitx_str I.kIn True.intro kt.str (fun z=>nomatch z) fin
  |tup g _ _=>cases et;obtain ⟨o,h1,h2,_⟩:=g;exact PySem.W.kia_one PySem.W.kitx_tuple I.kIn ⟨o,h1,h2⟩ kt.tup (fun z=>nomatch z) fin
  |lst g _ _=>cases et;obtain ⟨o,h1,h2,_⟩:=g;exact PySem.W.kia_one PySem.W.kitx_list I.kIn ⟨o,h1,h2⟩ kt.lst (fun z=>nomatch z) fin
theorem ZkT {y:Str} {p2:Pos} (kt:Kit X.K T) (hm:X.mg "isinstance"=none) (hmT:X.mg y=none) (hvT:bootBuiltins y=some (.type T)) (ha:DE X ξ e fa) (hg:Gl X "isinstance":=by rfl) (hgT:Gl X y:=by rfl) (hn:y≠"__name__":=by decide) (hdb:(y == ("__debug__":Str))=false:=by decide)
  (he:starEach [e,.Name y p2] X.env=(false,eval e X.env) :: starEach [.Name y p2] X.env:=by rfl) (he2:starEach [.Name y p2] X.env=(false,eval (.Name y p2) X.env) :: starEach [] X.env:=by rfl) (hpl:(backTo pos (starEach [.Name y p2] X.env)).any (·.1)=false:=by rfl):DE X ξ (.Call (.Name "isinstance" p) [e,.Name y p2] [] pos) (Znq T fa):=by
 obtain ⟨ta,ha,qa⟩:=ha
 refine ⟨_,Zee (ZjO kt) hg hm (by with_unfolding_all rfl) (Zdg ha (Zdg (ZhE hgT hmT hvT (v:= .ty T) rfl hn hdb) ZhK he2) he) (by decide) (by decide) he hpl,fun σ ρ H α M Q s h q=> ?_⟩
 refine qa σ ρ H α M _ s h (OG.seq q fun x M1 v H1 α1 e1 h1 r1 q1=> ?_)
 cases et:ZbA M1 x with
 |none=>simp only[et] at q1;exact q1.elim
 |some t=>
  simp only[et] at q1
  exact ⟨v,α1,M1,x,t,rfl,h1,r1,et,q1 _ H1 α1 Ext.refl h1 (.bl _)⟩
end
end DL
end
section
namespace DL
open PySem PySem.Spec PyProof.Rows L2
noncomputable def CXE (P:Program) (w:World):CXT:=fun outer H s E e s'=> ∃ (ea C:Addr) (dct:Option Addr) (B:Heap) (H':Hp),e= .ref ea/\s'.os=s.os/\AllBare s'.gens/\Un (frs outer) [] H H' s.heap s'.heap/\HOk P w H' s'.heap/\
 DQ.Fly B outer ea (.ref C) dct .none s'.heap/\(∀ b u,H' b=some u-> ∃ o,B.get? b=some o)/\(∀ b o,s.heap.get? b=some o->b ∉ frs outer-> ∃ o',B.get? b=some o')/\E (.ref C) dct H'
structure Thr (X:Cx) (ξ:XK):Prop where
 own:PassesOwn (model X.prog X.w) X.A X.env X.xe
 ps:ZhL (CXE X.prog X.w) X ξ
 mak: ∀ (pins:List (Addr × Obj)) (σ:L2.St) (H:Hp) (s:Shared) (h':Heap) (e:Addr) (oe:Obj) (vs:Array Value) (C:Addr),Inv X pins σ H s->(∀ b o,s.heap.get? b=some o->h'.get? b=some o)->s.heap.get? e=none->h'.get? e=some oe->oe.cls= .ref C->oe.dict=none->
  oe.data= .fields vs->vs[1]?=some .none->vs[2]?=some .none->ξ (.ref C) none H->X.xe (.ref e) { s with heap:=h' }
theorem Zdq {h b1 b2:Heap}: ∀ {l:List Env},h.FunFrames b1 l->(∀ b∈frs l,b2.get? b=none)->h.FunFrames b2 l
 | [],_,_=>trivial
 |env :: r,⟨h1,⟨L,o,h2,h3,h4,h5⟩,h6⟩,k=>⟨h1,⟨L,o,h2,k L (by unfold frs;rw[List.filterMap_cons,h2];exact List.mem_cons_self),h4,h5⟩,Zdq h6 fun b hb=>k b (by
   unfold frs
   rw[List.filterMap_cons,h2]
   exact List.mem_cons_of_mem _ hb)⟩
section
variable {X:Cx} {pins:List (Addr × Obj)} {σ:L2.St} {H H':Hp} {s:Shared} {h1 h2 B:Heap}
theorem ZkU (hx:X.ex=[]) (I:Inv X pins σ H s) (u:Un (frs X.stack) [] H H' s.heap h1) (hok:HOk X.prog X.w H' h1) (t1: ∀ b q,H' b=some q-> ∃ o,B.get? b=some o) (t2: ∀ b o,s.heap.get? b=some o->b ∉ frs X.stack-> ∃ o',B.get? b=some o')
  (st1:B.StaysIn h1) (st2:B.StaysIn h2) (up:h1.UpToSlots h2):Un X.fs [] X.H₀ H' X.s₀.heap h2/\HOk X.prog X.w H' h2/\ ∀ b o,X.s₀.heap.get? b=some o->b ∉ X.fs-> ∃ o',B.get? b=some o':=by
 have kB: ∀ b ob o,B.get? b=some ob->h1.get? b=some o->h2.get? b=some o:=fun b ob o e x=>by
  have z:=st1 b ob e
  rw[x] at z
  cases z
  exact st2 b _ e
 have nx: ∀ b,b ∉ X.ex:=fun b=>by rw[hx];simp
 have nL: ∀ b o,X.s₀.heap.get? b=some o->b ∉ X.fs->b ∉ frs X.stack:=fun b o e n z=>by
  rcases List.mem_cons.mp (I.stkSub b z) with q | q
  ·exact absurd (Heap.lt_size e) (by rw[q];exact Nat.not_lt_of_le I.ok.above)
  ·exact n q
 have th: ∀ b o,X.s₀.heap.get? b=some o->b ∉ X.fs-> ∃ o',B.get? b=some o':=fun b o e n=>by
  obtain ⟨o',e'⟩:=I.base.there b o e (nx b)
  exact t2 b o' e' (nL b o e n)
 have sl: ∀ b o,X.s₀.heap.get? b=some o->X.H₀ b=none->b∈X.fs-> ∃ sl,h2.get? b=some { o with slots:=sl }:=fun b o e n hb=>by
  obtain ⟨s1,e1⟩:=I.base.slot b o e n hb (nx b)
  obtain ⟨s2,e2⟩:=u.any e1 (I.base.free b o e n (nx b)) (by simp)
  obtain ⟨_,o',g1,g2⟩:=I.ok.funs.mem hb
  rw[e] at g1
  cases g1
  obtain ⟨s3,e3⟩:=up b _ e2 g2
  exact ⟨s3,e3⟩
 refine ⟨⟨fun b o e n hb _=> ?_,fun b o e n hb _=>sl b o e n hb,fun b o e n _=> ?_,fun b o e _=> ?_,fun b xs e=>u.tups b xs (I.base.tups b xs e),fun b o xs e=>u.frzs b o xs (I.base.frzs b o xs e),fun b ps e=> ?_⟩,fun a o e=> ?_,th⟩
 ·obtain ⟨ob,g⟩:=th b o e hb
  exact kB b ob o g (u.keep b o (I.base.keep b o e n hb (nx b)) (I.base.free b o e n (nx b)) (nL b o e hb) (by simp))
 ·obtain ⟨o',e'⟩:=I.base.there b o e (nx b)
  exact u.free b o' e' (I.base.free b o e n (nx b)) (by simp)
 ·by_cases hb:b∈X.fs
  ·obtain ⟨s1,e1⟩:=sl b o e (I.ok.frf b hb) hb
   exact ⟨_,e1⟩
  ·obtain ⟨ob,g⟩:=th b o e hb
   exact ⟨ob,st2 b ob g⟩
 ·obtain ⟨m1,e1⟩:=I.base.tbls b ps e
  obtain ⟨m2,e2⟩:=u.tbls b _ e1
  exact ⟨m1 ++ m2,by rw[e2,Array.append_assoc]⟩
 ·refine (hok a o e).stay (fun b q hb x=> ?_) (fun _ q=>q) fun _ _ q=>q
  have tr: ∃ q,H' b=some q:=by
   rcases hb with z | z
   ·exact ⟨o,z ▸ e⟩
   ·exact ⟨_,z⟩
  obtain ⟨q',z⟩:=tr
  obtain ⟨ob,g⟩:=t1 b q' z
  exact kB b ob q g x
end
theorem Zei {P:Program} {w:World} {H:Hp} {h:Heap} {a:Addr} {o:HO} (x:Za6 P w H h a o): ∃ ob,h.get? a=some ob:=by
 cases o with
 |lst xs=>obtain ⟨_,_,_,_,e⟩:=x;exact ⟨_,e⟩
 |tup xs=>obtain ⟨_,_,_,ob,e,_⟩:=x;exact ⟨_,e⟩
 |dK kvs=>obtain ⟨_,_,_,_,o,_,_,e,_⟩:=x;exact ⟨_,e⟩
 |dT kvs=>obtain ⟨_,_,_,_,o,_,_,e,_⟩:=x;exact ⟨_,e⟩
 |set S n=>obtain ⟨o,_,_,_,e,_⟩:=x;exact ⟨_,e⟩
 |ins C dx fs=>obtain ⟨_,_,_,e,_⟩:=x;exact ⟨_,e⟩
 |own y=>exact x
 |xd fs=>obtain ⟨_,⟨_,_,_,e,_⟩,_⟩:=x;exact ⟨_,e⟩
 |rng lo hi=>obtain ⟨_,_,_,e⟩:=x;exact ⟨_,e⟩
 |frz ob u=>obtain ⟨e,_⟩:=x;exact ⟨_,e⟩
 |tbl ps=>exact ⟨_,(show h.get? a=some _ from x)⟩
 |met f y=>exact ⟨_,(show h.get? a=some _ from x)⟩
 |ext φ=>obtain ⟨_,e,_⟩:=x;exact e
noncomputable def ZeZ (h:Heap) (l:List Addr):Heap:=Zjl h fun b=>if b∈l then some (.own 0) else none
theorem Zdd {h:Heap} {l:List Addr} {b:Addr} {o:Obj} (e:h.get? b=some o) (n:b ∉ l):(ZeZ h l).get? b=some o:=Zgt e (if_neg n)
theorem Zdr {h:Heap} {l:List Addr} {b:Addr} {o:Obj} (e:(ZeZ h l).get? b=some o):h.get? b=some o/\b ∉ l:=by
 obtain ⟨a,n⟩:=ZhB e
 refine ⟨a,fun z=> ?_⟩
 simp only[if_pos z] at n
 cases n
theorem Ze0 {h:Heap} {l:List Addr} {b:Addr} (n:b∈l):(ZeZ h l).get? b=none:=by
 cases q:(ZeZ h l).get? b with
 |none=>rfl
 |some o=>exact absurd n (Zdr q).2
theorem Zoh {P:Program} {w:World} {K:PySem.W.Frag} {mg:Str->Option Value} {base:Heap} {N:List Str} {qual:Str} {scope:Scope} {f:Addr} {cd:Value} {A:Around} {outer:List Env} {s:Shared} {H:Hp} {E:XK}:
  Thr (ZfC (CXE P w) P w K mg base N qual scope f cd A outer s H E) E:=by
 refine ⟨PassesOwn.leaving,fun pins σ H1 s1 e s2 I h=> ?_,fun pins σ H1 s1 h' e oe vs C I k hn he hc hdi hd v1 v2 q=> ?_⟩
 ·obtain ⟨ea,C,dct,B,H2,rfl,os,bare,un,hok,fl,t1,t2,q⟩:=h
  refine DQ.ZhY (outer:=outer) I.ok.frames rfl fl fun h3 f3 up=> ?_
  obtain ⟨a1,a2,a3⟩:=ZkU rfl I un hok t1 t2 fl.stay f3.stay up
  exact ⟨ea,C,dct,B,H2,rfl,os.trans I.os,bare,a1,a2,f3,t1,a3,q⟩
 ·have st:=I.stack
  have t2: ∀ b o,s1.heap.get? b=some o->b ∉ frs (ZfC (CXE P w) P w K mg base N qual scope f cd A outer s H E).stack-> ∃ o',(ZeZ s1.heap (frs (ZfC (CXE P w) P w K mg base N qual scope f cd A outer s H E).stack)).get? b=some o':=fun b o x n=>⟨o,Zdd x n⟩
  have hs:(ZeZ s1.heap (frs (ZfC (CXE P w) P w K mg base N qual scope f cd A outer s H E).stack)).StaysIn h':=fun b o x=>k b o (Zdr x).1
  have hl:h'.FunFrames (ZeZ s1.heap (frs (ZfC (CXE P w) P w K mg base N qual scope f cd A outer s H E).stack)) (ZfC (CXE P w) P w K mg base N qual scope f cd A outer s H E).stack:=
   (Zdq st fun b hb=>Ze0 hb).of_keeps fun b o x _=>⟨o,k b o x,rfl⟩
  have hb:(ZeZ s1.heap (frs (ZfC (CXE P w) P w K mg base N qual scope f cd A outer s H E).stack)).get? e=none:=by
   cases z:(ZeZ s1.heap (frs (ZfC (CXE P w) P w K mg base N qual scope f cd A outer s H E).stack)).get? e with
   |none=>rfl
   |some o=>
    have:=(Zdr z).1
    rw[hn] at this
    cases this
  have t1: ∀ b u,H1 b=some u-> ∃ o,(ZeZ s1.heap (frs (ZfC (CXE P w) P w K mg base N qual scope f cd A outer s H E).stack)).get? b=some o:=fun b u x=>by
   obtain ⟨o,g⟩:=Zei (I.hok b u x)
   exact ⟨o,Zdd g fun z=>by rw[I.stkFree b z] at x;cases x⟩
  refine DQ.ZhZ (s:={ s1 with heap:=h' }) (outer:=outer) I.ok.frames rfl hl he hs hb hd v1 v2 fun h3 f3 up=> ?_
  obtain ⟨a1,a2,a3⟩:=ZkU rfl I (Un.kept k) (I.hok.kept k) t1 t2 hs f3.stay up
  rw[hc,hdi] at f3
  exact ⟨e,C,none,_,H1,rfl,I.os,I.bare,a1,a2,f3,t1,a3,q⟩
end DL
end
section
namespace DL
open PySem PySem.Spec PyProof.Rows L2
noncomputable def FP (K:PySem.W.Frag) (H:Hp) (α:List Addr) (ξ:XK) (Dn:Ends):Fl->Prop
 | .nx ρ' M'=> ∀ σ' H' α',Ext K H H' α α'->HR K H' α' M'->SR K H' α' σ' ρ'->Dn.nx σ' H'
 | .brk ρ' M'=> ∀ σ' H' α',Ext K H H' α α'->HR K H' α' M'->SR K H' α' σ' ρ'->Dn.bk σ' H'
 | .cnt ρ' M'=> ∀ σ' H' α',Ext K H H' α α'->HR K H' α' M'->SR K H' α' σ' ρ'->Dn.ct σ' H'
 | .ret d M'=> ∀ v H' α',Ext K H H' α α'->HR K H' α' M'->Rep K H' α' v d->Dn.rt v H'
 | .exc c M'=> ∀ C H' α',PySem.W.nsIn K mainGlobals c=some (some (.ref C))->Ext K H H' α α'->HR K H' α' M'->ξ (.ref C) none H'
 | .bad=>False
theorem FP.ext {K:PySem.W.Frag} {H H1:Hp} {α α1:List Addr} {ξ:XK} {Dn:Ends} {o:Fl} (h:FP K H α ξ Dn o) (e:Ext K H H1 α α1):FP K H1 α1 ξ Dn o:=by
 cases o with
 |nx ρ M=>exact fun σ' H' α' e'=>h σ' H' α' (e.trans e')
 |brk ρ M=>exact fun σ' H' α' e'=>h σ' H' α' (e.trans e')
 |cnt ρ M=>exact fun σ' H' α' e'=>h σ' H' α' (e.trans e')
 |ret d M=>exact fun v H' α' e'=>h v H' α' (e.trans e')
 |exc c M=>exact fun C H' α' n e'=>h C H' α' n (e.trans e')
 |bad=>exact h
noncomputable def DS (X:Cx) (ξ:XK) (st:Stmt) (g:Sv):Prop:= ∃ t:TS,PS X st t/\ ∀ σ ρ H α M Dn,SR X.K H α σ ρ->HR X.K H α M->FP X.K H α ξ Dn (g ρ M)->t Dn σ H
noncomputable def DSs (X:Cx) (ξ:XK) (st:List Stmt) (g:Sv):Prop:= ∃ t:TS,PSs X st t/\ ∀ σ ρ H α M Dn,SR X.K H α σ ρ->HR X.K H α M->FP X.K H α ξ Dn (g ρ M)->t Dn σ H
noncomputable def ZaU {β:Type} (o:Out β) (k:β->Sto->Fl):Fl:=match o with
 | .ok a M=>k a M
 | .exc c M=> .exc c M
 | .bad=> .bad
theorem FP.seq {β γ:Type} {K:PySem.W.Frag} {R:Hp->List Addr->γ->β->Prop} {H:Hp} {α:List Addr} {ξ:XK} {Dn:Ends} {Q1:γ->Hp->Prop} {o:Out β} {f:β->Sto->Fl}
  (h:FP K H α ξ Dn (ZaU o f)) (k: ∀ d M' v H' α',Ext K H H' α α'->HR K H' α' M'->R H' α' v d->FP K H' α' ξ Dn (f d M')->Q1 v H'):OG K R H α ξ Q1 o:=by
 cases o with
 |ok d M'=>exact fun v H' α' e hr r=>k d M' v H' α' e hr r (FP.ext (o:=f d M') h e)
 |exc c M'=>exact h
 |bad=>exact h
noncomputable def ZC (g h:Sv):Sv:=fun ρ M=>match g ρ M with
 | .nx ρ1 M1=>h ρ1 M1
 |o=>o
noncomputable def sNil:Sv:=fun ρ M=> .nx ρ M
noncomputable def Zag (f:Ev):Sv:=fun ρ M=>ZaU (f ρ M) fun d M1=> .ret d M1
noncomputable def Zoi:Sv:=fun _ M=> .ret .non M
noncomputable def Zb0 (f:Ev):Sv:=fun ρ M=>ZaU (f ρ M) fun _ M1=> .nx ρ M1
noncomputable def sIf (c:Tv) (g h:Sv):Sv:=fun ρ M=>ZaU (c ρ M) fun k M1=>if k=true then g ρ M1 else h ρ M1
noncomputable def sBrk:Sv:=fun ρ M=> .brk ρ M
noncomputable def ZtO:Sv:=fun ρ M=> .cnt ρ M
noncomputable def sBad:Sv:=fun _ _=> .bad
noncomputable abbrev Tg:=D->Ro->Option Ro
noncomputable abbrev Tgs:=List D->Ro->Option Ro
noncomputable def gNm (i:Nat):Tg:=fun d ρ=>some (ρ.set i (some d))
noncomputable def gNl:Tgs:=fun ds ρ=>match ds with | []=>some ρ | _=>none
noncomputable def gCs (g:Tg) (gs:Tgs):Tgs:=fun ds ρ=>match ds with | d :: r=>(match g d ρ with | some ρ1=>gs r ρ1 | none=>none) | []=>none
noncomputable def gTp (gs:Tgs):Tg:=fun d ρ=>match d with | .tup ds=>gs ds ρ | _=>none
noncomputable def ZQ (g:Tg) (f:Ev):Sv:=fun ρ M=>ZaU (f ρ M) fun d M1=>match g d ρ with | some ρ1=> .nx ρ1 M1 | none=> .bad
noncomputable def ZfD (i j:Nat) (fs:Av):Sv:=fun ρ M=>ZaU (fs ρ M) fun ds M1=>match ds with | [v,w]=> .nx ((ρ.set i (some v)).set j (some w)) M1 | _=> .bad
noncomputable def ZjP (fo fi fe:Ev):Sv:=fun ρ M=>ZaU (fe ρ M) fun d M1=>ZaU (fo ρ M1) fun o M2=>ZaU (fi ρ M2) fun i M3=>match o,i with
 | .ref n,.int k=>(match M3[n]? with
  |some (.lst xs)=>(match ixN xs.length k with | some j=> .nx ρ (M3.set n (.lst (xs.set j d))) | none=> .bad)
  |_=> .bad)
 |_,_=> .bad
section
variable {X:Cx} {ξ:XK} {st:Stmt} {sts:List Stmt} {g h:Sv} {e:Expr} {f:Ev} {pos:Pos} {c:Expr} {fc:Tv}
theorem ZD:DSs X ξ [] sNil:=⟨_,Zlt,fun σ ρ H α M Dn s h q=>q σ H α Ext.refl h s⟩
theorem Zf (h1:DS X ξ st g) (h2:DSs X ξ sts h):DSs X ξ (st :: sts) (ZC g h):=by
 obtain ⟨t1,p1,q1⟩:=h1
 obtain ⟨t2,p2,q2⟩:=h2
 refine ⟨_,Zjr p1 p2,fun σ ρ H α M Dn s hh q=>q1 σ ρ H α M { Dn with nx:=t2 Dn } s hh ?_⟩
 unfold ZC at q
 cases e:g ρ M with
 |nx ρ1 M1=>rw[e] at q;exact fun σ' H' α' ex hr sr=>q2 σ' ρ1 H' α' M1 Dn sr hr (FP.ext q ex)
 |brk ρ1 M1=>rw[e] at q;exact q
 |cnt ρ1 M1=>rw[e] at q;exact q
 |ret d M1=>rw[e] at q;exact q
 |exc c M1=>rw[e] at q;exact q
 |bad=>rw[e] at q;exact q
theorem Zj (h1:DS X ξ st g):DSs X ξ [st] g:=let ⟨_,p,q⟩:=h1;⟨_,Zlu p,q⟩
theorem Zw (he:DE X ξ e f):DS X ξ (.Return (some e) pos) (Zag f):=by
 obtain ⟨t,p,q⟩:=he
 exact ⟨_,ZnG p,fun σ ρ H α M Dn s hh w=>q σ ρ H α M _ s hh (FP.seq w fun d M1 v H1 α1 e1 h1 r1 w1=>w1 v H1 α1 Ext.refl h1 r1)⟩
theorem ZaV (he:DE X ξ e f) (hs:swapsWith e none pos.line X.env=pure false:=by rfl):DS X ξ (.Expr e pos) (Zb0 f):=by
 obtain ⟨t,p,q⟩:=he
 exact ⟨_,Zlv p hs,fun σ ρ H α M Dn s hh w=>q σ ρ H α M _ s hh (FP.seq w fun d M1 v H1 α1 e1 h1 r1 w1=>w1 σ H1 α1 Ext.refl h1 (s.mono e1))⟩
theorem Zac {a b:List Stmt} (hc:DT X ξ c fc) (ha:DSs X ξ a g) (hb:DSs X ξ b h):DS X ξ (.If c a b pos) (sIf fc g h):=by
 obtain ⟨tc,pc,qc⟩:=hc
 obtain ⟨ta,pa,qa⟩:=ha
 obtain ⟨tb,pb,qb⟩:=hb
 refine ⟨_,Zqz pc pa pb,fun σ ρ H α M Dn s hh w=>qc σ ρ H α M _ s hh (FP.seq w fun k M1 v H1 α1 e1 h1 r1 w1=> ?_)⟩
 cases r1
 cases k with
 |true=>exact ZlO (qa σ ρ H1 α1 M1 Dn (s.mono e1) h1 w1)
 |false=>exact ZlN (qb σ ρ H1 α1 M1 Dn (s.mono e1) h1 w1)
theorem Zoj:DS X ξ (.Break pos) sBrk:=⟨_,Zjs,fun σ ρ H α M Dn s h q=>q σ H α Ext.refl h s⟩
theorem Zds:DS X ξ st sBad:=⟨_,Zjt,fun σ ρ H α M Dn s h q=>q⟩
noncomputable def DG (X:Cx) (tg:Expr) (g:Tg):Prop:= ∃ t:TG,PG X tg t/\ ∀ v d σ ρ H α ρ' Q,SR X.K H α σ ρ->Rep X.K H α v d->g d ρ=some ρ'->(∀ σ',SR X.K H α σ' ρ'->Q σ' H)->t v σ H Q
noncomputable def DGs (X:Cx) (tgs:List Expr) (g:Tgs):Prop:= ∃ t:TGs,PGs X tgs t/\ ∀ vs ds σ ρ H α ρ' Q,SR X.K H α σ ρ->Reps X.K H α vs ds->g ds ρ=some ρ'->(∀ σ',SR X.K H α σ' ρ'->Q σ' H)->t vs σ H Q
theorem Zm (i:Nat) {x:Str} (hN:X.N.Nodup) (hi:X.N[i]?=some x:=by rfl) (hx:Loc X.env.scope x:=by first | exact Or.inl rfl | exact Or.inr rfl) (hm:X.may i=true:=by rfl) (hf:X.fn x=true\/X.env.scope.names.lookup x=some .local:=by first | exact .inl rfl | exact .inr rfl | assumption):DG X (.Name x pos) (gNm i):=by
 refine ⟨_,Zlw hN hi hx hm hf,fun v d σ ρ H α ρ' Q s r e k=> ?_⟩
 cases e
 exact k _ (s.set i r)
theorem ZT:DGs X [] gNl:=by
 refine ⟨_,Zlx,fun vs ds σ ρ H α ρ' Q s r e k=> ?_⟩
 cases r with
 |nil=>cases e;exact ⟨rfl,k _ s⟩
 |cons _ _=>cases e
theorem Zp {es:List Expr} {g:Tg} {gs:Tgs} (h1:DG X e g) (h2:DGs X es gs) (hs:(assignEach (e :: es) X.env).map (·.2)=assign e X.env :: (assignEach es X.env).map (·.2):=by rfl):DGs X (e :: es) (gCs g gs):=by
 obtain ⟨t1,p1,q1⟩:=h1
 obtain ⟨t2,p2,q2⟩:=h2
 refine ⟨_,Zju p1 p2 hs,fun vs ds σ ρ H α ρ' Q s r e k=> ?_⟩
 cases r with
 |nil=>cases e
 |cons r rr=>
  rename_i v d vs ds
  cases e1:g d ρ with
  |none=>simp only[gCs,e1] at e;cases e
  |some ρ1=>
   simp only[gCs,e1] at e
   exact ⟨v,vs,rfl,q1 v d σ ρ H α ρ1 _ s r e1 fun σ' s'=>q2 vs ds σ' ρ1 H α ρ' Q s' rr e k⟩
theorem Zar {es:List Expr} {k:Nat} {gs:Tgs} {n:Nat} (hc:X.calm=true) (h:DGs X es gs) (hn:(assignEach es X.env).length=n:=by rfl) (hlen: ∀ ds ρ ρ',gs ds ρ=some ρ'->ds.length=n) (hst:(assignEach es X.env).findIdx? (·.1)=none:=by rfl):DG X (.Tuple es k pos) (gTp gs):=by
 obtain ⟨t,p,q⟩:=h
 refine ⟨_,ZnI hc p hn hst,fun v d σ ρ H α ρ' Q s r e k=> ?_⟩
 cases r with
 | @tup a xs ds hp rp=>
  have e':gs ds ρ=some ρ':=e
  exact ⟨a,xs,rfl,(SqT.of hp),by rw[rp.length];exact hlen ds ρ ρ' e',q xs ds σ ρ H α ρ' Q s rp e' k⟩
 |_=>cases e
theorem ZU {ds:List D} {ρ ρ':Ro} (h:gNl ds ρ=some ρ'):ds.length=0:=by cases ds with | nil=>rfl | cons _ _=>cases h
theorem Zx {g:Tg} {gs:Tgs} {n:Nat} (h: ∀ ds ρ ρ',gs ds ρ=some ρ'->ds.length=n) (ds:List D) (ρ ρ':Ro) (e:gCs g gs ds ρ=some ρ'):ds.length=n + 1:=by
 cases ds with
 |nil=>cases e
 |cons d r=>
  cases e1:g d ρ with
  |none=>simp only[gCs,e1] at e;cases e
  |some ρ1=>simp only[gCs,e1] at e;rw[List.length_cons,h r ρ1 ρ' e]
theorem Zr (i:Nat) {x:Str} {pos':Pos} (hN:X.N.Nodup) (he:DE X ξ e f) (hi:X.N[i]?=some x:=by rfl) (hx:Loc X.env.scope x:=by first | exact Or.inl rfl | exact Or.inr rfl) (hm:X.may i=true:=by rfl) (hs:swapsWith e (some (.Name x pos')) pos.line X.env=pure false:=by rfl) (hf:X.fn x=true\/X.env.scope.names.lookup x=some .local:=by first | exact .inl rfl | exact .inr rfl | assumption):
  DS X ξ (.Assign [.Name x pos'] e pos) (ZQ (gNm i) f):=by
 obtain ⟨t,p,q⟩:=he
 exact ⟨_,ZnK hN hi hx hm p hs hf,fun σ ρ H α M Dn s hh w=>q σ ρ H α M _ s hh (FP.seq w fun d M1 v H1 α1 e1 h1 r1 w1=>w1 _ H1 α1 Ext.refl h1 ((s.mono e1).set i r1))⟩
theorem ZdV {tg:Expr} {gt:Tg} (he:DE X ξ e f) (hg:DG X tg gt) (hs:swapsWithSole [tg] e pos.line X.env=pure false:=by rfl) (hw:swappedStores [tg] e X.env=pure none:=by rfl)
  (h1:(assignEach [tg] X.env).map (·.2)=[assign tg X.env]:=by rfl):DS X ξ (.Assign [tg] e pos) (ZQ gt f):=by
 obtain ⟨t,p,q⟩:=he
 obtain ⟨tt,pt,qt⟩:=hg
 refine ⟨_,ZkJ p pt hs hw h1,fun σ ρ H α M Dn s hh w=>q σ ρ H α M _ s hh (FP.seq w fun d M1 v H1 α1 e1 h1 r1 w1=> ?_)⟩
 cases eg:gt d ρ with
 |none=>simp only[eg] at w1;exact w1.elim
 |some ρ1=>
  simp only[eg] at w1
  exact qt v d σ ρ H1 α1 ρ1 _ (s.mono e1) r1 eg fun σ' s'=>w1 σ' H1 α1 Ext.refl h1 s'
theorem Zdt (i j:Nat) {x y:Str} {a b:Expr} {fs:Av} {px py pt:Pos} {kt k2 pt2} (hc:X.calm=true) (hN:X.N.Nodup) (ha:DA X ξ [a,b] fs) (hi:X.N[i]?=some x:=by rfl) (hj:X.N[j]?=some y:=by rfl) (mi:X.may i=true:=by rfl) (mj:X.may j=true:=by rfl) (hij:i≠j:=by decide)
  (hx:X.env.scope.names.lookup x=some .local:=by rfl) (hy:X.env.scope.names.lookup y=some .local:=by rfl)
  (hw:swappedStores [.Tuple [.Name x px,.Name y py] kt pt] (.Tuple [a,b] k2 pt2) X.env=pure (some [x,y]):=by rfl)
  (hs:swapsWithSole [.Tuple [.Name x px,.Name y py] kt pt] (.Tuple [a,b] k2 pt2) pos.line X.env=pure false:=by rfl):
  DS X ξ (.Assign [.Tuple [.Name x px,.Name y py] kt pt] (.Tuple [a,b] k2 pt2) pos) (ZfD i j fs):=by
 obtain ⟨t,p,q⟩:=ha
 refine ⟨_,ZnL hc mi mj hN hi hj hij hx hy p hw hs,fun σ ρ H α M Dn s hh w=>q σ ρ H α M _ s hh (FP.seq w fun ds M1 vs H1 α1 e1 h1 r1 w1=> ?_)⟩
 match r1 with
 | .nil=>exact w1.elim
 | .cons _ .nil=>exact w1.elim
 | .cons _ (.cons _ (.cons _ _))=>exact w1.elim
 | .cons r (.cons r' .nil)=>exact ⟨_,_,rfl,w1 _ H1 α1 Ext.refl h1 (((s.mono e1).set i r).set j r')⟩
theorem ZgG {o i:Expr} {fo fi:Ev} {pos':Pos} (ho:DE X ξ o fo) (hi:DE X ξ i fi) (he:DE X ξ e f)
  (ha: ∀ v,assign (.Subscript o i pos') X.env v=(do
   let ov <- holding [v] (eval o X.env)
   let iv <- holding [v,ov] (eval i X.env)
   standAt pos'
   holding [v,ov,iv] (setItem ov iv v)
   release [v,ov,iv] []):=by intro _;rfl) (hs:swapsWithSole [.Subscript o i pos'] e pos.line X.env=pure false:=by rfl) (hw:swappedStores [.Subscript o i pos'] e X.env=pure none:=by rfl)
  (h1:(assignEach [.Subscript o i pos'] X.env).map (·.2)=[assign (.Subscript o i pos') X.env]:=by rfl):DS X ξ (.Assign [.Subscript o i pos'] e pos) (ZjP fo fi f):=by
 obtain ⟨t,p,q⟩:=he
 obtain ⟨to,po,qo⟩:=ho
 obtain ⟨ti,pi,qi⟩:=hi
 refine ⟨_,ZkJ p (ZnJ po pi ZjA ha) hs hw h1,fun σ ρ H α M Dn s hh w=>q σ ρ H α M _ s hh (FP.seq w fun d M1 v H1 α1 e1 h1 r1 w1=> ?_)⟩
 refine qo σ ρ H1 α1 M1 _ (s.mono e1) h1 (FP.seq w1 fun od M2 ov H2 α2 e2 h2 r2 w2=> ?_)
 refine qi σ ρ H2 α2 M2 _ ((s.mono e1).mono e2) h2 (FP.seq w2 fun kd M3 kv H3 α3 e3 h3 r3 w3=> ?_)
 cases Rep.mono e3 r2 with
 | @ref p n hp=>
  cases r3 with
  |int k=>
   cases em:M3[n]? with
   |none=>simp only[em] at w3;exact w3.elim
   |some so=>
    cases so with
    |lst ds=>
     cases ej:ixN ds.length k with
     |none=>simp only[em,ej] at w3;exact w3.elim
     |some j=>
      simp only[em,ej] at w3
      obtain ⟨xs,g1,g2⟩:=h3.at hp em
      refine ⟨p,xs,k,j,rfl,rfl,g1,by rw[g2.length];exact ej,?_⟩
      exact w3 σ _ α3 (Ext.wr g1) (h3.wr hp g1 (Reps.set (Rep.mono e3 (Rep.mono e2 r1)) j g2)) ((((s.mono e1).mono e2).mono e3).mono (Ext.wr g1))
  |_=>exact w3.elim
 |_=>exact w3.elim
noncomputable def whN (c:Tv) (g:Sv):Nat->Ro->Sto->Option Fl
 |0,_,_=>none
 |n + 1,ρ,M=>match c ρ M with
  | .ok true M1=>(match g ρ M1 with
   | .nx ρ2 M2=>whN c g n ρ2 M2
   | .cnt ρ2 M2=>whN c g n ρ2 M2
   | .brk ρ2 M2=>some (.nx ρ2 M2)
   |o=>some o)
  | .ok false M1=>some (.nx ρ M1)
  | .exc e M1=>some (.exc e M1)
  | .bad=>some .bad
theorem Zde {c:Tv} {g:Sv}: ∀ {n:Nat} {ρ:Ro} {M:Sto} {o:Fl},whN c g n ρ M=some o-> ∀ k,whN c g (n + k) ρ M=some o
 |0,_,_,_,e,_=>by simp only[whN] at e;cases e
 |n + 1,ρ,M,o,e,k=>by
  have ek:n + 1 + k=(n + k) + 1:=by omega
  rw[ek]
  unfold whN at e ⊢
  cases ec:c ρ M with
  |bad=>rw[ec] at e;exact e
  |exc x M1=>rw[ec] at e;exact e
  |ok b M1=>
   rw[ec] at e
   cases b with
   |false=>exact e
   |true=>
    cases eg:g ρ M1 with
    |nx ρ2 M2=>simp only[eg] at e ⊢;exact Zde e k
    |cnt ρ2 M2=>simp only[eg] at e ⊢;exact Zde e k
    |brk ρ2 M2=>simp only[eg] at e ⊢;exact e
    |ret d M2=>simp only[eg] at e ⊢;exact e
    |exc x M2=>simp only[eg] at e ⊢;exact e
    |bad=>simp only[eg] at e ⊢;exact e
open Classical in
noncomputable def sWh (c:Tv) (g:Sv):Sv:=fun ρ M=>if h: ∃ o n,whN c g n ρ M=some o then Classical.choose h else .bad
theorem Zic {c:Tv} {g:Sv} {n:Nat} {ρ:Ro} {M:Sto} {o:Fl} (e:whN c g n ρ M=some o):sWh c g ρ M=o:=by
 have hx: ∃ o n,whN c g n ρ M=some o:=⟨o,n,e⟩
 unfold sWh
 rw[dif_pos hx]
 obtain ⟨m,em⟩:=Classical.choose_spec hx
 have h1:=Zde em n
 have h2:=Zde e m
 rw[Nat.add_comm] at h2
 rw[h1] at h2
 exact Option.some.inj h2
theorem ZkV {c:Tv} {g:Sv} {ρ:Ro} {M:Sto} (e:sWh c g ρ M≠ .bad): ∃ n,whN c g n ρ M=some (sWh c g ρ M):=by
 by_cases hx: ∃ o n,whN c g n ρ M=some o
 ·obtain ⟨o,n,h⟩:=hx
  exact ⟨n,by rw[Zic h];exact h⟩
 ·unfold sWh at e
  rw[dif_neg hx] at e
  exact absurd rfl e
theorem Zid {c:Tv} {g:Sv} {ρ:Ro} {M M1:Sto} (h:c ρ M= .ok false M1):sWh c g ρ M= .nx ρ M1:=Zic (n:=1) (by simp only[whN,h])
theorem ZjQ {c:Tv} {g:Sv} {ρ ρ2:Ro} {M M1 M2:Sto} (h:c ρ M= .ok true M1) (h2:g ρ M1= .nx ρ2 M2) (hb:sWh c g ρ2 M2≠ .bad):sWh c g ρ M=sWh c g ρ2 M2:=by
 obtain ⟨n,e⟩:=ZkV hb
 exact Zic (n:=n + 1) (by simp only[whN,h,h2];exact e)
theorem Zej {body:List Stmt} (hp:PassesOwn (model X.prog X.w) X.A X.env X.xe) (hc:DT X ξ c fc) (hb:DSs X ξ body g):DS X ξ (.While c body [] pos) (sWh fc g):=by
 obtain ⟨tc,pc,qc⟩:=hc
 obtain ⟨tb,pb,qb⟩:=hb
 refine ⟨_,Zjv hp pc pb,fun σ ρ H α M Dn s hh w=> ?_⟩
 have nb:sWh fc g ρ M≠ .bad:=fun z=>by rw[z] at w;exact w
 obtain ⟨n,en⟩:=ZkV nb
 generalize sWh fc g ρ M=o at w en
 refine ⟨fun m σ' H'=> ∃ ρ' α' M',Ext X.K H H' α α'/\SR X.K H' α' σ' ρ'/\HR X.K H' α' M'/\whN fc g m ρ' M'=some o,⟨n,ρ,α,M,Ext.refl,s,hh,en⟩,?_⟩
 rintro m σ1 H1 ⟨ρ1,α1,M1,e1,s1,h1,en1⟩
 cases m with
 |zero=>simp only[whN] at en1;cases en1
 |succ m=>
  refine qc σ1 ρ1 H1 α1 M1 _ s1 h1 ?_
  unfold whN at en1
  cases ec:fc ρ1 M1 with
  |bad=>rw[ec] at en1;cases en1;exact w.elim
  |exc x M2=>
   rw[ec] at en1;cases en1
   exact fun C H' α' nn ex hr=>w C H' α' nn (e1.trans ex) hr
  |ok b M2=>
   rw[ec] at en1
   intro v H2 α2 e2 h2 ev
   cases ev
   cases b with
   |false=>
    cases en1
    exact ZlN (w σ1 H2 α2 (e1.trans e2) h2 (s1.mono e2))
   |true=>
    refine ZlO ⟨fun σ' H'=> ∃ ρ' α' M',Ext X.K H H' α α'/\SR X.K H' α' σ' ρ'/\HR X.K H' α' M'/\whN fc g m ρ' M'=some o,fun σ' H' z=>⟨m,Nat.lt_succ_self m,z⟩,?_⟩
    refine qb σ1 ρ1 H2 α2 M2 _ (s1.mono e2) h2 ?_
    have e12:=e1.trans e2
    cases eg:g ρ1 M2 with
    |nx ρ2 M3=>simp only[eg] at en1;exact fun σ' H' α' ex hr sr=>⟨ρ2,α',M3,e12.trans ex,sr,hr,en1⟩
    |cnt ρ2 M3=>simp only[eg] at en1;exact fun σ' H' α' ex hr sr=>⟨ρ2,α',M3,e12.trans ex,sr,hr,en1⟩
    |brk ρ2 M3=>simp only[eg] at en1;cases en1;exact fun σ' H' α' ex hr sr=>w σ' H' α' (e12.trans ex) hr sr
    |ret d M3=>simp only[eg] at en1;cases en1;exact fun v H' α' ex hr sr=>w v H' α' (e12.trans ex) hr sr
    |exc x M3=>simp only[eg] at en1;cases en1;exact fun C H' α' nn ex hr=>w C H' α' nn (e12.trans ex) hr
    |bad=>simp only[eg] at en1;cases en1;exact w.elim
noncomputable def Zb1 (tg:Tg) (g:Sv):List D->Ro->Sto->Fl
 | [],ρ,M=> .nx ρ M
 |d :: r,ρ,M=>match tg d ρ with
  |none=> .bad
  |some ρ1=>(match g ρ1 M with
   | .nx ρ2 M2=>Zb1 tg g r ρ2 M2
   | .cnt ρ2 M2=>Zb1 tg g r ρ2 M2
   | .brk ρ2 M2=> .nx ρ2 M2
   |o=>o)
noncomputable def Zhu (tg:Tg) (g:Sv) (n:Nat):Nat->Nat->Ro->Sto->Fl
 |f,i,ρ,M=>match M[n]? with
  |some (.lst xs)=>(match xs[i]? with
   |none=> .nx ρ M
   |some d=>(match f with
    |0=> .bad
    |f + 1=>(match tg d ρ with
     |none=> .bad
     |some ρ1=>(match g ρ1 M with
      | .nx ρ2 M2=>Zhu tg g n f (i + 1) ρ2 M2
      | .cnt ρ2 M2=>Zhu tg g n f (i + 1) ρ2 M2
      | .brk ρ2 M2=> .nx ρ2 M2
      |o=>o))))
  |none=> .bad
noncomputable def ZbC (lo:Int) (n:Nat):List D:=(List.range n).map fun (i:Nat)=>D.int (lo + i)
noncomputable def ZkW (tg:Tg) (g:Sv) (d:D) (ρ:Ro) (M:Sto):Fl:=match d with
 | .tup xs=>Zb1 tg g xs ρ M
 | .rol xs=>Zb1 tg g xs ρ M
 | .ref n=>(match M[n]? with | some (.lst xs)=>Zhu tg g n xs.length 0 ρ M | none=> .bad)
 |_=> .bad
noncomputable def ZkX (tg:Tg) (f:Ev) (g:Sv):Sv:=fun ρ M=>ZaU (f ρ M) fun d M1=>ZkW tg g d ρ M1
noncomputable def Zb4 (tg:Tg) (fs:Av) (g:Sv):Sv:=fun ρ M=>ZaU (fs ρ M) fun ds M1=>match ds with
 | [.int j]=>if -(2 ^ 62)<=j/\j < 2 ^ 62 then Zb1 tg g (ZbC 0 j.toNat) ρ M1 else .bad
 |_=> .bad
noncomputable def Ze1 (tg:Tg) (fs:Av) (g:Sv):Sv:=fun ρ M=>ZaU (fs ρ M) fun ds M1=>match ds with
 | [.int i,.int j]=>if -(2 ^ 62)<=i/\i < 2 ^ 62/\ -(2 ^ 62)<=j/\j < 2 ^ 62 then Zb1 tg g (ZbC i (j - i).toNat) ρ M1 else .bad
 |_=> .bad
theorem ZgH {lo:Int} {n i:Nat} (h:i < n):(ZbC lo n)[i]?=some (.int (lo + i)):=by
 unfold ZbC
 rw[List.getElem?_map,List.getElem?_range h]
 rfl
theorem Zek {lo:Int} {n:Nat}:(ZbC lo n).length=n:=by unfold ZbC;rw[List.length_map,List.length_range]
theorem Zie {lo:Int} {n i:Nat} (h:i < n):(ZbC lo n).drop i= .int (lo + i) :: (ZbC lo n).drop (i + 1):=by
 have hl:i < (ZbC lo n).length:=by rw[Zek];exact h
 have e:=ZgH (lo:=lo) h
 rw[List.getElem?_eq_getElem hl] at e
 rw[List.drop_eq_getElem_cons hl,Option.some.inj e]
theorem ZjR {tg:Expr} {gt:Tg} {tt:TG} {tb:TS} {Dn:Ends} {H H1:Hp} {α α1:List Addr} {o:Fl} {k:Ro->Sto->Fl} (w:FP X.K H α ξ Dn o)
  (qt: ∀ v d σ ρ H α ρ' Q,SR X.K H α σ ρ->Rep X.K H α v d->gt d ρ=some ρ'->(∀ σ',SR X.K H α σ' ρ'->Q σ' H)->tt v σ H Q) (qb: ∀ σ ρ H α M Dn,SR X.K H α σ ρ->HR X.K H α M->FP X.K H α ξ Dn (g ρ M)->tb Dn σ H)
  {v:V} {d:D} {σ1:L2.St} {ρ1:Ro} {M1:Sto} (e1:Ext X.K H H1 α α1) (s1:SR X.K H1 α1 σ1 ρ1) (h1:HR X.K H1 α1 M1) (r:Rep X.K H1 α1 v d)
  (en:(match gt d ρ1 with | none=>Fl.bad | some ρ2=>(match g ρ2 M1 with | .nx ρ3 M3=>k ρ3 M3 | .cnt ρ3 M3=>k ρ3 M3 | .brk ρ3 M3=> .nx ρ3 M3 | o=>o))=o)
  {N:L2.St->Hp->Prop} (hN: ∀ σ' H',(∃ ρ' α' M',Ext X.K H H' α α'/\SR X.K H' α' σ' ρ'/\HR X.K H' α' M'/\k ρ' M'=o)->N σ' H'):tt v σ1 H1 fun σ2 H2=>tb { Dn with nx:=N,ct:=N,bk:=Dn.nx } σ2 H2:=by
 cases eg:gt d ρ1 with
 |none=>rw[eg] at en;cases en;exact w.elim
 |some ρ2=>
  simp only[eg] at en
  refine qt v d σ1 ρ1 H1 α1 ρ2 _ s1 r eg fun σ2 s2=>qb σ2 ρ2 H1 α1 M1 _ s2 h1 ?_
  cases ex:g ρ2 M1 with
  |nx ρ3 M3=>simp only[ex] at en;exact fun σ' H' α' e2 hr sr=>hN _ _ ⟨ρ3,α',M3,e1.trans e2,sr,hr,en⟩
  |cnt ρ3 M3=>simp only[ex] at en;exact fun σ' H' α' e2 hr sr=>hN _ _ ⟨ρ3,α',M3,e1.trans e2,sr,hr,en⟩
  |brk ρ3 M3=>simp only[ex] at en;cases en;exact fun σ' H' α' e2 hr sr=>w σ' H' α' (e1.trans e2) hr sr
  |ret d M3=>simp only[ex] at en;cases en;exact fun v H' α' e2 hr sr=>w v H' α' (e1.trans e2) hr sr
  |exc x M3=>simp only[ex] at en;cases en;exact fun C H' α' nn e2 hr=>w C H' α' nn (e1.trans e2) hr
  |bad=>simp only[ex] at en;cases en;exact w.elim
theorem ZkY {tg:Expr} {gt:Tg} {tt:TG} {tb:TS} {Dn:Ends} {H:Hp} {α:List Addr} {lo:Int} {n:Nat} {σ:L2.St} {ρ:Ro} {M:Sto}
  (qt: ∀ v d σ ρ H α ρ' Q,SR X.K H α σ ρ->Rep X.K H α v d->gt d ρ=some ρ'->(∀ σ',SR X.K H α σ' ρ'->Q σ' H)->tt v σ H Q) (qb: ∀ σ ρ H α M Dn,SR X.K H α σ ρ->HR X.K H α M->FP X.K H α ξ Dn (g ρ M)->tb Dn σ H)
  (s:SR X.K H α σ ρ) (hh:HR X.K H α M) (w:FP X.K H α ξ Dn (Zb1 gt g (ZbC lo n) ρ M)):
  ∃ W:Nat->Nat->L2.St->Hp->Prop,(∃ m,W 0 m σ H)/\ ∀ i m σ H,W i m σ H->
   ((Itr lo n).stop i H/\Dn.nx σ H)\/((Itr lo n).go i H/\ ∃ N:L2.St->Hp->Prop,(∀ σ' H',N σ' H'-> ∃ m',m' < m/\W (i + 1) m' σ' H')/\ ∀ x H',(Itr lo n).yld i H x H'->tt x σ H' fun σ2 H2=>tb { Dn with nx:=N,ct:=N,bk:=Dn.nx } σ2 H2):=by
 generalize ho:Zb1 gt g (ZbC lo n) ρ M=o at w
 refine ZhH (fun i σ' H'=> ∃ ρ' α' M',Ext X.K H H' α α'/\SR X.K H' α' σ' ρ'/\HR X.K H' α' M'/\Zb1 gt g ((ZbC lo n).drop i) ρ' M'=o) ⟨ρ,α,M,Ext.refl,s,hh,ho⟩ ?_ ?_
 ·rintro i σ1 H1 hi ⟨ρ1,α1,M1,e1,s1,h1,en⟩
  rw[Zie hi] at en
  exact ZjR (tg:=tg) w qt qb e1 s1 h1 (.int (lo + i)) en (fun σ' H' z=>z)
 ·rintro σ1 H1 ⟨ρ1,α1,M1,e1,s1,h1,en⟩
  rw[List.drop_eq_nil_of_le (by rw[Zek];exact Nat.le_refl _)] at en
  cases en
  exact w σ1 H1 α1 e1 h1 s1
theorem ZbT {tg a:Expr} {gt:Tg} {fs:Av} {body:List Stmt} {p p2:Pos} (hp:PassesOwn (model X.prog X.w) X.A X.env X.xe) (hm:X.mg "range"=none) (ha:DA X ξ [a] fs) (hg:DG X tg gt) (hb:DSs X ξ body g)
  (hgl:Gl X "range":=by rfl) (hs:starEach [a] X.env=[(false,eval a X.env)]:=by rfl) (hf: ∀ x,foldedSetIterable (.Call (.Name "range" p) [a] [] p2) X.env x=pure x:=by intro _;rfl):DS X ξ (.For tg (.Call (.Name "range" p) [a] [] p2) body [] pos) (Zb4 gt fs g):=by
 obtain ⟨ta,pa,qa⟩:=ha
 obtain ⟨tt,pt,qt⟩:=hg
 obtain ⟨tb,pb,qb⟩:=hb
 refine ⟨_,Zgw hp (ZeI hgl hm pa hs) pt pb hf,fun σ ρ H α M Dn s hh w=>qa σ ρ H α M _ s hh (FP.seq w fun ds M1 vs H1 α1 e1 h1 r1 w1=> ?_)⟩
 match r1 with
 | .nil=>exact w1.elim
 | .cons r (.cons _ _)=>cases r<;>exact w1.elim
 | .cons r .nil=>
  cases r with
  |int j=>
   by_cases c: -(2 ^ 62)<=j/\j < 2 ^ 62
   ·simp only[if_pos c] at w1
    exact ⟨j,rfl,c.1,c.2,ZkY (tg:=tg) qt qb (s.mono e1) h1 w1⟩
   ·simp only[if_neg c] at w1
    exact w1.elim
  |_=>exact w1.elim
theorem ZjS {tg a b:Expr} {gt:Tg} {fs:Av} {body:List Stmt} {p p2:Pos} (hp:PassesOwn (model X.prog X.w) X.A X.env X.xe) (hm:X.mg "range"=none) (ha:DA X ξ [a,b] fs) (hg:DG X tg gt) (hb:DSs X ξ body g)
  (hgl:Gl X "range":=by rfl) (hs:starEach [a,b] X.env=[(false,eval a X.env),(false,eval b X.env)]:=by rfl) (hs2:starEach [b] X.env=[(false,eval b X.env)]:=by rfl) (hf: ∀ x,foldedSetIterable (.Call (.Name "range" p) [a,b] [] p2) X.env x=pure x:=by intro _;rfl):DS X ξ (.For tg (.Call (.Name "range" p) [a,b] [] p2) body [] pos) (Ze1 gt fs g):=by
 obtain ⟨ta,pa,qa⟩:=ha
 obtain ⟨tt,pt,qt⟩:=hg
 obtain ⟨tb,pb,qb⟩:=hb
 refine ⟨_,Zgw hp (ZeJ hgl hm pa hs hs2) pt pb hf,fun σ ρ H α M Dn s hh w=>qa σ ρ H α M _ s hh (FP.seq w fun ds M1 vs H1 α1 e1 h1 r1 w1=> ?_)⟩
 split at w1
 ·rename_i i j
  cases r1 with
  |cons r t=>
   cases t with
   |cons r' t=>
    cases t
    cases r
    cases r'
    by_cases c: -(2 ^ 62)<=i/\i < 2 ^ 62/\ -(2 ^ 62)<=j/\j < 2 ^ 62
    ·simp only[if_pos c] at w1
     exact ⟨i,j,rfl,c,ZkY (tg:=tg) qt qb (s.mono e1) h1 w1⟩
    ·simp only[if_neg c] at w1
     exact w1.elim
 ·exact w1.elim
noncomputable def ZtP (K:PySem.W.Frag) (tl:TE):TI:=fun σ H R=>tl σ H fun x H1=> ∃ a,x= .ref a/\(((∃ xs,SqL K H1 a xs)/\R (Itl K a) H1)\/((∃ xs,SqT K H1 a xs)/\R (Itt K a) H1))
theorem ZkZ {tg l:Expr} {tl:TE} (hl:PE X l tl):PI X tg l (ZtP X.K tl):=by
 intro pins s σ H R I h
 refine thn (hl pins s σ H _ I h) fun v s1 ⟨x,H1,I1,r1,q1⟩=> ?_
 obtain ⟨a,e,q⟩:=q1
 subst e
 cases r1
 have fp: ∀ b∈[s1.heap.objs.size],ZdK X pins H1 b:=fun b hb=>by
  have e:b=s1.heap.objs.size:=by simpa using hb
  subst e
  exact I1.fpOk (Nat.le_refl _) (I1.hok.fresh (Nat.le_refl _))
 rcases q with ⟨⟨xs,hq⟩,q⟩ | ⟨⟨xs,hq⟩,q⟩
 ·obtain ⟨its,rv,p,hz⟩:=I1.list hq
  refine wpAny_pyIter_list p.isList ?_
  exact ⟨s1.heap.objs.size,[s1.heap.objs.size],_,_,H1,rfl,I1.kept (t':=s1.toks) fun b o e=>Heap.get?_push_of_some _ e,ZhF a _,⟨_,Heap.get?_push_size _ rfl,rfl,rfl⟩,fp,q⟩
 ·obtain ⟨its,rv,p,hz⟩:=I1.tuple hq
  refine wpAny_pyIter_tuple (show s1.heap.IsTuple a its.toArray from p) ?_
  exact ⟨s1.heap.objs.size,[s1.heap.objs.size],_,_,H1,rfl,I1.kept (t':=s1.toks) fun b o e=>Heap.get?_push_of_some _ e,Zg0 a _,⟨_,Heap.get?_push_size _ rfl,rfl,rfl⟩,fp,q⟩
theorem Ze2 {tg l:Expr} {gt:Tg} {f:Ev} {body:List Stmt} (hp:PassesOwn (model X.prog X.w) X.A X.env X.xe) (hl:DE X ξ l f) (hg:DG X tg gt) (hb:DSs X ξ body g)
  (hf: ∀ x,foldedSetIterable l X.env x=pure x:=by intro _;rfl):DS X ξ (.For tg l body [] pos) (ZkX gt f g):=by
 obtain ⟨ta,pa,qa⟩:=hl
 obtain ⟨tt,pt,qt⟩:=hg
 obtain ⟨tb,pb,qb⟩:=hb
 refine ⟨_,Zgw hp (ZkZ pa) pt pb hf,fun σ ρ H α M Dn s hh w=>qa σ ρ H α M _ s hh (FP.seq w fun d M1 v H1 α1 e1 h1 r1 w1=> ?_)⟩
 have s1:=s.mono e1
 have pure_: ∀ (ds:List D) (xs:List V),Reps X.K H1 α1 xs ds->FP X.K H1 α1 ξ Dn (Zb1 gt g ds ρ M1)-> ∀ (i:Nat) σ' H',(∃ ρ' α' M',Ext X.K H1 H' α1 α'/\SR X.K H' α' σ' ρ'/\HR X.K H' α' M'/\Zb1 gt g (ds.drop i) ρ' M'=Zb1 gt g ds ρ M1)->
   (∀ x,xs[i]?=some x->tt x σ' H' fun σ2 H2=>tb { Dn with nx:=fun σ H=> ∃ ρ' α' M',Ext X.K H1 H α1 α'/\SR X.K H α' σ ρ'/\HR X.K H α' M'/\Zb1 gt g (ds.drop (i + 1)) ρ' M'=Zb1 gt g ds ρ M1,ct:=fun σ H=> ∃ ρ' α' M',Ext X.K H1 H α1 α'/\SR X.K H α' σ ρ'/\HR X.K H α' M'/\Zb1 gt g (ds.drop (i + 1)) ρ' M'=Zb1 gt g ds ρ M1,bk:=Dn.nx } σ2 H2)/\
   (i=xs.length->Dn.nx σ' H'):=by
  intro ds xs r w1 i σ' H' ⟨ρ',α',M',ex,sr,hr,en⟩
  refine ⟨fun x hx=> ?_,fun hi=> ?_⟩
  ·have hi:i < ds.length:=by rw[<- r.length];exact (List.getElem?_eq_some_iff.mp hx).1
   obtain ⟨v,g1,g2⟩:=r.get (List.getElem?_eq_getElem hi)
   rw[hx] at g1
   cases g1
   rw[List.drop_eq_getElem_cons hi] at en
   exact ZjR (tg:=tg) w1 qt qb ex sr hr (Rep.mono ex g2) en (fun σ' H' z=>z)
  ·rw[hi,r.length,List.drop_length] at en
   have en':Fl.nx ρ' M'=Zb1 gt g ds ρ M1:=en
   rw[<- en'] at w1
   exact w1 σ' H' α' ex hr sr
 cases r1 with
 | @tup p xs ds hp rp=>
  have w2:FP X.K H1 α1 ξ Dn (Zb1 gt g ds ρ M1):=w1
  refine ⟨p,rfl,.inr ⟨⟨xs,(SqT.of hp)⟩,Zly (K:=X.K) (a:=p) (xs:=xs) (fun i σ' H'=> ∃ ρ' α' M',Ext X.K H1 H' α1 α'/\SR X.K H' α' σ' ρ'/\HR X.K H' α' M'/\Zb1 gt g (ds.drop i) ρ' M'=Zb1 gt g ds ρ M1) ⟨ρ,α1,M1,Ext.refl,s1,h1,rfl⟩ ?_ ?_ ?_⟩⟩
  ·rintro i σ' H' _ ⟨ρ',α',M',ex,_⟩
   exact SqT.of (ex.tup _ _ hp)
  ·intro i x σ' H' hx z
   exact (pure_ ds xs rp w2 i σ' H' z).1 x hx
  ·intro σ' H' z
   exact (pure_ ds xs rp w2 _ σ' H' z).2 rfl
 | @rol p xs ds hp rp=>
  have w2:FP X.K H1 α1 ξ Dn (Zb1 gt g ds ρ M1):=w1
  refine ⟨p,rfl,.inl ⟨⟨xs,hp.sq⟩,Zjx (K:=X.K) (a:=p) (xs:=xs) (fun i σ' H'=> ∃ ρ' α' M',Ext X.K H1 H' α1 α'/\SR X.K H' α' σ' ρ'/\HR X.K H' α' M'/\Zb1 gt g (ds.drop i) ρ' M'=Zb1 gt g ds ρ M1) ⟨ρ,α1,M1,Ext.refl,s1,h1,rfl⟩ ?_ ?_ ?_⟩⟩
  ·rintro i σ' H' _ ⟨ρ',α',M',ex,_⟩
   exact (ex.rol _ _ hp).sq
  ·intro i x σ' H' hx z
   exact (pure_ ds xs rp w2 i σ' H' z).1 x hx
  ·intro σ' H' z
   exact (pure_ ds xs rp w2 _ σ' H' z).2 rfl
 | @ref p n hp=>
  cases em:M1[n]? with
  |none=>simp only[ZkW,em] at w1;exact w1.elim
  |some so=>
   cases so with
   |lst ds=>
    simp only[ZkW,em] at w1
    obtain ⟨xs0,g0,r0⟩:=h1.at hp em
    generalize eo:Zhu gt g n ds.length 0 ρ M1=o at w1
    refine ⟨p,rfl,.inl ⟨⟨xs0,SqL.of g0⟩,fun i m σ' H'=> ∃ ρ' α' M',Ext X.K H1 H' α1 α'/\SR X.K H' α' σ' ρ'/\HR X.K H' α' M'/\Zhu gt g n m i ρ' M'=o,⟨ds.length,ρ,α1,M1,Ext.refl,s1,h1,eo⟩,?_⟩⟩
    rintro i m σ' H' ⟨ρ',α',M',ex,sr,hr,en⟩
    unfold Zhu at en
    cases em2:M'[n]? with
    |none=>simp only[em2] at en;cases en;exact w1.elim
    |some so2=>
     cases so2 with
     |lst ds2=>
      simp only[em2] at en
      obtain ⟨xs,g1,g2⟩:=hr.at (ex.get hp) em2
      cases ei:ds2[i]? with
      |none=>
       simp only[ei] at en
       cases en
       refine .inl ⟨⟨xs,SqL.of g1,?_⟩,w1 σ' H' α' ex hr sr⟩
       rw[g2.length]
       exact List.getElem?_eq_none_iff.mp ei
      |some d=>
       simp only[ei] at en
       obtain ⟨v,k1,k2⟩:=g2.get ei
       cases m with
       |zero=>cases en;exact w1.elim
       |succ m=>
        refine .inr ⟨⟨xs,v,SqL.of g1,k1⟩,fun σ2 H2=> ∃ ρ' α' M',Ext X.K H1 H2 α1 α'/\SR X.K H2 α' σ2 ρ'/\HR X.K H2 α' M'/\Zhu gt g n m (i + 1) ρ' M'=o,fun σ2 H2 z=>⟨m,Nat.lt_succ_self m,z⟩,fun x H2 y=> ?_⟩
        obtain ⟨ey,y⟩:=y
        subst ey
        have ev:=y xs (SqL.of g1)
        rw[k1] at ev
        cases ev
        exact ZjR (tg:=tg) w1 qt qb ex sr hr k2 en (fun σ' H' z=>z)
 |_=>exact w1.elim
end
noncomputable def fnF (g:Sv) (n k:Nat):List D->Sto->Out D:=fun ds M=>if ds.length=n then (match g (ds.map some ++ List.replicate k none) M with
 | .ret d M'=> .ok d M'
 | .nx _ M'=> .ok .non M'
 | .exc c M'=> .exc c M'
 |_=> .bad) else .bad
noncomputable def spD (K:PySem.W.Frag) (F:List D->Sto->Out D):Sp:=fun vs H Q E=> ∃ ds α M,Reps K H α vs ds/\HR K H α M/\OP K H α E Q (F ds M)
theorem Ze3: ∀ {ds:List D} {k i:Nat} {d:D},(ds.map some ++ List.replicate k none)[i]?=some (some d)->ds[i]?=some d
 | [],k,i,d,h=>by
  rw[List.map_nil,List.nil_append] at h
  have:=List.mem_of_getElem? h
  rw[List.mem_replicate] at this
  cases this.2
 |x :: r,k,0,d,h=>by simpa using h
 |x :: r,k,i + 1,d,h=>by
  rw[List.map_cons,List.cons_append,List.getElem?_cons_succ] at h
  rw[List.getElem?_cons_succ]
  exact Ze3 h
theorem SR.start {K:PySem.W.Frag} {H:Hp} {α:List Addr} {N:List Str} {vs:List V} {ds:List D} {k:Nat} (r:Reps K H α vs ds) (hk:k=N.length - ds.length):SR K H α (start N vs) (ds.map some ++ List.replicate k none):=by
 unfold L2.start
 refine ⟨by simp only[List.length_append,List.length_map,List.length_replicate,r.length,hk],fun i d h=> ?_⟩
 obtain ⟨v,h1,h2⟩:=r.get (Ze3 h)
 refine ⟨v,?_,h2⟩
 have hl:i < vs.length:=(List.getElem?_eq_some_iff.mp h1).1
 rw[List.getElem?_append_left (by rw[List.length_map];exact hl),List.getElem?_map,h1]
 rfl
section
variable {P:Program} {w:World} {K:PySem.W.Frag} {mg:Str->Option Value} {base:Heap}
theorem ZP {x qual:Str} {st:Stmt} {f:Addr} {fd:FuncData} {N ps:List Str} {k n m:Nat} {g:Sv} (F:Fun K x qual st f fd) (S:FnScope N ps (Zi st)) (hn:n=ps.length) (hm:m=N.length - n)
  (hb: ∀ (cdv:Value) (A:Around) (outer:List Env) (s:Shared) (H:Hp) (E:XK),Room k (A.deeper (envOfC qual (Zi st) s.heap.objs.size f cdv))->Thr (ZfC (CXE P w) P w K mg base N qual (Zi st) f cdv A outer s H E) E->DSs (ZfC (CXE P w) P w K mg base N qual (Zi st) f cdv A outer s H E) E (Zn st) g):
  FnOk P w K mg base (CXE P w) (k + 1) f fd ps (spD K (fnF g n m)):=by
 obtain ⟨oc,od,kV,doc,pm,an,cdv,ct,osl,rfl,lk,hcd⟩:=F.ex
 refine ZqK lk hcd S (fun vs H Q E h=> ?_) (fun A outer s H vs Q E hr h=> ?_)
 ·obtain ⟨ds,α,M,r,_,q⟩:=h
  by_cases c:ds.length=n
  ·rw[r.length,c,hn]
  ·simp only[fnF,if_neg c] at q
   exact q.elim
 ·obtain ⟨ds,α,M,r,hh,q⟩:=h
  obtain ⟨t,p,w'⟩:=hb cdv A outer s H E hr Zoh
  by_cases c:ds.length=n
  ·simp only[fnF,if_pos c] at q
   refine ⟨t,p,w' _ _ H α M _ (SR.start (N:=N) r (k:=m) (by rw[hm,c])) hh ?_⟩
   cases e:g (ds.map some ++ List.replicate m none) M with
   |nx ρ' M'=>simp only[e] at q;exact fun σ' H' α' ex hr sr=>q _ H' α' ex hr .non
   |ret d M'=>simp only[e] at q;exact q
   |exc x M'=>simp only[e] at q;exact q
   |brk ρ' M'=>simp only[e] at q;exact q.elim
   |cnt ρ' M'=>simp only[e] at q;exact q.elim
   |bad=>simp only[e] at q;exact q.elim
  ·simp only[fnF,if_neg c] at q
   exact q.elim
end
section
variable {X:Cx} {ξ:XK} {k:Nat} {f:Addr} {fd:FuncData} {ps:List Str} {F:List D->Sto->Out D} {x:Str} {p pos:Pos} {e:Expr} {es:List Expr} {fs:Av}
theorem Zl1 (G:FnOk X.prog X.w X.K X.mg X.base (CXE X.prog X.w) k f fd ps (spD X.K F)) (T:Thr X ξ) (hr:Room k X.A) (hm:X.mg x=some (.ref f)) (hk:PySem.W.keepIn X.K (.ref f)=true) (hb:ZfJ X.K fd ps []) (ha:DA X ξ (e :: es) fs) (hg:Gl X x:=by rfl)
  (hdb:(x == ("__debug__":Str))=false:=by decide) (he:starEach (e :: es) X.env=(false,eval e X.env) :: starEach es X.env:=by rfl) (hpl:(backTo pos (starEach es X.env)).any (·.1)=false:=by rfl):DE X ξ (.Call (.Name x p) (e :: es) [] pos) (Zk F fs):=by
 obtain ⟨t,pa,qa⟩:=ha
 refine ⟨_,ZlC G hr hg hm hk hb .nil T.ps pa hdb he hpl,fun σ ρ H α M Q s hh q=>qa σ ρ H α M _ s hh (OG.seq q fun ds M1 vs H1 α1 e1 h1 r1 q1=> ?_)⟩
 rw[List.append_nil]
 exact ⟨ds,α1,M1,r1,h1,q1⟩
end
end DL
end
section
namespace DL
open PySem PySem.Spec PyProof.Rows L2
theorem Ze4:bootBuiltins "abs"=some (.builtin "abs"):=by decide +kernel
theorem ZdW:bootBuiltins "int"=some (.type "int"):=by decide +kernel
theorem Zl2:bootBuiltins "bool"=some (.type "bool"):=by decide +kernel
theorem ZcD:bootBuiltins "list"=some (.type "list"):=by decide +kernel
theorem ZdX:bootBuiltins "max"=some (.builtin "max"):=by decide +kernel
theorem ZgI:bootBuiltins "min"=some (.builtin "min"):=by decide +kernel
noncomputable def Cal (P:Program) (w:World) (K:PySem.W.Frag) (mg:Str->Option Value) (base:Heap) (x:Str) (k n:Nat) (F:List D->Sto->Out D):Prop:=
 ∃ (f:Addr) (fd:FuncData) (ps:List Str),FnOk P w K mg base (CXE P w) k f fd ps (spD K F)/\mg x=some (.ref f)/\PySem.W.keepIn K (.ref f)=true/\ps.length=n/\ZfJ K fd ps []
theorem Zg {X:Cx} {ξ:XK} {k n:Nat} {F:List D->Sto->Out D} {x:Str} {p pos:Pos} {e:Expr} {es:List Expr} {fs:Av} (C:Cal X.prog X.w X.K X.mg X.base x k n F) (T:Thr X ξ) (hr:Room k X.A) (ha:DA X ξ (e :: es) fs) (hg:Gl X x:=by rfl)
  (hdb:(x == ("__debug__":Str))=false:=by decide) (he:starEach (e :: es) X.env=(false,eval e X.env) :: starEach es X.env:=by rfl) (hpl:(backTo pos (starEach es X.env)).any (·.1)=false:=by rfl):DE X ξ (.Call (.Name x p) (e :: es) [] pos) (Zk F fs):=by
 obtain ⟨f,fd,ps,G,hm,hk,_,hb⟩:=C
 exact Zl1 G T hr hm hk hb ha hg hdb he hpl
theorem Zok {K:PySem.W.Frag} {H:Hp} {a:Addr} {ns:List Int} {n:Nat} {F:List D->Sto->Out D} (hl:ns.length<=n) (hO:Zqm H) (hS:SqL K H a (ns.map V.int)) (h: ∃ M',F [.rol (ns.map D.int)] []= .ok (.bl true) M'):
  spD K F [.ref a] H (fun v _=>v= .bl true) (fun _ _ _=>False):=by
 obtain ⟨M',e⟩:=h
 have hF:SqF K H a (ns.map V.int):=by
  rcases hS with (h | ⟨o,h⟩) | h
  ·rcases hO a with z | ⟨o,xs,z⟩
   ·rw[h] at z;cases z
   ·rw[h] at z;cases z
  ·exact .inl ⟨o,h⟩
  ·exact .inr h
 refine ⟨[.rol (ns.map D.int)],[],[],.cons (.rol hF (Reps.ints ns)) .nil,HR.nil,?_⟩
 rw[e]
 intro v H' α' _ _ r
 cases r
 rfl
end DL
end
section
namespace DL
open PySem PySem.Spec PyProof.Rows L2
inductive Src where
 |pur (ds:List D)
 |sto (n:Nat)
 |zip (n m:Nat)
 |enu (n:Nat)
 |rev (n l:Nat)
 |zips (ns:List Nat)
 |dct (n:Nat)
noncomputable def Zif (M:Sto) (i:Nat):List Nat->Option (Option (List D))
 | []=>some (some [])
 |n :: ns=>match M[n]? with
  |none=>none
  |some (.lst xs)=>match Zif M i ns with
   |none=>none
   |some r=>match xs[i]?,r with | some x,some ds=>some (some (x :: ds)) | _,_=>some none
noncomputable def nxt (src:Src) (i:Nat) (M:Sto):Option (Option D):=match src with
 | .pur ds=>some ds[i]?
 | .sto n=>match M[n]? with | some (.lst xs)=>some xs[i]? | none=>none
 | .zip n m=>match M[n]?,M[m]? with
  |some (.lst xs),some (.lst ys)=>(match xs[i]?,ys[i]? with | some x,some y=>some (some (.tup [x,y])) | _,_=>some none)
  |_,_=>none
 | .enu n=>match M[n]? with | some (.lst xs)=>(match xs[i]? with | some x=>some (some (.tup [.int i,x])) | none=>some none) | none=>none
 | .dct n=>match M[n]? with | some (.lst (.non :: r))=>(match r[i]? with | some (.tup (k :: _))=>some (some k) | some _=>none | none=>some none) | _=>none
 | .zips ns=>match Zif M i ns with | some (some ds)=>some (some (.tup ds)) | some none=>some none | none=>none
 | .rev n l=>match M[n]? with | some (.lst xs)=>if i < l then (match xs[l - 1 - i]? with | some x=>some (some x) | none=>none) else (if i=l then some none else none) | none=>none
noncomputable def cnt (src:Src) (M:Sto):Nat:=match src with
 | .pur ds=>ds.length
 | .sto n=>match M[n]? with | some (.lst xs)=>xs.length | none=>0
 | .zip n _=>match M[n]? with | some (.lst xs)=>xs.length | none=>0
 | .enu n=>match M[n]? with | some (.lst xs)=>xs.length | none=>0
 | .rev _ l=>l
 | .dct n=>match M[n]? with | some (.lst xs)=>xs.length | none=>0
 | .zips ns=>match ns with | n :: _=>(match M[n]? with | some (.lst xs)=>xs.length | none=>0) | []=>0
noncomputable def Ats (H:Hp) (α:List Addr):List Nat->List Addr->Prop
 | [],[]=>True
 |n :: ns,l :: ls=>RefK H α 0 n l/\Ats H α ns ls
 |_,_=>False
noncomputable def Zl3 (K:PySem.W.Frag) (H:Hp) (α:List Addr) (J:It) (src:Src):Prop:= ∀ (i:Nat) H' α' M',Ext K H H' α α'->HR K H' α' M'->match nxt src i M' with
 |some none=>J.stop i H'
 |some (some d)=>J.go i H'/\ ∀ x H'',J.yld i H' x H''->Ext K H' H'' α' α'/\HR K H'' α' M'/\Rep K H'' α' x d
 |none=>True
noncomputable def DI (X:Cx) (ξ:XK) (tg iter:Expr) (f:Ro->Sto->Out Src):Prop:= ∃ wi:TI,PI X tg iter wi/\ ∀ σ ρ H α M R,SR X.K H α σ ρ->HR X.K H α M->OG X.K (Zl3 X.K) H α ξ R (f ρ M)->wi σ H R
section
variable {X:Cx} {ξ:XK} {tg iter a b:Expr} {fs:Av} {f:Ev} {p pos:Pos}
noncomputable def iR1 (fs:Av):Ro->Sto->Out Src:=fun ρ M=>(fs ρ M).bind fun ds M1=>match ds with
 | [.int j]=>if -(2 ^ 62)<=j/\j < 2 ^ 62 then .ok (.pur (ZbC 0 j.toNat)) M1 else .bad
 |_=> .bad
theorem ZdY {K:PySem.W.Frag} {H:Hp} {α:List Addr} {lo:Int} {n:Nat}:Zl3 K H α (Itr lo n) (.pur (ZbC lo n)):=by
 intro i H' α' M' ex hr
 show match some (ZbC lo n)[i]? with | some none=>_ | some (some d)=>_ | none=>True
 by_cases h:i < n
 ·rw[ZgH h]
  refine ⟨h,fun x H'' y=> ?_⟩
  obtain ⟨e1,e2⟩:=y
  subst e1 e2
  exact ⟨Ext.refl,hr,.int _⟩
 ·rw[List.getElem?_eq_none (by rw[Zek];omega)]
  exact Nat.le_of_not_lt h
theorem Zig (hm:X.mg "range"=none) (ha:DA X ξ [a] fs) (hgl:Gl X "range":=by rfl) (hs:starEach [a] X.env=[(false,eval a X.env)]:=by rfl):DI X ξ tg (.Call (.Name "range" p) [a] [] pos) (iR1 fs):=by
 obtain ⟨ta,pa,qa⟩:=ha
 refine ⟨_,ZeI hgl hm pa hs,fun σ ρ H α M R s hh q=>qa σ ρ H α M _ s hh (OG.seq q fun ds M1 vs H1 α1 e1 h1 r1 w1=> ?_)⟩
 match r1 with
 | .nil=>exact w1.elim
 | .cons r (.cons _ _)=>cases r<;>exact w1.elim
 | .cons r .nil=>
  cases r with
  |int j=>
   by_cases c: -(2 ^ 62)<=j/\j < 2 ^ 62
   ·simp only[if_pos c] at w1
    exact ⟨j,rfl,c.1,c.2,w1 _ H1 α1 Ext.refl h1 ZdY⟩
   ·simp only[if_neg c] at w1
    exact w1.elim
  |_=>exact w1.elim
noncomputable def iSq (f:Ev):Ro->Sto->Out Src:=fun ρ M=>(f ρ M).bind fun d M1=>match d with
 | .tup ds=> .ok (.pur ds) M1
 | .rol ds=> .ok (.pur ds) M1
 | .con ds=> .ok (.pur ds) M1
 | .ref n=> .ok (.sto n) M1
 |_=> .bad
theorem Zbp (ha:DE X ξ a f):DI X ξ tg a (iSq f):=by
 obtain ⟨ta,pa,qa⟩:=ha
 refine ⟨_,ZkZ pa,fun σ ρ H α M R s hh q=>qa σ ρ H α M _ s hh (OG.seq q fun d M1 v H1 α1 e1 h1 r1 w1=> ?_)⟩
 cases r1 with
 | @tup p xs ds hp rp=>
  refine ⟨p,rfl,.inr ⟨⟨xs,(SqT.of hp)⟩,w1 (Itt X.K p) H1 α1 Ext.refl h1 ?_⟩⟩
  intro i H' α' M' ex hr
  show match some ds[i]? with | some none=>_ | some (some d)=>_ | none=>True
  cases ei:ds[i]? with
  |none=>exact ⟨xs,SqT.of (ex.tup _ _ hp),by rw[rp.length];exact List.getElem?_eq_none_iff.mp ei⟩
  |some d=>
   obtain ⟨v,k1,k2⟩:=rp.get ei
   refine ⟨⟨xs,v,SqT.of (ex.tup _ _ hp),k1⟩,fun x H'' y=> ?_⟩
   obtain ⟨ey,y⟩:=y
   have z:=y xs (SqT.of (ex.tup _ _ hp))
   rw[k1] at z
   cases z
   subst ey
   exact ⟨Ext.refl,hr,Rep.mono ex k2⟩
 | @con p xs ds hp rp=>
  refine ⟨p,rfl,.inr ⟨⟨xs,hp.sq⟩,w1 (Itt X.K p) H1 α1 Ext.refl h1 ?_⟩⟩
  intro i H' α' M' ex hr
  show match some ds[i]? with | some none=>_ | some (some d)=>_ | none=>True
  cases ei:ds[i]? with
  |none=>exact ⟨xs,hp.sq,by rw[rp.length];exact List.getElem?_eq_none_iff.mp ei⟩
  |some d=>
   obtain ⟨v,k1,k2⟩:=rp.get ei
   refine ⟨⟨xs,v,hp.sq,k1⟩,fun x H'' y=> ?_⟩
   obtain ⟨ey,y⟩:=y
   have z:=y xs hp.sq
   rw[k1] at z
   cases z
   subst ey
   exact ⟨Ext.refl,hr,Rep.mono ex k2⟩
 | @rol p xs ds hp rp=>
  refine ⟨p,rfl,.inl ⟨⟨xs,hp.sq⟩,w1 (Itl X.K p) H1 α1 Ext.refl h1 ?_⟩⟩
  intro i H' α' M' ex hr
  show match some ds[i]? with | some none=>_ | some (some d)=>_ | none=>True
  have hq:=(ex.rol _ _ hp).sq
  cases ei:ds[i]? with
  |none=>exact ⟨xs,hq,by rw[rp.length];exact List.getElem?_eq_none_iff.mp ei⟩
  |some d=>
   obtain ⟨v,k1,k2⟩:=rp.get ei
   refine ⟨⟨xs,v,hq,k1⟩,fun x H'' y=> ?_⟩
   obtain ⟨ey,y⟩:=y
   have z:=y xs hq
   rw[k1] at z
   cases z
   subst ey
   exact ⟨Ext.refl,hr,Rep.mono ex k2⟩
 | @ref p n hp=>
  obtain ⟨xs0,g0⟩:=h1.some_at hp
  refine ⟨p,rfl,.inl ⟨⟨xs0,SqL.of g0⟩,w1 (Itl X.K p) H1 α1 Ext.refl h1 ?_⟩⟩
  intro i H' α' M' ex hr
  show match (match M'[n]? with | some (.lst xs)=>some xs[i]? | none=>none) with | some none=>_ | some (some d)=>_ | none=>True
  cases em:M'[n]? with
  |none=>exact True.intro
  |some so=>
   cases so with
   |lst ds=>
    obtain ⟨xs,g1,g2⟩:=hr.at (ex.get hp) em
    show match some ds[i]? with | some none=>_ | some (some d)=>_ | none=>True
    cases ei:ds[i]? with
    |none=>exact ⟨xs,SqL.of g1,by rw[g2.length];exact List.getElem?_eq_none_iff.mp ei⟩
    |some d=>
     obtain ⟨v,k1,k2⟩:=g2.get ei
     refine ⟨⟨xs,v,SqL.of g1,k1⟩,fun x H'' y=> ?_⟩
     obtain ⟨ey,y⟩:=y
     have z:=y xs (SqL.of g1)
     rw[k1] at z
     cases z
     subst ey
     exact ⟨Ext.refl,hr,k2⟩
 |_=>exact w1.elim
end
noncomputable def blk (X:Cx) (scope:Scope) (cl:List (Str × Addr)) (N:List Str) (C:Addr) (fp:List Addr) (s:Shared) (H:Hp):Cx:=
 { X with N:=N,s₀:=s,H₀:=H,env:=compEnvC scope cl C X.env,outer:=X.stack,stack:=X.stack,ex:=fp,fn:=fun _=>false,pn:=[],xe:=fun _ _=>False,fxs:=none }
theorem Za8 {X:Cx} {scope:Scope} {cl:List (Str × Addr)} {N:List Str} {C:Addr} {fp:List Addr} {s:Shared} {H:Hp}:Thr (blk X scope cl N C fp s H) E0:=
 ⟨PassesOwn.never,fun _ _ _ _ _ _ _ ⟨_,_,_,_,_,_,_,_,_,_,_,_,_,q⟩=>q,fun _ _ _ _ _ _ _ _ _ _ _ _ _ _ _ _ _ _ q=>q⟩
noncomputable def Zc4 (src:Src) (tg:Tg) (c:Tv) (f:Ev) (n:Nat):Nat->Nat->Ro->Sto->Out Unit
 |fuel,i,ρ,M=>match nxt src i M with
  |none=> .bad
  |some none=> .ok () M
  |some (some d)=>(match fuel with
   |0=> .bad
   |fuel + 1=>(match tg d ρ with
    |none=> .bad
    |some ρ1=>(match c ρ1 M with
     | .ok true M1=>(match f ρ1 M1 with
      | .ok x M2=>(match M2[n]? with
       |some (.lst xs)=>if xs.length < 10000000 then Zc4 src tg c f n fuel (i + 1) ρ1 (M2.set n (.lst (xs ++ [x]))) else .bad
       |none=> .bad)
      |_=> .bad)
     | .ok false M1=>Zc4 src tg c f n fuel (i + 1) ρ1 M1
     |_=> .bad)))
noncomputable def roB (k:Nat) (fr:List Nat) (ρ:Ro):Ro:=List.replicate k none ++ fr.map fun i=>(ρ[i]?).join
noncomputable def Zay (fi:Ro->Sto->Out Src) (k:Nat) (fr:List Nat) (tg:Tg) (c:Tv) (f:Ev):Ev:=fun ρ M=>(fi ρ M).bind fun src M1=>match Zc4 src tg c f M1.length (cnt src M1) 0 (roB k fr ρ) (M1 ++ [.lst []]) with
 | .ok _ M2=> .ok (.ref M1.length) M2
 |_=> .bad
structure Blk (X:Cx) (scope:Scope) (cl:List (Str × Addr)) (N:List Str) (k:Nat) (fr:List Nat):Prop where
 clos:closureFor scope X.env=pure cl
 kind:scope.kind= .function
 cell: ∀ y∈scope.names,y.2≠ .cell
 names: ∀ y∈scope.names,y.2= .local->scope.names.lookup y.1=some .local
 sub: ∀ x c,cl.lookup x=some c->X.env.cells.lookup x=some c
 has: ∀ x,((relabel scope X.env).names.lookup x=some .cell\/(relabel scope X.env).names.lookup x=some .free)-> ∃ c,cl.lookup x=some c
 len:N.length=k + fr.length
 at_: ∀ (j i:Nat),fr[j]?=some i-> ∃ x,N[k + j]?=some x/\X.N[i]?=some x/\X.env.kindOf x=some .cell/\((relabel scope X.env).names.lookup x=some .cell\/(relabel scope X.env).names.lookup x=some .free)/\cl.lookup x=X.env.cells.lookup x
theorem Ze5 {prog:Program} {w:World} {A:Around} {R:Result->Shared->Prop} {s:Shared} {elt target iter:Expr} {ifs:List Expr} {scope:Scope} {pos:Pos} {it acc:Value} {env:Env} (I:Nat->Shared->Prop)
  (turn: ∀ n s,I n s->wpAny (model prog w) A (pyNext it) (fun r s₁=>match r with
   |none=>R (.ok .next) s₁
   |some v=>wpAny (model prog w) A (letOwnedTupleGo target it v) (fun _ s₁=>wpAny (model prog w) A (assign target env v) (fun _ s₂=>
     wpAny (model prog w) A (forIn ifs true fun c r=>if r=true then do let ok <- isTrue c env (eval c env);pure (ForInStep.yield ok) else pure (ForInStep.yield r)) (fun ok s₃=>
      if ok=true then wpAny (model prog w) A (eval elt env) (fun x s₄=>
       wpAny (model prog w) A (call (.builtin "list.append") [acc,x]) (fun _ s₅=> ∃ m,m < n/\I m s₅) (fun _ _=>False) s₄) (fun _ _=>False) s₃
      else ∃ m,m < n/\I m s₃) (fun _ _=>False) s₂) (fun _ _=>False) s₁) (fun _ _=>False) s₁) (fun _ _=>False) s)
  (n:Nat) (h:I n s):
  codeAny (model prog w) A (.compLoop (.ListComp elt [⟨target,iter,ifs,0⟩] scope pos) 0 it acc env) R s:=by
 refine codeAny_loop rfl I (fun n s hI=> ?_) n h
 show wpAny _ A ((compTurn (.ListComp elt [⟨target,iter,ifs,0⟩] scope pos) 0 it acc env).onRaise (fun x=>do noteFrame x env;theTreesLotGoes x)) _ _ s
 refine wpAny_noted ?_
 rw[compTurn_list]
 refine wpAny_bind (wpAny_standAt (wpAny_bind (wpAny_mono (turn n s hI) (fun r s₁ h₁=> ?_) fun _ _ h'=>h'.elim)))
 cases r with
 |none=>exact wpAny_pure h₁
 |some v=>
  refine wpAny_bind (wpAny_mono h₁ (fun _ s₁ h₁=> ?_) fun _ _ h'=>h'.elim)
  refine wpAny_bind (wpAny_mono h₁ (fun _ s₂ h₂=>wpAny_bind (wpAny_mono h₂ (fun ok s₃ h₃=> ?_) fun _ _ h'=>h'.elim)) fun _ _ h'=>h'.elim)
  cases ok with
  |false=>exact wpAny_pure ⟨rfl,h₃⟩
  |true=>
   exact wpAny_bind (wpAny_bind (wpAny_mono h₃ (fun x s₄ h₄=>wpAny_bind (wpAny_mono h₄ (fun _ s₅ h₅=>wpAny_pure (wpAny_pure ⟨rfl,h₅⟩)) fun _ _ h'=>h'.elim)) fun _ _ h'=>h'.elim))
noncomputable def DC (X:Cx) (ifs:List Expr) (c:Tv):Prop:=(ifs=[]/\c=fun _ M=> .ok true M)\/ ∃ e,ifs=[e]/\DT X E0 e c
section
variable {X:Cx} {ξ:XK} {tg iter elt:Expr} {ifs:List Expr} {scope:Scope} {cl:List (Str × Addr)} {N:List Str} {k:Nat} {fr:List Nat} {fi:Ro->Sto->Out Src} {gt:Tg} {c:Tv} {f:Ev} {pos:Pos}
theorem Zih (B:Blk X scope cl N k fr) {pins:List (Addr × Obj)} {σ:L2.St} {H:Hp} {s:Shared} {fp:List Addr} (I:Inv X pins σ H s) (hf: ∀ b∈fp,ZdK X pins H b) (hlt: ∀ b∈fp,b < s.heap.objs.size):(blk X scope cl N s.heap.objs.size fp s H).Ok where
 mod:=I.ok.mod
 kind:=B.kind
 glob:=I.ok.glob
 blt:=I.ok.blt
 above:=Nat.le_refl _
 inj:=fun x y c h1 h2=>I.ok.inj x y c (B.sub x c h1) (B.sub y c h2)
 has:=fun x h=>B.has x h
 cab:=fun x c h=>(by cases h)
 hd:=I.ok.hd
 frames:=I.ok.frames
 stk:= .inl rfl
 exf:=fun b hb=>⟨Nat.ne_of_lt (hlt b hb),fun x c h=>(hf b hb).2.2.2.2.1 x c (B.sub x c h)⟩
 bs:=I.bs
 bsz:=Nat.le_trans I.ok.bsz I.sz
 noex:=fun b o e hb=>by
  rcases (hf b hb).2.2.2.1 with z | z
  ·exact I.ok.noex b o e z
  ·exact absurd (Nat.lt_of_lt_of_le (Heap.lt_size (I.ok.bs b o e).1) z) (Nat.lt_irrefl _)
 exfs:=fun b hb z=>by
  rcases List.mem_cons.mp (I.stkSub b z) with e | e
  ·exact (hf b hb).2.1 e
  ·exact (hf b hb).2.2.1 e
 funs:=I.stack
 frf:=I.stkFree
theorem join_some {α:Type} {o:Option (Option α)} {v:α} (h:o.join=some v):o=some (some v):=by
 cases o with
 |none=>cases h
 |some x=>cases x with
  |none=>cases h
  |some y=>cases h;rfl
theorem Zl4 {ρ:Ro} {i:Nat} {d:D} (h:(roB k fr ρ)[i]?=some (some d)): ∃ j r,i=k + j/\fr[j]?=some r/\ρ[r]?=some (some d):=by
 unfold roB at h
 by_cases hi:i < k
 ·rw[List.getElem?_append_left (by rw[List.length_replicate];exact hi)] at h
  have:=List.mem_of_getElem? h
  rw[List.mem_replicate] at this
  cases this.2
 ·rw[List.getElem?_append_right (by rw[List.length_replicate];omega),List.length_replicate,List.getElem?_map] at h
  cases e:fr[i - k]? with
  |none=>rw[e] at h;cases h
  |some r=>
   rw[e] at h
   exact ⟨i - k,r,by omega,e,join_some (Option.some.inj h)⟩
noncomputable def stB (k:Nat) (fr:List Nat) (σ:L2.St):L2.St:=List.replicate k none ++ fr.map fun i=>(σ[i]?).join
theorem Zii {σ:L2.St} {i:Nat} {d:V} (h:(stB k fr σ)[i]?=some (some d)): ∃ j r,i=k + j/\fr[j]?=some r/\σ[r]?=some (some d):=by
 unfold stB at h
 by_cases hi:i < k
 ·rw[List.getElem?_append_left (by rw[List.length_replicate];exact hi)] at h
  have:=List.mem_of_getElem? h
  rw[List.mem_replicate] at this
  cases this.2
 ·rw[List.getElem?_append_right (by rw[List.length_replicate];omega),List.length_replicate,List.getElem?_map] at h
  cases e:fr[i - k]? with
  |none=>rw[e] at h;cases h
  |some r=>
   rw[e] at h
   exact ⟨i - k,r,by omega,e,join_some (Option.some.inj h)⟩
theorem SR.blk {K:PySem.W.Frag} {H:Hp} {α:List Addr} {σ:L2.St} {ρ:Ro} (h:SR K H α σ ρ):SR K H α (stB k fr σ) (roB k fr ρ):=by
 refine ⟨by simp[stB,roB],fun i d e=> ?_⟩
 obtain ⟨j,r,rfl,e1,e2⟩:=Zl4 e
 obtain ⟨v,e3,e4⟩:=h.2 r d e2
 refine ⟨v,?_,e4⟩
 unfold stB
 rw[List.getElem?_append_right (by rw[List.length_replicate];omega),List.length_replicate,List.getElem?_map,Nat.add_sub_cancel_left,e1]
 show some (σ[r]?).join=_
 rw[e3]
 rfl
theorem Zij (B:Blk X scope cl N k fr) {pins:List (Addr × Obj)} {σ:L2.St} {H:Hp} {s:Shared} {fp:List Addr} {h1:Heap} {tk:Nat} {m:Str->Option Value} (I:Inv X pins σ H s) (hf: ∀ b∈fp,ZdK X pins H b) (hlt: ∀ b∈fp,b < s.heap.objs.size)
  (hn:h1.Ns s.heap.objs.size m) (hk: ∀ b o,s.heap.get? b=some o->h1.get? b=some o):Inv (blk X scope cl N s.heap.objs.size fp s H) [] (stB k fr σ) H { s with heap:=h1,toks:=tk } where
 ok:=Zih B I hf hlt
 os:=rfl
 bare:=I.bare
 base:=Un.kept hk
 loc:=by
  refine ⟨m,hn,fun i x v e1 e2 e3=> ?_⟩
  obtain ⟨j,r,rfl,g1,g2⟩:=Zii e2
  obtain ⟨y,k1,k2,k3,k4,k5⟩:=B.at_ j r g1
  have exy:x=y:=Option.some.inj (e1.symm.trans k1)
  subst exy
  obtain ⟨m0,hm0,hl⟩:=I.loc
  obtain ⟨u,ru,lk⟩:=hl r x v k2 g2 (.inr (.inl k3))
  refine ⟨u,ru,?_⟩
  rcases lk with ⟨z,_⟩ | ⟨_,c,z1,⟨o,z2,z3⟩⟩
  ·rw[k3] at z;cases z
  ·exact .inr ⟨k4,c,k5.trans z1,⟨o,hk _ _ z2,z3⟩⟩
 cell:=fun x c h=>by
  obtain ⟨v,o,e1,e2⟩:=I.cell x c (B.sub x c h)
  exact ⟨v,o,hk _ _ e1,e2⟩
 free:=I.fresh
 freeC:=fun x c h=>I.freeC x c (B.sub x c h)
 pin:=fun p hp=>(by simp[blk] at hp)
 hok:=I.hok.kept hk
 len:=by
  show (stB k fr σ).length=N.length
  rw[B.len]
  simp[stB]
 qd:=I.qd
 fx:= .free rfl
theorem ZgJ {pins:List (Addr × Obj)} {σ σ5:L2.St} {H3 H5:Hp} {s3 s6:Shared} {fp:List Addr} (B:Blk X scope cl N k fr) (I3:Inv X pins σ H3 s3) (f3: ∀ b∈fp,ZdK X pins H3 b) (I6:Inv (blk X scope cl N s3.heap.objs.size fp s3 H3) [] σ5 H5 s6):Inv X pins σ H5 s6/\ ∀ (σ':L2.St) (s8:Shared) (h':Heap),Inv X pins σ' H5 s8->(∀ b o,b≠s3.heap.objs.size->s8.heap.get? b=some o->h'.get? b=some o)->Inv X pins σ' H5 { s8 with heap:=h',toks:=s8.toks }:=by
 refine ⟨I3.call' (s':=s6) (ch:=fp) I6.os I6.base I6.hok I6.bare fun b hb=> ?_,fun σ' s8 h' I8 sb=> ?_⟩
 ·obtain ⟨_,z1,z2,z3,z4,z5⟩:=f3 b hb
  exact ⟨z3,z1,z4,z5⟩
 ·exact I8.turned (it:=s3.heap.objs.size) sb I6.free (Nat.ne_of_gt I3.lt) (.inr I3.sz)
   (fun x c h z=>by
    obtain ⟨v,o,e,_⟩:=I3.cell x c h
    exact absurd (Heap.lt_size e) (by rw[z];exact Nat.lt_irrefl _)) (fun p hp z=>by
    have:=(I3.pin p hp).1
    exact absurd (Heap.lt_size this) (by rw[z];exact Nat.lt_irrefl _))
noncomputable def CmI (Y:Cx) (fp:List Addr) (tn:Nat->Heap->Prop) (H3:Hp) (α3:List Addr) (g:Nat->Nat->Ro->Sto->Prop) (n:Nat) (s':Shared):Prop:=
 ∃ i σ' ρ' H' α' M',Inv Y [] σ' H' s'/\tn i s'.heap/\(∀ b∈fp,H' b=none)/\SR Y.K H' α' σ' ρ'/\HR Y.K H' α' M'/\Ext Y.K H3 H' α3 α'/\g n i ρ' M'
theorem Zel {Y:Cx} {fp α3:List Addr} {it D:Addr} {tn:Nat->Heap->Prop} {J:It} {tg iter elt:Expr} {ifs:List Expr} {scope:Scope} {pos:Pos} {gt:Tg} {c:Tv} {f:Ev} {src:Src} {H3:Hp} {σ0:L2.St} {ρ0:Ro} {M3 M9:Sto} {u9:Unit} {n0 fuel:Nat} {s4:Shared} {R:Result->Shared->Prop}
  (T:Turn Y.prog Y.w Y.K Y.A tg J fp it tn) (hxe: ∀ x y,Y.xe x y->False) (fp5: ∀ {H':Hp},(∀ b∈fp,H' b=none)-> ∀ b∈fp,ZdK Y [] H' b) (hg:DG Y tg gt) (tst:DC Y ifs c) (he:DE Y E0 elt f)
  (sc:Zl3 Y.K H3 α3 J src) (aD:RefK H3 α3 0 n0 D) (I4:Inv Y [] σ0 H3 s4) (st4:tn 0 s4.heap) (fr4: ∀ b∈fp,H3 b=none) (sr:SR Y.K H3 α3 σ0 ρ0) (h3:HR Y.K H3 α3 M3) (er:Zc4 src gt c f n0 fuel 0 ρ0 M3= .ok u9 M9)
  (post: ∀ σ5 H5 α5 s6,Inv Y [] σ5 H5 s6->Ext Y.K H3 H5 α3 α5->HR Y.K H5 α5 M9->R (.ok .next) s6):
  codeAny (model Y.prog Y.w) Y.A (.compLoop (.ListComp elt [⟨tg,iter,ifs,0⟩] scope pos) 0 (.ref it) (.ref D) Y.env) R s4:=by
 obtain ⟨tt,pt,qt⟩:=hg
 obtain ⟨te,pe,qe⟩:=he
 refine Ze5 (CmI Y fp tn H3 α3 fun n i ρ' M'=>Zc4 src gt c f n0 n i ρ' M'= .ok u9 M9) ?_ fuel ⟨0,σ0,ρ0,H3,α3,M3,I4,st4,fr4,sr,h3,Ext.refl,er⟩
 rintro n s5 ⟨i,σ5,ρ5,H5,α5,M5,I5,st5,fr5,sr5,hr5,ex5,en⟩
 have src5:=sc i H5 α5 M5 ex5 hr5
 rw[Zc4] at en
 cases ex:nxt src i M5 with
 |none=>rw[ex] at en;cases en
 |some od=>
  rw[ex] at src5 en
  cases od with
  |none=>
   cases en
   have fin:=T.done Y rfl rfl rfl rfl i [] s5 σ5 H5 (fun _ _=>False) I5 (fp5 fr5) st5 src5
   refine thn fin fun r s6 w6=> ?_
   obtain ⟨hr6,I6⟩:=w6
   subst hr6
   exact post σ5 H5 α5 s6 I6 ex5 hr5
  |some d=>
   obtain ⟨go,yl⟩:=src5
   cases n with
   |zero=>cases en
   |succ n=>
    simp only at en
    have itm:=T.item Y rfl rfl rfl rfl i [] s5 σ5 H5 (fun _ _=>False) I5 (fp5 fr5) st5 go
    refine thn itm fun r s6 ⟨u,hr6,w6⟩=> ?_
    subst hr6
    refine thn w6 fun _ s7 ⟨x,H7,I7,r7,y7,st7,fr7⟩=> ?_
    obtain ⟨ex7,hr7,rp7⟩:=yl x H7 y7
    have sr5:=sr5.mono ex7
    have hr5:=hr7
    have ex5:=ex5.trans ex7
    have I7':=I7.pinned (fp5 fr7) (T.obj _ _ st7)
    cases eg:gt d ρ5 with
    |none=>rw[eg] at en;cases en
    |some ρ6=>
     rw[eg] at en
     simp only at en
     have asg:=pt _ s7 σ5 H7 x u _ I7' r7 (qt x d σ5 ρ5 H7 α5 ρ6 (fun σ' H'=>H'=H7/\SR Y.K H7 α5 σ' ρ6) sr5 rp7 eg fun σ' s'=>⟨rfl,s'⟩)
     refine wpAny_mono asg (fun _ s8 ⟨σ8,H8,I8,z8,sr8⟩=> ?_) (fun x y z=>hxe x y z)
     subst z8
     have again: ∀ {σ9:L2.St} {H9:Hp} {s9:Shared},Inv Y ([] ++ ZdR fp s7.heap) σ9 H9 s9->Inv Y [] σ9 H9 s9/\tn (i + 1) s9.heap/\ ∀ b∈fp,H9 b=none:=fun {σ9 H9 s9} I9=>by
      refine ⟨I9.unpinned,T.keep _ _ _ st7 fun b hb o e=>(I9.pin (b,o) (List.mem_append_right _ (List.mem_append_right _ (ZbS hb e)))).1,fun b hb=> ?_⟩
      obtain ⟨o,e,_⟩:=T.obj _ _ st7 b hb
      exact (I9.pin (b,o) (List.mem_append_right _ (List.mem_append_right _ (ZbS hb e)))).2.1
     have after: ∀ (kk:Bool) (M8:Sto) (H9:Hp) (α9:List Addr) (s9:Shared),Inv Y ([] ++ ZdR fp s7.heap) σ8 H9 s9->Ext Y.K H8 H9 α5 α9->HR Y.K H9 α9 M8->c ρ6 M5= .ok kk M8->
       (if kk=true then wpAny (model Y.prog Y.w) Y.A (eval elt Y.env) (fun x s₄=>wpAny (model Y.prog Y.w) Y.A (call (.builtin "list.append") [.ref D,x]) (fun _ s₅=> ∃ m,m < n + 1/\CmI Y fp tn H3 α3 (fun n i ρ' M'=>Zc4 src gt c f n0 n i ρ' M'= .ok u9 M9) m s₅) (fun _ _=>False) s₄) (fun _ _=>False) s9
        else ∃ m,m < n + 1/\CmI Y fp tn H3 α3 (fun n i ρ' M'=>Zc4 src gt c f n0 n i ρ' M'= .ok u9 M9) m s9):=by
      intro kk M8 H9 α9 s9 I9 ex9 hr9 ec
      rw[ec] at en
      cases kk with
      |false=>
       obtain ⟨a1,a2,a3⟩:=again I9
       exact ZlN ⟨n,Nat.lt_succ_self n,i + 1,σ8,ρ6,H9,α9,M8,a1,a2,a3,sr8.mono ex9,hr9,ex5.trans ex9,en⟩
      |true=>
       simp only at en
       refine ZlO ?_
       cases ef:f ρ6 M8 with
       |exc x9 M10=>rw[ef] at en;cases en
       |bad=>rw[ef] at en;cases en
       |ok y M10=>
        rw[ef] at en
        simp only at en
        have ev:=pe _ s9 σ8 H9 (fun v H'=> ∃ α',Ext Y.K H9 H' α9 α'/\HR Y.K H' α' M10/\Rep Y.K H' α' v y) I9 (qe σ8 ρ6 H9 α9 M8 _ (sr8.mono ex9) hr9 (by
         rw[ef]
         exact fun v H' α' e h r=>⟨α',e,h,r⟩))
        refine wpAny_mono ev (fun yv s10 ⟨v,H10,I10,r10,α10,ex10,hr10,rp10⟩=> ?_) (fun x y z=>hxe x y z)
        cases em:M10[n0]? with
        |none=>rw[em] at en;cases en
        |some so=>
         cases so with
         |lst ds=>
          rw[em] at en
          simp only at en
          by_cases cz:ds.length < 10000000
          ·rw[if_pos cz] at en
           have aD10:=ex10.get (ex9.get (ex5.get aD))
           obtain ⟨xs,g1,g2⟩:=hr10.at aD10 em
           have ap:=ZeS (X:=Y) _ s10 σ8 H10 (.ref D) [v] (.ref D) [yv] (fun _ H'=>H'=upd H10 D (.lst (xs ++ [v]))) I10 rfl (.cons r10 .nil) ⟨D,xs,v,rfl,rfl,g1,by rw[g2.length];exact Nat.lt_of_lt_of_le cz (by decide),rfl⟩
           refine wpAny_mono ap (fun _ s11 ⟨v11,H11,I11,_,z11⟩=> ?_) (fun x y z=>hxe x y z)
           subst z11
           obtain ⟨a1,a2,a3⟩:=again I11
           have exw:Ext Y.K H10 (upd H10 D (.lst (xs ++ [v]))) α10 α10:=Ext.wr g1
           exact ⟨n,Nat.lt_succ_self n,i + 1,σ8,ρ6,_,α10,_,a1,a2,a3,((sr8.mono ex9).mono ex10).mono exw,hr10.wr aD10 g1 (g2.append (.cons rp10 .nil)),((ex5.trans ex9).trans ex10).trans exw,en⟩
          ·rw[if_neg cz] at en
           cases en
     rcases tst with ⟨rfl,ec⟩ | ⟨e,rfl,tt',ptt,qtt⟩
     ·refine wpAny_tests_nil ?_
      exact after true M5 H8 α5 s8 I8 Ext.refl hr5 (by rw[ec])
     ·refine wpAny_tests_one ?_
      cases ec:c ρ6 M5 with
      |exc x9 M10=>rw[ec] at en;cases en
      |bad=>rw[ec] at en;cases en
      |ok kk M8=>
       have tv':=ptt _ s8 σ8 H8 (fun b H'=>b=kk/\ ∃ α',Ext Y.K H8 H' α5 α'/\HR Y.K H' α' M8) I8 (qtt σ8 ρ6 H8 α5 M5 _ sr8 hr5 (by
        rw[ec]
        exact fun v H' α' e h r=>⟨r,α',e,h⟩))
       refine wpAny_mono tv' (fun b s9 ⟨H9,I9,zb,α9,ex9,hr9⟩=> ?_) (fun x y z=>hxe x y z)
       subst zb
       exact after b M8 H9 α9 s9 I9 ex9 hr9 ec
theorem Zbj (B:Blk X scope cl N k fr) (hi:DI X ξ tg iter fi) (hg: ∀ C fp s H,DG (blk X scope cl N C fp s H) tg gt) (ht: ∀ C fp s H,DC (blk X scope cl N C fp s H) ifs c) (he: ∀ C fp s H,DE (blk X scope cl N C fp s H) E0 elt f)
  (hs: ∀ x,foldedSetIterable iter X.env x=pure x:=by intro _;rfl):DE X ξ (.ListComp elt [⟨tg,iter,ifs,0⟩] scope pos) (Zay fi k fr gt c f):=by
 obtain ⟨wi,pi,qi⟩:=hi
 refine ⟨fun σ H Q=> ∃ ρ α M,SR X.K H α σ ρ/\HR X.K H α M/\OP X.K H α ξ Q (Zay fi k fr gt c f ρ M),?_,fun σ ρ H α M Q s h q=>⟨ρ,α,M,s,h,q⟩⟩
 rintro pins s σ H Q I ⟨ρ,α,M,sr,hr,op⟩
 rw[eval_ListComp]
 refine wpAny_comprehension_free (use:=none) rfl hs B.clos B.kind B.names ?_
 refine thn (pi pins s σ H (fun J H2=> ∃ α2 M2 src,Ext X.K H H2 α α2/\HR X.K H2 α2 M2/\Zl3 X.K H2 α2 J src/\OP X.K H2 α2 ξ Q (match Zc4 src gt c f M2.length (cnt src M2) 0 (roB k fr ρ) (M2 ++ [.lst []]) with | .ok _ M2'=> .ok (.ref M2.length) M2' | _=> .bad)) I
  (qi σ ρ H α M _ sr hr (OG.seq op fun src M1 J H1 α1 e1 h1 r1 q1=>⟨α1,M1,src,e1,h1,r1,q1⟩))) fun v s1 w1=>thn w1 fun itv s2 w2=> ?_
 obtain ⟨it,fp,tn,J,H2,rfl,I2,T,st2,f2,α2,M2,src,e2,h2,sc,op2⟩:=w2
 have srI:=sr.mono e2
 refine wpAny_newObj_type ?_
 have I3:Inv X pins σ (upd H2 s2.heap.objs.size (.lst [])) { s2 with heap:=s2.heap.push { cls:= .type "list",data:= .seq ([]:List Value).toArray } }:=I2.lnew (its:=[]) (t':=s2.toks) .nil (Nat.zero_le _)
 have fD:H2 s2.heap.objs.size=none:=I2.fresh
 generalize hD:s2.heap.objs.size=D at I3 fD
 generalize hs3:({ s2 with heap:=s2.heap.push { cls:= .type "list",data:= .seq ([]:List Value).toArray } }:Shared)=s3 at I3
 generalize hH3:upd H2 D (.lst [])=H3 at I3
 have h3:HR X.K H3 (α2 ++ [D]) (M2 ++ [.lst []]):=by rw[<- hH3];exact h2.new fD .nil
 have e3:Ext X.K H2 H3 α2 (α2 ++ [D]):=by rw[<- hH3];exact Ext.new fD
 have aD:RefK H3 (α2 ++ [D]) 0 M2.length D:=⟨h2.last D,by first | exact Kn.lst Zt | (rw[<- hH3];exact Kn.lst Zt)⟩
 have lt2: ∀ b∈fp,b < s2.heap.objs.size:=fun b hb=>let ⟨o,e,_⟩:=T.obj _ _ st2 b hb;Heap.lt_size e
 have keep3: ∀ b o,s2.heap.get? b=some o->s3.heap.get? b=some o:=fun b o e=>by rw[<- hs3];exact Heap.get?_push_of_some _ e
 have f3: ∀ b∈fp,ZdK X pins H3 b:=fun b hb=>⟨by rw[<- hH3,ZE (by rw[<- hD];exact Nat.ne_of_lt (lt2 b hb))];exact (f2 b hb).1,(f2 b hb).2⟩
 have lt3: ∀ b∈fp,b < s3.heap.objs.size:=fun b hb=>let ⟨o,e,_⟩:=T.obj _ _ st2 b hb;Heap.lt_size (keep3 b o e)
 have st3:tn 0 s3.heap:=T.keep _ _ _ st2 fun b _ o e=>keep3 b o e
 refine wpAny_newFunctionEnv B.cell (by intro y hy;simp at hy) (fun h₁ hns₁ hsb₁=> ?_) B.kind
 have keep4: ∀ b o,s3.heap.get? b=some o->h₁.get? b=some o:=fun b o e=>hsb₁.extBut b o (Nat.ne_of_lt (Heap.lt_size e)) (Heap.get?_push_of_some _ e)
 have I4:=Zij (tk:=s3.toks + ([]:List (Str × Value)).length) B I3 f3 lt3 hns₁ keep4
 have st4:tn 0 h₁:=T.keep _ _ _ st3 fun b _ o e=>keep4 b o e
 have fp5: ∀ {H':Hp},(∀ b∈fp,H' b=none)-> ∀ b∈fp,ZdK (blk X scope cl N s3.heap.objs.size fp s3 H3) [] H' b:=fun hn b hb=>⟨hn b hb,Nat.ne_of_lt (lt3 b hb),(Zih B I3 f3 lt3).exfs b hb,.inl hb,fun x c h=>(f3 b hb).2.2.2.2.1 x c (B.sub x c h),fun p hp=>(by simp[blk] at hp)⟩
 cases er:Zc4 src gt c f M2.length (cnt src M2) 0 (roB k fr ρ) (M2 ++ [.lst []]) with
 |exc x M9=>rw[er] at op2;exact op2.elim
 |bad=>rw[er] at op2;exact op2.elim
 |ok u9 M9=>
  rw[er] at op2
  have loop:codeAny (model X.prog X.w) X.A (.compLoop (.ListComp elt [⟨tg,iter,ifs,0⟩] scope pos) 0 (.ref it) (.ref D) (compEnvC scope cl s3.heap.objs.size X.env)) (compPost (model X.prog X.w) X.A X.xe none (EP X pins σ Q) (.ref D) s3.heap.objs.size) { s3 with heap:=h₁,toks:=s3.toks + ([]:List (Str × Value)).length }:=by
   refine Zel (Y:=blk X scope cl N s3.heap.objs.size fp s3 H3) T (fun _ _ z=>z) fp5 (hg _ fp s3 H3) (ht _ fp s3 H3) (he _ fp s3 H3) (fun i H' α' M' ex hr=>sc i H' α' M' (e3.trans ex) hr) aD I4 st4 (fun b hb=>(f3 b hb).1) ((srI.blk).mono e3) h3 er ?_
   intro σ5 H5 α5 s6 I6 ex5 hr5
   obtain ⟨I7,I8⟩:=ZgJ B I3 f3 I6
   obtain ⟨m6,hm6,_⟩:=id I6.loc
   exact ⟨m6,hm6,fun h' sb=>⟨.ref D,H5,I8 σ s6 h' I7 (fun b o hb e=>(sb.2 b hb).trans e),rfl,op2 _ H5 α5 (e3.trans ex5) hr5 (.ref (ex5.get aD))⟩⟩
  exact codeAny_compStart_list loop (T.self X.A 0 _ _ _ st4 loop)
end
end DL
end
section
namespace DL
open PySem PySem.Spec PyProof.Rows L2
theorem Zol {names:List (Str × NameKind)} (h:names.all (fun y=>y.2 != .cell && y.2 != .free)=true) (x:Str): ¬ (names.lookup x=some .cell\/names.lookup x=some .free):=by
 induction names with
 |nil=>intro z;rcases z with z | z<;>simp at z
 |cons y r ih=>
  rw[List.all_cons,Bool.and_eq_true] at h
  obtain ⟨n,kd⟩:=y
  rw[List.lookup_cons]
  cases e:x == n with
  |true=>
   simp only
   intro z
   have h1:=h.1
   rcases z with z | z<;>(cases z;simp at h1)
  |false=>exact ih h.2
theorem ZjT {names:List (Str × NameKind)} {env:Env} (h:names.all (fun y=>y.2 != .cell && y.2 != .free)=true):
  (names.map fun (n,k)=>if (k == NameKind.free && env.scope.kind == .function && env.kindOf n == some .cell) then (n,NameKind.cell) else (n,k))=names:=by
 induction names with
 |nil=>rfl
 |cons y r ih=>
  rw[List.all_cons,Bool.and_eq_true] at h
  obtain ⟨n,kd⟩:=y
  have hk:(kd == NameKind.free)=false:=by
   have h1:=h.1
   rw[Bool.and_eq_true] at h1
   have h2:=h1.2
   cases kd<;>first | rfl | simp at h2
  rw[List.map_cons,ih h.2]
  simp[hk]
theorem Zl5 {X:Cx} {scope:Scope} {N:List Str} {k:Nat} (h:scope.names.all (fun y=>y.2 != .cell && y.2 != .free)=true) (hk:scope.kind= .function) (hn: ∀ y∈scope.names,y.2= .local->scope.names.lookup y.1=some .local) (hl:N.length=k):Blk X scope [] N k [] where
 clos:=closureFor_none fun y hy z=>by
  have:=List.all_eq_true.mp h y hy
  rw[z] at this
  simp at this
 kind:=hk
 cell:=fun y hy z=>by
  have:=List.all_eq_true.mp h y hy
  rw[z] at this
  simp at this
 names:=hn
 sub:=fun x c z=>(by cases z)
 has:=fun x z=>by
  have e:(relabel scope X.env).names=scope.names:=ZjT h
  rw[e] at z
  exact absurd z (Zol h x)
 len:=hl
 at_:=fun j i z=>(by simp at z)
theorem Zdu {env:Env}: ∀ (names:List (Str × NameKind)) (acc:List (Str × Addr)),(∀ y∈names,y.2= .free-> ∃ c,env.cells.lookup y.1=some c)->
  (forIn names acc fun (x:Str × NameKind) (cs:List (Str × Addr))=>if x.2 == NameKind.free then (do let a <- cellOf env x.1;pure (ForInStep.yield ((x.1,a) :: cs))) else (pure (ForInStep.yield cs):Sem _))=
   (pure (((names.filter fun y=>y.2 == .free).map fun y=>(y.1,(env.cells.lookup y.1).getD 0)).reverse ++ acc):Sem (List (Str × Addr)))
 | [],acc,_=>by simp
 | (n,kd) :: r,acc,h=>by
  rw[List.forIn_cons]
  by_cases hk:(kd == NameKind.free)=true
  ·obtain ⟨c,hc⟩:=h (n,kd) List.mem_cons_self (by simpa using hk)
   have e1:cellOf env n=pure c:=by unfold cellOf;rw[hc]
   have ih:=Zdu r ((n,c) :: acc) fun y hy=>h y (List.mem_cons_of_mem _ hy)
   simp only[hk,if_true,e1,pure_bind]
   refine Eq.trans ih ?_
   simp[List.filter_cons,hk,hc]
  ·have ih:=Zdu r acc fun y hy=>h y (List.mem_cons_of_mem _ hy)
   simp only[hk,if_false,pure_bind]
   refine Eq.trans ih ?_
   simp[List.filter_cons,hk]
noncomputable def clF (scope:Scope) (env:Env):List (Str × Addr):=((scope.names.filter fun y=>y.2 == .free).map fun y=>(y.1,(env.cells.lookup y.1).getD 0)).reverse
theorem ZbU {env:Env}: ∀ {l:List (Str × NameKind)} {x:Str} {c:Addr},(l.map fun y=>(y.1,(env.cells.lookup y.1).getD 0)).lookup x=some c->c=(env.cells.lookup x).getD 0/\ ∃ y∈l,y.1=x
 | [],x,c,h=>by simp at h
 |y :: r,x,c,h=>by
  rw[List.map_cons,List.lookup_cons] at h
  cases e:x == y.1 with
  |true=>
   rw[e] at h
   have ex:x=y.1:=by simpa using e
   cases h
   exact ⟨by rw[ex],y,List.mem_cons_self,ex.symm⟩
  |false=>
   rw[e] at h
   obtain ⟨h1,z,h2,h3⟩:=ZbU h
   exact ⟨h1,z,List.mem_cons_of_mem _ h2,h3⟩
theorem ZaW {α:Type}: ∀ {l:List (Str × α)} {x:Str},(∃ y∈l,y.1=x)-> ∃ c,l.lookup x=some c
 | [],x,h=>by obtain ⟨y,h1,_⟩:=h;simp at h1
 |z :: r,x,h=>by
  rw[List.lookup_cons]
  cases e:x == z.1 with
  |true=>exact ⟨_,rfl⟩
  |false=>
   obtain ⟨y,h1,h2⟩:=h
   rcases List.mem_cons.mp h1 with q | q
   ·subst q;rw[h2] at e;simp at e
   ·exact ZaW ⟨y,q,h2⟩
theorem ZN {env:Env} (nc: ∀ n,env.scope.names.lookup n=env.kindOf n): ∀ {names:List (Str × NameKind)} {x:Str} {kd:NameKind},(names.map fun (n,k)=>if (k == NameKind.free && env.scope.kind == .function && env.kindOf n == some .cell) then (n,NameKind.cell) else (n,k)).lookup x=some kd->
  names.lookup x=some kd\/(names.lookup x=some .free/\kd= .cell)
 | [],x,kd,h=>by simp at h
 | (n,q) :: r,x,kd,h=>by
  rw[List.map_cons,List.lookup_cons] at h
  rw[List.lookup_cons]
  dsimp only at h ⊢
  by_cases c:(q == NameKind.free && env.scope.kind == .function && env.kindOf n == some .cell)=true
  ·rw[if_pos c] at h
   dsimp only at h
   cases e:x == n with
   |true=>
    rw[e] at h
    cases h
    simp only[Bool.and_eq_true,beq_iff_eq] at c
    exact .inr ⟨by rw[c.1.1],rfl⟩
   |false=>rw[e] at h;exact ZN nc h
  ·rw[if_neg c] at h
   dsimp only at h
   cases e:x == n with
   |true=>rw[e] at h;exact .inl h
   |false=>rw[e] at h;exact ZN nc h
theorem ZaR {env:Env}: ∀ {names:List (Str × NameKind)} {x:Str},names.lookup x=some .free->(∃ kd,(kd=NameKind.cell\/kd=NameKind.free)/\(names.map fun (n,k)=>if (k == NameKind.free && env.scope.kind == .function && env.kindOf n == some .cell) then (n,NameKind.cell) else (n,k)).lookup x=some kd)
 | [],x,h=>by simp at h
 | (n,q) :: r,x,h=>by
  rw[List.lookup_cons] at h
  rw[List.map_cons,List.lookup_cons]
  by_cases c:(q == NameKind.free && env.scope.kind == .function && env.kindOf n == some .cell)=true
  ·dsimp only
   rw[if_pos c]
   cases e:x == n with
   |true=>exact ⟨_,.inl rfl,rfl⟩
   |false=>rw[e] at h;exact ZaR h
  ·dsimp only
   rw[if_neg c]
   cases e:x == n with
   |true=>rw[e] at h;exact ⟨q,.inr (Option.some.inj h),rfl⟩
   |false=>rw[e] at h;exact ZaR h
noncomputable def Zom (XN N:List Str) (dn sn:List (Str × NameKind)) (k:Nat) (fr:List Nat):Bool:=
 (sn.all fun y=>y.2 != .cell && (y.2 != .free || dn.lookup y.1 == some .cell) && (y.2 != .local || sn.lookup y.1 == some .local)) && N.length == k + fr.length &&
  (List.range fr.length).all fun j=>match fr[j]? with
   |some i=>(match N[k + j]?,XN[i]? with | some x,some y=>x == y && dn.lookup x == some .cell && sn.lookup x == some .free | _,_=>false)
   |none=>false
theorem Zk0 {X:Cx} {scope:Scope} {N:List Str} {k n:Nat} {fr:List Nat} {XN:List Str} {dn:List (Str × NameKind)} (hN:X.N=XN) (hd:X.env.scope.names=dn) (hc:X.env.cells=cellsFrom n dn []) (hk:scope.kind= .function) (h:Zom XN N dn scope.names k fr=true):Blk X scope (clF scope X.env) N k fr:=by
 unfold Zom at h
 simp only[Bool.and_eq_true,List.all_eq_true,bne_iff_ne,ne_eq,Bool.or_eq_true,beq_iff_eq] at h
 obtain ⟨⟨h1,h2⟩,h3⟩:=h
 have kind: ∀ x,X.env.kindOf x=dn.lookup x:=fun x=>by rw[<- hd];rfl
 have cel: ∀ x,dn.lookup x=some .cell-> ∃ c,X.env.cells.lookup x=some c:=fun x e=>by
  have:=PySem.W.cellsFrom_some dn n [] (.inl e)
  rw[hc]
  exact Option.isSome_iff_exists.mp this
 have frc: ∀ y∈scope.names,y.2= .free-> ∃ c,X.env.cells.lookup y.1=some c:=fun y hy e=>by
  rcases (h1 y hy).1.2 with z | z
  ·exact absurd e z
  ·exact cel _ z
 have sub: ∀ x c,(clF scope X.env).lookup x=some c->X.env.cells.lookup x=some c:=fun x c e=>by
  unfold clF at e
  rw[<- List.map_reverse] at e
  obtain ⟨e1,y,e2,e3⟩:=ZbU e
  have e4:=List.mem_filter.mp (List.mem_reverse.mp e2)
  obtain ⟨c',g⟩:=frc y e4.1 (by simpa using e4.2)
  rw[e3] at g
  rw[g] at e1 ⊢
  rw[e1]
  rfl
 have has: ∀ x,scope.names.lookup x=some .free-> ∃ c,(clF scope X.env).lookup x=some c:=fun x e=>by
  refine ZaW ?_
  have m:=PySem.mem_of_lookup e
  exact ⟨(x,(X.env.cells.lookup x).getD 0),List.mem_reverse.mpr (List.mem_map.mpr ⟨(x,.free),List.mem_filter.mpr ⟨m,by simp⟩,rfl⟩),rfl⟩
 refine ⟨?_,hk,fun y hy=>(h1 y hy).1.1,fun y hy e=> ?_,sub,fun x z=> ?_,h2,fun j i e=> ?_⟩
 ·have:=Zdu (env:=X.env) scope.names [] frc
  rw[List.append_nil] at this
  unfold closureFor
  exact (congrArg (fun (m:Sem (List (Str × Addr)))=>m >>= fun cs=>(pure cs:Sem (List (Str × Addr)))) this).trans (pure_bind _ _)
 ·rcases (h1 y hy).2 with z | z
  ·exact absurd e z
  ·exact z
 ·have nc: ∀ m,X.env.scope.names.lookup m=X.env.kindOf m:=fun m=>rfl
  refine has x ?_
  rcases z with z | z
  ·rcases ZN nc z with q | q
   ·exact absurd rfl (h1 _ (PySem.mem_of_lookup q)).1.1
   ·exact q.1
  ·rcases ZN nc z with q | q
   ·exact q
   ·cases q.2
 ·have hj:j < fr.length:=(List.getElem?_eq_some_iff.mp e).1
  have q:=h3 j (List.mem_range.mpr hj)
  rw[e] at q
  dsimp only at q
  cases e1:N[k + j]? with
  |none=>rw[e1] at q;cases q
  |some x=>
   cases e2:XN[i]? with
   |none=>rw[e1,e2] at q;cases q
   |some y=>
    rw[e1,e2] at q
    simp only[Bool.and_eq_true,beq_iff_eq] at q
    obtain ⟨⟨q1,q2⟩,q3⟩:=q
    subst q1
    obtain ⟨kd,r1,r2⟩:=ZaR (env:=X.env) q3
    obtain ⟨c,r3⟩:=has x q3
    refine ⟨x,rfl,by rw[hN];exact e2,by rw[kind];exact q2,?_,r3.trans (sub x c r3).symm⟩
    rcases r1 with r1 | r1
    ·exact .inl (r1 ▸ r2)
    ·exact .inr (r1 ▸ r2)
section
variable {X:Cx} {ξ:XK}
theorem Ze6: ∀ {bs:List Bool} {us:List Value} {i:Nat} {u:Value},Z2 (bs.map V.bl) us->us[i]?=some u-> ∃ b,bs[i]?=some b/\u= .bool b
 | [],us,i,u,h,e=>by cases h;simp at e
 |b :: r,us,i,u,h,e=>by
  cases h with
  |cons h1 h2=>
   cases i with
   |zero=>simp at e;subst e;exact ⟨b,rfl,h1⟩
   |succ i=>simp at e;obtain ⟨b',g1,g2⟩:=Ze6 h2 e;exact ⟨b',by simpa using g1,g2⟩
noncomputable def Zab:List D->Option (List Bool)
 | []=>some []
 | .bl b :: r=>match Zab r with | some bs=>some (b :: bs) | none=>none
 |_ :: _=>none
theorem Ze7 {K:PySem.W.Frag} {H:Hp} {α:List Addr}: ∀ {vs:List V} {ds:List D} {bs:List Bool},Reps K H α vs ds->Zab ds=some bs->vs=bs.map V.bl
 |_,_,_,.nil,e=>by cases e;rfl
 |_,_,bs,.cons (d:=d) (ds:=ds) r t,e=>by
  cases r with
  |bl b=>
   cases e1:Zab ds with
   |none=>simp only[Zab,e1] at e;cases e
   |some cs=>
    simp only[Zab,e1,Option.some.injEq] at e
    subst e
    rw[Ze7 t e1]
    rfl
  |_=>cases e
noncomputable def ZsF:List D->Sto->Out D:=fun ds M=>match ds with
 | [.ref n]=>(match M[n]? with | some (.lst xs)=>(match Zab xs with | some bs=> .ok (.bl (bs.all id)) M | none=> .bad) | none=> .bad)
 |_=> .bad
end
section
variable {prog:Program} {w:World} {A:Around} {E:Value->Shared->Prop} {s:Shared}
end
section
variable {X:Cx} {ξ:XK} {e:Expr} {f:Ev} {p2 p3 p4 pos:Pos} {j:Nat}
theorem Reps.rev {K:PySem.W.Frag} {H:Hp} {α:List Addr}: ∀ {vs:List V} {ds:List D},Reps K H α vs ds->Reps K H α vs.reverse ds.reverse
 |_,_,.nil=> .nil
 |_,_,.cons r t=>by
  rw[List.reverse_cons,List.reverse_cons]
  exact (Reps.rev t).append (.cons r .nil)
end
end DL
end
section
namespace DL
open PySem PySem.Spec PyProof.Rows L2
theorem Zon:bootBuiltins "any"=some (.builtin "any"):=by decide +kernel
section
variable {X:Cx} {ξ:XK}
noncomputable def ZsG (X:Cx):List V->Hp->VK->Prop:=fun vs H Q=> ∃ (p:Addr) (bs:List Bool),vs=[.ref p]/\SqL X.K H p (bs.map V.bl)/\Q (.bl (bs.any id)) H
theorem Zg9 (bs:List Bool):((List.range bs.length).any fun i=>(bs[i]?).getD true)=bs.any id:=by
 rw[Bool.eq_iff_iff,List.any_eq_true,List.any_eq_true]
 constructor
 ·rintro ⟨i,hi,h⟩
  have hi':=List.mem_range.mp hi
  simp only[List.getElem?_eq_getElem hi',Option.getD_some] at h
  exact ⟨_,List.getElem_mem hi',h⟩
 ·rintro ⟨b,hb,h⟩
  obtain ⟨i,hi,e⟩:=List.getElem_of_mem hb
  refine ⟨i,List.mem_range.mpr hi,?_⟩
  simp only[List.getElem?_eq_getElem hi,Option.getD_some,e]
  exact h
theorem ZjU (hc:X.calm=true):Zb6 X (.builtin "any") (ZsG X):=by
 intro pins s σ H vs us Q I rs ⟨p,bs,e,hl,q⟩
 subst e
 obtain ⟨u,rfl,ru⟩:=ZdL rs
 cases ru
 obtain ⟨its,hv,hp,hz⟩:=I.list hl
 have hlt:p < s.heap.objs.size:=by obtain ⟨_,e,_⟩:=hp.isList;exact Heap.lt_size e
 refine call_any_walk (wpAny_pyIter_list hp.isList ?_)
 refine ⟨s.heap.objs.size,[s.heap.objs.size,p],[s.heap.objs.size],its.toArray.size,_,_,fun i=>(bs[i]?).getD true,rfl,Walks.list (A:=X.A.in1) (I.ok.hd hc) _ p (Nat.ne_of_lt hlt) its.toArray,
  ⟨⟨_,Heap.get?_push_size _ rfl,rfl,rfl⟩,hp.isList.push _⟩,fun i v s' Q' E' hP hQ=> ?_,fun h' tk hk=> ?_⟩
 ·obtain ⟨b,e,rfl⟩:=Ze6 (i:=i) (u:=v) hv (by simpa using hP)
  simp only[e,Option.getD_some] at hQ
  exact wpAny_truthy_bool hQ
 ·have e:((List.range its.toArray.size).any fun i=>(bs[i]?).getD true)=bs.any id:=by
   rw[List.size_toArray,<- hv.length,List.length_map];exact Zg9 bs
  rw[e]
  exact ⟨.bl (bs.any id),H,I.kept fun b o e=>hk b o (fun hm=>by rw[List.mem_singleton.mp hm] at e;exact Nat.lt_irrefl _ (Heap.lt_size e)) (Heap.get?_push_of_some _ e),rfl,q⟩
noncomputable def bAny:List D->Sto->Out D:=fun ds M=>match ds with
 | [.ref n]=>(match M[n]? with | some (.lst xs)=>(match Zab xs with | some bs=> .ok (.bl (bs.any id)) M | none=> .bad) | none=> .bad)
 |_=> .bad
theorem Zoo:CO X ξ (ZsG X) bAny:=by
 intro H α M vs ds Q h rs q
 match rs with
 | .nil=>exact q.elim
 | .cons r (.cons _ _)=>cases r<;>exact q.elim
 | .cons r .nil=>
  cases r with
  | @ref p n hp=>
   cases e1:M[n]? with
   |none=>simp only[bAny,e1] at q;exact q.elim
   |some so=>
    cases so with
    |lst es=>
     cases e2:Zab es with
     |none=>simp only[bAny,e1,e2] at q;exact q.elim
     |some bs=>
      simp only[bAny,e1,e2] at q
      obtain ⟨xs,g1,g2⟩:=h.at hp e1
      have:=Ze7 g2 e2
      subst this
      exact ⟨p,bs,rfl,SqL.of g1,q _ H α Ext.refl h (.bl _)⟩
  |_=>exact q.elim
end
end DL
end
section
namespace DL
open PySem PySem.Spec PyProof.Rows L2
theorem Za9: ∀ (names:List (Str × NameKind)) (n:Nat) (acc:List (Str × Addr)),cellsFrom n names acc=cellsFrom n names [] ++ acc
 | [],_,_=>rfl
 | (x,kd) :: r,n,acc=>by
  unfold cellsFrom
  split
  ·rw[Za9 r (n + 1) ((x,n) :: acc),Za9 r (n + 1) [(x,n)]]
   simp
  ·exact Za9 r n acc
theorem Zb8: ∀ (names:List (Str × NameKind)) (n:Nat) (x:Str) (c:Addr),(x,c)∈cellsFrom n names []->(x,NameKind.cell)∈names
 | [],_,_,_,h=>by simp[cellsFrom] at h
 | (y,kd) :: r,n,x,c,h=>by
  unfold cellsFrom at h
  split at h
  ·rename_i hk
   rw[Za9] at h
   rcases List.mem_append.mp h with h | h
   ·exact List.mem_cons_of_mem _ (Zb8 r (n + 1) x c h)
   ·have e:=List.mem_singleton.mp h
    cases e
    have:kd= .cell:=by simpa using hk
    rw[this]
    exact List.mem_cons_self
  ·exact List.mem_cons_of_mem _ (Zb8 r n x c h)
theorem Zem {α:Type}: ∀ {l r:List (Str × α)} {x:Str} {c:α},(l ++ r).lookup x=some c->l.lookup x=some c\/(l.lookup x=none/\r.lookup x=some c)
 | [],r,x,c,h=> .inr ⟨rfl,h⟩
 | (y,d) :: l,r,x,c,h=>by
  rw[List.cons_append,List.lookup_cons] at h
  rw[List.lookup_cons]
  cases e:x == y with
  |true=>rw[e] at h;exact .inl h
  |false=>rw[e] at h;exact Zem h
theorem ZdZ {α:Type}: ∀ {l r:List (Str × α)} {x:Str},(∀ c,(x,c) ∉ l)->(l ++ r).lookup x=r.lookup x
 | [],_,_,_=>rfl
 | (y,d) :: l,r,x,h=>by
  rw[List.cons_append,List.lookup_cons]
  cases e:x == y with
  |true=>
   have:x=y:=by simpa using e
   exact absurd (by rw[this];exact List.mem_cons_self) (h d)
  |false=>exact ZdZ fun c hc=>h c (List.mem_cons_of_mem _ hc)
section
variable {M:Model} {A:Around} {E:Value->Shared->Prop} {s:Shared}
theorem Zik {scope:Scope} {globals:Addr} {cl:List (Str × Addr)} {qual:Str} {env:Env} {Q:Env->Shared->Prop}
  (hQ:Q (newEnv scope s.heap.objs.size globals (cellsFrom (s.heap.objs.size + 1) scope.names cl) qual none .none (some env) builtinsNs) { s with heap:=pushCells (s.heap.push { cls:= .type "dict",data:= .dict #[] }) scope.names }):
  wpAny M A (newFunctionEnv scope globals cl [] qual none .none (some env)) Q E s:=by
 simp only[newFunctionEnv,Option.isSome_some,if_true]
 refine wpAny_bind (wpAny_alloc ?_)
 refine wpAny_bind (wpAny_layCells _ (fun name kind cells=>by cases hkc:kind == NameKind.cell<;>simp[hkc]) _ _ _ _ ?_)
 rw[show ({ s with heap:=s.heap.push { cls:= .type "dict",data:= .dict #[] } }:Shared).heap.objs.size=s.heap.objs.size + 1 from Heap.size_push ..]
 exact wpAny_bind (wpAny_pure (wpAny_pure hQ))
end
theorem _root_.PySem.W.cellsFrom_mem {x:Str}: ∀ (names:List (Str × NameKind)) (n:Nat) (acc:List (Str × Addr)),(x,NameKind.cell)∈names->((cellsFrom n names acc).lookup x).isSome=true
 | [],_,_,h=>by simp at h
 | (y,kd) :: r,n,acc,h=>by
  have acc_some: ∀ (names:List (Str × NameKind)) (n:Nat) (acc:List (Str × Addr)),(acc.lookup x).isSome=true->((cellsFrom n names acc).lookup x).isSome=true:=fun names n acc h=>PySem.W.cellsFrom_some names n acc (.inr h)
  unfold cellsFrom
  split
  ·rcases List.mem_cons.mp h with e | e
   ·cases e
    refine acc_some _ _ _ ?_
    rw[List.lookup_cons]
    simp
   ·exact PySem.W.cellsFrom_mem r _ _ e
  ·rename_i hk
   rcases List.mem_cons.mp h with e | e
   ·cases e
    simp at hk
   ·exact PySem.W.cellsFrom_mem r _ _ e
noncomputable def ZfR (X:Cx) (scope:Scope) (cl:List (Str × Addr)) (N:List Str) (C:Addr) (fp:List Addr) (s:Shared) (H:Hp):Cx:=
 { blk X scope (cellsFrom (C + 1) scope.names cl) N C fp s H with fn:=fun x=>scope.names.any fun y=>y.1 == x && y.2 == .cell,fxs:=none }
theorem ZjV {X:Cx} {scope:Scope} {cl:List (Str × Addr)} {N:List Str} {C:Addr} {fp:List Addr} {s:Shared} {H:Hp}:Thr (ZfR X scope cl N C fp s H) E0:=
 ⟨PassesOwn.never,fun _ _ _ _ _ _ _ ⟨_,_,_,_,_,_,_,_,_,_,_,_,_,q⟩=>q,fun _ _ _ _ _ _ _ _ _ _ _ _ _ _ _ _ _ _ q=>q⟩
structure BlkC (X:Cx) (scope:Scope) (cl:List (Str × Addr)) (N:List Str) (k:Nat) (fr:List Nat):Prop where
 clos:closureFor scope X.env=pure cl
 kind:scope.kind= .function
 names: ∀ y∈scope.names,y.2= .local->scope.names.lookup y.1=some .local
 sub: ∀ x c,cl.lookup x=some c->X.env.cells.lookup x=some c
 has: ∀ n x,((relabel scope X.env).names.lookup x=some .cell\/(relabel scope X.env).names.lookup x=some .free)-> ∃ c,(cellsFrom n scope.names cl).lookup x=some c
 len:N.length=k + fr.length
 at_: ∀ (j i:Nat),fr[j]?=some i-> ∃ x,N[k + j]?=some x/\X.N[i]?=some x/\X.env.kindOf x=some .cell/\((relabel scope X.env).names.lookup x=some .cell\/(relabel scope X.env).names.lookup x=some .free)/\cl.lookup x=X.env.cells.lookup x/\(x,NameKind.cell) ∉ scope.names
section
variable {X:Cx} {ξ:XK} {tg iter elt:Expr} {ifs:List Expr} {scope:Scope} {cl:List (Str × Addr)} {N:List Str} {k:Nat} {fr:List Nat} {fi:Ro->Sto->Out Src} {gt:Tg} {c:Tv} {f:Ev} {pos:Pos}
theorem ZjW (h:Heap):CellsOk (pushCells (h.push { cls:= .type "dict",data:= .dict #[] }) scope.names) (h.objs.size + 1) (cellsFrom (h.objs.size + 1) scope.names []):=by
 have:=cellsFrom_ok scope.names (h.push { cls:= .type "dict",data:= .dict #[] }) (h.objs.size + 1) [] ⟨fun _ _ hm=>(nomatch hm),List.Pairwise.nil⟩ (by rw[Heap.size_push];exact Nat.le_refl _)
 rw[Heap.size_push] at this
 exact this
theorem ZbG (B:BlkC X scope cl N k fr) {h:Heap} {x:Str} {c:Addr} (e:(cellsFrom (h.objs.size + 1) scope.names cl).lookup x=some c):(X.env.cells.lookup x=some c)\/((x,c)∈cellsFrom (h.objs.size + 1) scope.names []/\h.objs.size + 1<=c):=by
 rw[Za9] at e
 rcases Zem e with z | ⟨_,z⟩
 ·have m:=PySem.mem_of_lookup z
  exact .inr ⟨m,((ZjW h).empty x c m).2⟩
 ·exact .inl (B.sub x c z)
theorem Zil (B:BlkC X scope cl N k fr) {pins:List (Addr × Obj)} {σ:L2.St} {H:Hp} {s:Shared} {fp:List Addr} (I:Inv X pins σ H s) (hf: ∀ b∈fp,ZdK X pins H b) (hlt: ∀ b∈fp,b < s.heap.objs.size) {b:Addr} (hb:b∈fp) {x:Str} {c:Addr} (h:(cellsFrom (s.heap.objs.size + 1) scope.names cl).lookup x=some c):c≠b:=by
 rcases ZbG B h with z | ⟨_,z⟩
 ·exact (hf b hb).2.2.2.2.1 x c z
 ·exact Nat.ne_of_gt (Nat.lt_trans (hlt b hb) z)
theorem Zim (B:BlkC X scope cl N k fr) {pins:List (Addr × Obj)} {σ:L2.St} {H:Hp} {s:Shared} {fp:List Addr} (I:Inv X pins σ H s) (hf: ∀ b∈fp,ZdK X pins H b) (hlt: ∀ b∈fp,b < s.heap.objs.size):(ZfR X scope cl N s.heap.objs.size fp s H).Ok where
 mod:=I.ok.mod
 kind:=B.kind
 glob:=I.ok.glob
 blt:=I.ok.blt
 above:=Nat.le_refl _
 inj:=fun x y c h1 h2=>by
  have old: ∀ {x c},X.env.cells.lookup x=some c->c < s.heap.objs.size:=fun {x c} e=>by
   obtain ⟨v,q⟩:=I.cell x c e
   exact q.lt
  rcases ZbG B h1 with z | ⟨m1,z⟩<;>rcases ZbG B h2 with w | ⟨m2,w⟩
  ·exact I.ok.inj x y c z w
  ·exact absurd (Nat.lt_trans (old z) w) (Nat.lt_irrefl _)
  ·exact absurd (Nat.lt_trans (old w) z) (Nat.lt_irrefl _)
  ·exact name_of_addr (ZjW (scope:=scope) s.heap).apart m1 m2
 has:=fun x h=>B.has _ x h
 cab:=fun x c h e=>by
  obtain ⟨y,hy,hz⟩:=List.any_eq_true.mp h
  simp only[Bool.and_eq_true,beq_iff_eq] at hz
  have e':(cellsFrom (s.heap.objs.size + 1) scope.names [] ++ cl).lookup x=some c:=by rw[<- Za9];exact e
  have hs:=PySem.W.cellsFrom_mem scope.names (s.heap.objs.size + 1) [] (x:=x) (by rw[<- hz.1,<- hz.2];exact hy)
  rcases Zem e' with z | ⟨z,_⟩
  ·exact Nat.le_of_lt ((ZjW (scope:=scope) s.heap).empty x c (PySem.mem_of_lookup z)).2
  ·rw[z] at hs;cases hs
 hd:=I.ok.hd
 frames:=I.ok.frames
 stk:= .inl rfl
 exf:=fun b hb=>⟨Nat.ne_of_lt (hlt b hb),fun x c h=>Zil B I hf hlt hb h⟩
 bs:=I.bs
 bsz:=Nat.le_trans I.ok.bsz I.sz
 noex:=fun b o e hb=>by
  rcases (hf b hb).2.2.2.1 with z | z
  ·exact I.ok.noex b o e z
  ·exact absurd (Nat.lt_of_lt_of_le (Heap.lt_size (I.ok.bs b o e).1) z) (Nat.lt_irrefl _)
 exfs:=fun b hb z=>by
  rcases List.mem_cons.mp (I.stkSub b z) with e | e
  ·exact (hf b hb).2.1 e
  ·exact (hf b hb).2.2.1 e
 funs:=I.stack
 frf:=I.stkFree
theorem ZjX (B:BlkC X scope cl N k fr) {pins:List (Addr × Obj)} {σ:L2.St} {H:Hp} {s:Shared} {fp:List Addr} (I:Inv X pins σ H s) (hf: ∀ b∈fp,ZdK X pins H b) (hlt: ∀ b∈fp,b < s.heap.objs.size):
  Inv (ZfR X scope cl N s.heap.objs.size fp s H) [] (stB k fr σ) H { s with heap:=pushCells (s.heap.push { cls:= .type "dict",data:= .dict #[] }) scope.names }:=by
 have hk: ∀ b o,s.heap.get? b=some o->(pushCells (s.heap.push { cls:= .type "dict",data:= .dict #[] }) scope.names).get? b=some o:=fun b o e=>pushCells_keeps _ _ b o (Heap.get?_push_of_some _ e)
 have hn:(pushCells (s.heap.push { cls:= .type "dict",data:= .dict #[] }) scope.names).Ns s.heap.objs.size (fun _=>none):=(Heap.Ns.new s.heap (.type "dict")).keeps (pushCells_keeps _ _)
 have nw:=ZjW (scope:=scope) s.heap
 exact {
  ok:=Zim B I hf hlt
  os:=rfl
  bare:=I.bare
  base:=Un.kept hk
  loc:=by
   refine ⟨_,hn,fun i x v e1 e2 e3=> ?_⟩
   obtain ⟨j,r,rfl,g1,g2⟩:=Zii e2
   obtain ⟨y,k1,k2,k3,k4,k5,k6⟩:=B.at_ j r g1
   have exy:x=y:=Option.some.inj (e1.symm.trans k1)
   subst exy
   obtain ⟨m0,hm0,hl⟩:=I.loc
   obtain ⟨u,ru,lk⟩:=hl r x v k2 g2 (.inr (.inl k3))
   refine ⟨u,ru,?_⟩
   rcases lk with ⟨z,_⟩ | ⟨_,c,z1,⟨o,z2,z3⟩⟩
   ·rw[k3] at z;cases z
   ·refine .inr ⟨k4,c,?_,⟨o,hk _ _ z2,z3⟩⟩
    show (cellsFrom (s.heap.objs.size + 1) scope.names cl).lookup x=some c
    rw[Za9,ZdZ fun c' hc'=>k6 (Zb8 _ _ _ _ hc')]
    exact k5.trans z1
  cell:=fun x c h=>by
   rcases ZbG B h with z | ⟨m,_⟩
   ·obtain ⟨v,o,e1,e2⟩:=I.cell x c z
    exact ⟨v,o,hk _ _ e1,e2⟩
   ·exact ⟨none,(nw.empty x c m).1⟩
  free:=I.fresh
  freeC:=fun x c h=>by
   rcases ZbG B h with z | ⟨_,z⟩
   ·exact I.freeC x c z
   ·exact I.hok.fresh (Nat.le_of_lt z)
  pin:=fun p hp=>(by simp[ZfR,blk] at hp)
  hok:=I.hok.kept hk
  len:=by
   show (stB k fr σ).length=N.length
   rw[B.len]
   simp[stB]
  qd:=I.qd
  fx:= .free rfl }
theorem ZjY (B:BlkC X scope cl N k fr) (hi:DI X ξ tg iter fi) (hg: ∀ C fp s H,DG (ZfR X scope cl N C fp s H) tg gt) (ht: ∀ C fp s H,DC (ZfR X scope cl N C fp s H) ifs c) (he: ∀ C fp s H,DE (ZfR X scope cl N C fp s H) E0 elt f)
  (hs: ∀ x,foldedSetIterable iter X.env x=pure x:=by intro _;rfl):DE X ξ (.ListComp elt [⟨tg,iter,ifs,0⟩] scope pos) (Zay fi k fr gt c f):=by
 obtain ⟨wi,pi,qi⟩:=hi
 refine ⟨fun σ H Q=> ∃ ρ α M,SR X.K H α σ ρ/\HR X.K H α M/\OP X.K H α ξ Q (Zay fi k fr gt c f ρ M),?_,fun σ ρ H α M Q s h q=>⟨ρ,α,M,s,h,q⟩⟩
 rintro pins s σ H Q I ⟨ρ,α,M,sr,hr,op⟩
 rw[eval_ListComp]
 refine wpAny_comprehension_free (use:=none) rfl hs B.clos B.kind B.names ?_
 refine thn (pi pins s σ H (fun J H2=> ∃ α2 M2 src,Ext X.K H H2 α α2/\HR X.K H2 α2 M2/\Zl3 X.K H2 α2 J src/\OP X.K H2 α2 ξ Q (match Zc4 src gt c f M2.length (cnt src M2) 0 (roB k fr ρ) (M2 ++ [.lst []]) with | .ok _ M2'=> .ok (.ref M2.length) M2' | _=> .bad)) I
  (qi σ ρ H α M _ sr hr (OG.seq op fun src M1 J H1 α1 e1 h1 r1 q1=>⟨α1,M1,src,e1,h1,r1,q1⟩))) fun v s1 w1=>thn w1 fun itv s2 w2=> ?_
 obtain ⟨it,fp,tn,J,H2,rfl,I2,T,st2,f2,α2,M2,src,e2,h2,sc,op2⟩:=w2
 have srI:=sr.mono e2
 refine wpAny_newObj_type ?_
 have I3:Inv X pins σ (upd H2 s2.heap.objs.size (.lst [])) { s2 with heap:=s2.heap.push { cls:= .type "list",data:= .seq ([]:List Value).toArray } }:=I2.lnew (its:=[]) (t':=s2.toks) .nil (Nat.zero_le _)
 have fD:H2 s2.heap.objs.size=none:=I2.fresh
 generalize hD:s2.heap.objs.size=D at I3 fD
 generalize hs3:({ s2 with heap:=s2.heap.push { cls:= .type "list",data:= .seq ([]:List Value).toArray } }:Shared)=s3 at I3
 generalize hH3:upd H2 D (.lst [])=H3 at I3
 have h3:HR X.K H3 (α2 ++ [D]) (M2 ++ [.lst []]):=by rw[<- hH3];exact h2.new fD .nil
 have e3:Ext X.K H2 H3 α2 (α2 ++ [D]):=by rw[<- hH3];exact Ext.new fD
 have aD:RefK H3 (α2 ++ [D]) 0 M2.length D:=⟨h2.last D,by first | exact Kn.lst Zt | (rw[<- hH3];exact Kn.lst Zt)⟩
 have lt2: ∀ b∈fp,b < s2.heap.objs.size:=fun b hb=>let ⟨o,e,_⟩:=T.obj _ _ st2 b hb;Heap.lt_size e
 have keep3: ∀ b o,s2.heap.get? b=some o->s3.heap.get? b=some o:=fun b o e=>by rw[<- hs3];exact Heap.get?_push_of_some _ e
 have f3: ∀ b∈fp,ZdK X pins H3 b:=fun b hb=>⟨by rw[<- hH3,ZE (by rw[<- hD];exact Nat.ne_of_lt (lt2 b hb))];exact (f2 b hb).1,(f2 b hb).2⟩
 have lt3: ∀ b∈fp,b < s3.heap.objs.size:=fun b hb=>let ⟨o,e,_⟩:=T.obj _ _ st2 b hb;Heap.lt_size (keep3 b o e)
 have st3:tn 0 s3.heap:=T.keep _ _ _ st2 fun b _ o e=>keep3 b o e
 refine Zik ?_
 have keep4: ∀ b o,s3.heap.get? b=some o->(pushCells (s3.heap.push { cls:= .type "dict",data:= .dict #[] }) scope.names).get? b=some o:=fun b o e=>pushCells_keeps _ _ b o (Heap.get?_push_of_some _ e)
 have I4:=ZjX B I3 f3 lt3
 generalize pushCells (s3.heap.push { cls:= .type "dict",data:= .dict #[] }) scope.names=h₁ at keep4 I4
 have st4:tn 0 h₁:=T.keep _ _ _ st3 fun b _ o e=>keep4 b o e
 have fp5: ∀ {H':Hp},(∀ b∈fp,H' b=none)-> ∀ b∈fp,ZdK (ZfR X scope cl N s3.heap.objs.size fp s3 H3) [] H' b:=fun hn b hb=>⟨hn b hb,Nat.ne_of_lt (lt3 b hb),(Zim B I3 f3 lt3).exfs b hb,.inl hb,fun x c h=>Zil B I3 f3 lt3 hb h,fun p hp=>(by simp[ZfR,blk] at hp)⟩
 cases er:Zc4 src gt c f M2.length (cnt src M2) 0 (roB k fr ρ) (M2 ++ [.lst []]) with
 |exc x M9=>rw[er] at op2;exact op2.elim
 |bad=>rw[er] at op2;exact op2.elim
 |ok u9 M9=>
  rw[er] at op2
  have loop:codeAny (model X.prog X.w) X.A (.compLoop (.ListComp elt [⟨tg,iter,ifs,0⟩] scope pos) 0 (.ref it) (.ref D) (compEnvC scope (cellsFrom (s3.heap.objs.size + 1) scope.names cl) s3.heap.objs.size X.env)) (compPost (model X.prog X.w) X.A X.xe none (EP X pins σ Q) (.ref D) s3.heap.objs.size) { s3 with heap:=h₁ }:=by
   refine Zel (Y:=ZfR X scope cl N s3.heap.objs.size fp s3 H3) T (fun _ _ z=>z) fp5 (hg _ fp s3 H3) (ht _ fp s3 H3) (he _ fp s3 H3) (fun i H' α' M' ex hr=>sc i H' α' M' (e3.trans ex) hr) aD I4 st4 (fun b hb=>(f3 b hb).1) ((srI.blk).mono e3) h3 er ?_
   intro σ5 H5 α5 s6 I6 ex5 hr5
   obtain ⟨m6,hm6,_⟩:=id I6.loc
   refine ⟨m6,hm6,fun h' sb=> ?_⟩
   have I7:Inv X pins σ H5 s6:=by
    refine I3.call' (s':=s6) (ch:=fp) I6.os I6.base I6.hok I6.bare fun b hb=> ?_
    obtain ⟨_,z1,z2,z3,z4,z5⟩:=f3 b hb
    exact ⟨z3,z1,z4,z5⟩
   have I8:Inv X pins σ H5 { s6 with heap:=h',toks:=s6.toks }:=I7.turned (it:=s3.heap.objs.size) (fun b o hb e=>(sb.2 b hb).trans e) I6.free (Nat.ne_of_gt I3.lt) (.inr I3.sz)
    (fun x c h z=>by
     obtain ⟨v,o,e,_⟩:=I3.cell x c h
     exact absurd (Heap.lt_size e) (by rw[z];exact Nat.lt_irrefl _)) (fun p hp z=>by
     have:=(I3.pin p hp).1
     exact absurd (Heap.lt_size this) (by rw[z];exact Nat.lt_irrefl _))
   exact ⟨.ref D,H5,I8,rfl,op2 _ H5 α5 (e3.trans ex5) hr5 (.ref (ex5.get aD))⟩
  exact codeAny_compStart_list loop (T.self X.A 0 _ _ _ st4 loop)
end
noncomputable def Zl6 (XN N:List Str) (dn sn:List (Str × NameKind)) (k:Nat) (fr:List Nat):Bool:=
 (sn.all fun y=>(y.2 != .free || dn.lookup y.1 == some .cell) && (y.2 != .local || sn.lookup y.1 == some .local)) && N.length == k + fr.length &&
  (List.range fr.length).all fun j=>match fr[j]? with
   |some i=>(match N[k + j]?,XN[i]? with | some x,some y=>x == y && dn.lookup x == some .cell && sn.lookup x == some .free && sn.all (fun y=> !(y.1 == x && y.2 == .cell)) | _,_=>false)
   |none=>false
theorem ZtQ {X:Cx} {scope:Scope} {N:List Str} {k:Nat} {fr:List Nat} {XN:List Str} {dn:List (Str × NameKind)} (hN:X.N=XN) (hd:X.env.scope.names=dn) (cel: ∀ x,dn.lookup x=some .cell-> ∃ c,X.env.cells.lookup x=some c) (hk:scope.kind= .function) (h:Zom XN N dn scope.names k fr=true):Blk X scope (clF scope X.env) N k fr:=by
 unfold Zom at h
 simp only[Bool.and_eq_true,List.all_eq_true,bne_iff_ne,ne_eq,Bool.or_eq_true,beq_iff_eq] at h
 obtain ⟨⟨h1,h2⟩,h3⟩:=h
 have kind: ∀ x,X.env.kindOf x=dn.lookup x:=fun x=>by rw[<- hd];rfl
 have frc: ∀ y∈scope.names,y.2= .free-> ∃ c,X.env.cells.lookup y.1=some c:=fun y hy e=>by
  rcases (h1 y hy).1.2 with z | z
  ·exact absurd e z
  ·exact cel _ z
 have sub: ∀ x c,(clF scope X.env).lookup x=some c->X.env.cells.lookup x=some c:=fun x c e=>by
  unfold clF at e
  rw[<- List.map_reverse] at e
  obtain ⟨e1,y,e2,e3⟩:=ZbU e
  have e4:=List.mem_filter.mp (List.mem_reverse.mp e2)
  obtain ⟨c',g⟩:=frc y e4.1 (by simpa using e4.2)
  rw[e3] at g
  rw[g] at e1 ⊢
  rw[e1]
  rfl
 have has: ∀ x,scope.names.lookup x=some .free-> ∃ c,(clF scope X.env).lookup x=some c:=fun x e=>by
  refine ZaW ?_
  have m:=PySem.mem_of_lookup e
  exact ⟨(x,(X.env.cells.lookup x).getD 0),List.mem_reverse.mpr (List.mem_map.mpr ⟨(x,.free),List.mem_filter.mpr ⟨m,by simp⟩,rfl⟩),rfl⟩
 refine ⟨?_,hk,fun y hy=>(h1 y hy).1.1,fun y hy e=> ?_,sub,fun x z=> ?_,h2,fun j i e=> ?_⟩
 ·have:=Zdu (env:=X.env) scope.names [] frc
  rw[List.append_nil] at this
  unfold closureFor
  exact (congrArg (fun (m:Sem (List (Str × Addr)))=>m >>= fun cs=>(pure cs:Sem (List (Str × Addr)))) this).trans (pure_bind _ _)
 ·rcases (h1 y hy).2 with z | z
  ·exact absurd e z
  ·exact z
 ·have nc: ∀ m,X.env.scope.names.lookup m=X.env.kindOf m:=fun m=>rfl
  refine has x ?_
  rcases z with z | z
  ·rcases ZN nc z with q | q
   ·exact absurd rfl (h1 _ (PySem.mem_of_lookup q)).1.1
   ·exact q.1
  ·rcases ZN nc z with q | q
   ·exact q
   ·cases q.2
 ·have hj:j < fr.length:=(List.getElem?_eq_some_iff.mp e).1
  have q:=h3 j (List.mem_range.mpr hj)
  rw[e] at q
  dsimp only at q
  cases e1:N[k + j]? with
  |none=>rw[e1] at q;cases q
  |some x=>
   cases e2:XN[i]? with
   |none=>rw[e1,e2] at q;cases q
   |some y=>
    rw[e1,e2] at q
    simp only[Bool.and_eq_true,beq_iff_eq] at q
    obtain ⟨⟨q1,q2⟩,q3⟩:=q
    subst q1
    obtain ⟨kd,r1,r2⟩:=ZaR (env:=X.env) q3
    obtain ⟨c,r3⟩:=has x q3
    refine ⟨x,rfl,by rw[hN];exact e2,by rw[kind];exact q2,?_,r3.trans (sub x c r3).symm⟩
    rcases r1 with r1 | r1
    ·exact .inl (r1 ▸ r2)
    ·exact .inr (r1 ▸ r2)
theorem ZqV {X:Cx} {scope:Scope} {N:List Str} {k:Nat} {fr:List Nat} {XN:List Str} {dn:List (Str × NameKind)} (hN:X.N=XN) (hd:X.env.scope.names=dn) (cel: ∀ x,dn.lookup x=some .cell-> ∃ c,X.env.cells.lookup x=some c) (hk:scope.kind= .function) (h:Zl6 XN N dn scope.names k fr=true):BlkC X scope (clF scope X.env) N k fr:=by
 unfold Zl6 at h
 simp only[Bool.and_eq_true,List.all_eq_true,bne_iff_ne,ne_eq,Bool.or_eq_true,beq_iff_eq] at h
 obtain ⟨⟨h1,h2⟩,h3⟩:=h
 have kind: ∀ x,X.env.kindOf x=dn.lookup x:=fun x=>by rw[<- hd];rfl
 have frc: ∀ y∈scope.names,y.2= .free-> ∃ c,X.env.cells.lookup y.1=some c:=fun y hy e=>by
  rcases (h1 y hy).1 with z | z
  ·exact absurd e z
  ·exact cel _ z
 have sub: ∀ x c,(clF scope X.env).lookup x=some c->X.env.cells.lookup x=some c:=fun x c e=>by
  unfold clF at e
  rw[<- List.map_reverse] at e
  obtain ⟨e1,y,e2,e3⟩:=ZbU e
  have e4:=List.mem_filter.mp (List.mem_reverse.mp e2)
  obtain ⟨c',g⟩:=frc y e4.1 (by simpa using e4.2)
  rw[e3] at g
  rw[g] at e1 ⊢
  rw[e1]
  rfl
 have has: ∀ x,scope.names.lookup x=some .free-> ∃ c,(clF scope X.env).lookup x=some c:=fun x e=>by
  refine ZaW ?_
  have m:=PySem.mem_of_lookup e
  exact ⟨(x,(X.env.cells.lookup x).getD 0),List.mem_reverse.mpr (List.mem_map.mpr ⟨(x,.free),List.mem_filter.mpr ⟨m,by simp⟩,rfl⟩),rfl⟩
 refine ⟨?_,hk,fun y hy e=> ?_,sub,fun n x z=> ?_,h2,fun j i e=> ?_⟩
 ·have:=Zdu (env:=X.env) scope.names [] frc
  rw[List.append_nil] at this
  unfold closureFor
  exact (congrArg (fun (m:Sem (List (Str × Addr)))=>m >>= fun cs=>(pure cs:Sem (List (Str × Addr)))) this).trans (pure_bind _ _)
 ·rcases (h1 y hy).2 with z | z
  ·exact absurd e z
  ·exact z
 ·have nc: ∀ m,X.env.scope.names.lookup m=X.env.kindOf m:=fun m=>rfl
  have own:scope.names.lookup x=some .cell-> ∃ c,(cellsFrom n scope.names (clF scope X.env)).lookup x=some c:=fun e=>Option.isSome_iff_exists.mp (PySem.W.cellsFrom_some scope.names n _ (.inl e))
  have oth:scope.names.lookup x=some .free-> ∃ c,(cellsFrom n scope.names (clF scope X.env)).lookup x=some c:=fun e=>by
   obtain ⟨c,hc⟩:=has x e
   exact Option.isSome_iff_exists.mp (PySem.W.cellsFrom_some scope.names n _ (.inr (by rw[hc];rfl)))
  rcases z with z | z
  ·rcases ZN nc z with q | q
   ·exact own q
   ·exact oth q.1
  ·rcases ZN nc z with q | q
   ·exact oth q
   ·cases q.2
 ·have hj:j < fr.length:=(List.getElem?_eq_some_iff.mp e).1
  have q:=h3 j (List.mem_range.mpr hj)
  rw[e] at q
  dsimp only at q
  cases e1:N[k + j]? with
  |none=>rw[e1] at q;cases q
  |some x=>
   cases e2:XN[i]? with
   |none=>rw[e1,e2] at q;cases q
   |some y=>
    rw[e1,e2] at q
    simp only[Bool.and_eq_true,beq_iff_eq] at q
    obtain ⟨⟨⟨q1,q2⟩,q3⟩,q4⟩:=q
    subst q1
    obtain ⟨kd,r1,r2⟩:=ZaR (env:=X.env) q3
    obtain ⟨c,r3⟩:=has x q3
    refine ⟨x,rfl,by rw[hN];exact e2,by rw[kind];exact q2,?_,r3.trans (sub x c r3).symm,fun hm=> ?_⟩
    ·rcases r1 with r1 | r1
     ·exact .inl (r1 ▸ r2)
     ·exact .inr (r1 ▸ r2)
    ·have:=List.all_eq_true.mp q4 _ hm
     simp at this
theorem ZqW {X:Cx} {scope:Scope} {N:List Str} {k n:Nat} {fr:List Nat} {XN:List Str} {dn:List (Str × NameKind)} (hN:X.N=XN) (hd:X.env.scope.names=dn) (hc:X.env.cells=cellsFrom n dn []) (hk:scope.kind= .function) (h:Zl6 XN N dn scope.names k fr=true):BlkC X scope (clF scope X.env) N k fr:=
 ZqV hN hd (fun x e=>by
  have:=PySem.W.cellsFrom_some dn n [] (.inl e)
  rw[hc]
  exact Option.isSome_iff_exists.mp this) hk h
noncomputable def ZqX (names dn:List (Str × NameKind)):List (Str × NameKind):=names.map fun (n,k)=>if (k == NameKind.free && dn.lookup n == some .cell) then (n,NameKind.cell) else (n,k)
theorem Zin {X:Cx} {scope:Scope} {dn:List (Str × NameKind)} (hd:X.env.scope.names=dn) (hk:X.env.scope.kind= .function):(relabel scope X.env).names=ZqX scope.names dn:=by
 unfold relabel ZqX
 rw[<- hd]
 show scope.names.map _=_
 apply List.map_congr_left
 rintro ⟨n,k⟩ _
 have e:(ScopeKind.function == ScopeKind.function)=true:=by decide
 simp only[hk,e,Bool.and_true]
 rfl
section
variable {X:Cx} {scope0:Scope} {cl0:List (Str × Addr)} {N0:List Str} {k0:Nat} {fr0:List Nat} {C:Addr} {fp:List Addr} {s:Shared} {H:Hp} {scope:Scope} {N:List Str} {k:Nat} {fr:List Nat} {dn:List (Str × NameKind)}
theorem ZqY (B0:BlkC X scope0 cl0 N0 k0 fr0) (hd:X.env.scope.names=dn) (hk0:X.env.scope.kind= .function) (hk:scope.kind= .function) (h:Zom N0 N (ZqX scope0.names dn) scope.names k fr=true):Blk (ZfR X scope0 cl0 N0 C fp s H) scope (clF scope (ZfR X scope0 cl0 N0 C fp s H).env) N k fr:=
 ZtQ rfl (Zin hd hk0) (fun x e=>B0.has _ x (.inl (by rw[Zin hd hk0];exact e))) hk h
end
theorem ZjZ {X:Cx} {ξ:XK} {tg iter elt:Expr} {ifs:List Expr} {scope:Scope} {cl:List (Str × Addr)} {N:List Str} {k:Nat} {fr:List Nat} {fi:Ro->Sto->Out Src} {gt:Tg} {c:Tv} {f:Ev} {pos:Pos} (B:BlkC X scope cl N k fr) (hi:DI X ξ tg iter fi) (hg: ∀ C fp s H,DG (ZfR X scope cl N C fp s H) tg gt) (ht: ∀ C fp s H,DC (ZfR X scope cl N C fp s H) ifs c) (he:BlkC X scope cl N k fr-> ∀ C fp s H,DE (ZfR X scope cl N C fp s H) E0 elt f)
  (hs: ∀ x,foldedSetIterable iter X.env x=pure x:=by intro _;rfl):DE X ξ (.ListComp elt [⟨tg,iter,ifs,0⟩] scope pos) (Zay fi k fr gt c f):=ZjY B hi hg ht (he B) hs
end DL
end
section
namespace DL
open PySem PySem.Spec PyProof.Rows L2
open PySem.W (nsIn excIn tailIn nsOkIn mroIn clsIn typeIn findIn specialIn takesIn kitOne Looks)
noncomputable abbrev bmV:List Value:=[.type "ValueError",.type "Exception",.type "BaseException",.type "object"]
noncomputable def ZcE (K:PySem.W.Frag) (c:Str):Option Addr:=match nsIn K mainGlobals c with | some (some (.ref C))=>some C | _=>none
theorem Zen {K:PySem.W.Frag} {c:Str} {C:Addr} (h:ZcE K c=some C):nsIn K mainGlobals c=some (some (.ref C)):=by
 unfold ZcE at h
 split at h
 ·rename_i C' e;cases h;exact e
 ·cases h
noncomputable def ZfS (K:PySem.W.Frag) (c:Str):Bool:=match ZcE K c with
 |some C=>excIn K C bmV "ValueError.__new__" && findIn K (.ref C) "__getattribute__" == some (some (.builtin "BaseException.__getattribute__")) && findIn K (.ref C) "__getattr__" == some none && findIn K (.ref C) "__class__" == some (some (.builtin "object.__class__")) &&
  specialIn K (.builtin "object.__class__") "__get__" == some (some (.builtin "getset_descriptor.__get__")) && takesIn K (.builtin "object.__class__") == some true && mroIn K C (.type "BaseException") == some true && mroIn K C (.type "object") == some true && (clsIn K C).isSome
 |none=>false
theorem Zio {K:PySem.W.Frag} {c:Str} (h:ZfS K c=true): ∃ C,nsIn K mainGlobals c=some (some (.ref C))/\excIn K C bmV "ValueError.__new__"=true/\DQ.ExcC K C:=by
 unfold ZfS at h
 split at h
 ·rename_i C e
  simp only[Bool.and_eq_true,beq_iff_eq] at h
  obtain ⟨⟨⟨⟨⟨⟨⟨⟨h1,h2⟩,h3⟩,h4⟩,h5⟩,h6⟩,h7⟩,h8⟩,h9⟩:=h
  exact ⟨C,Zen e,h1,h2,h3,h4,h5,h6,h7,h8,h9⟩
 ·cases h
theorem Zl7 {K:PySem.W.Frag} {h:Heap} {C:Addr} {bmB:List Value} {newId:String} (X:K.In h) (q:excIn K C bmB newId=true):
  ∃ bm N nm q bs hdct sn sub ab col dd k0 k1 k2 k3 k5 mN,h.get? C=some (excClassObj nm q C N bs bm hdct sn sub ab col dd k0 k1 k2 k3 k5 newId)/\h.Ns N mN/\mN "__init__"=none/\OwnTail h bmB bm:=by
 unfold excIn at q
 split at q
 ·rename_i dd cd sl ho
  split at q
  ·rename_i C' bm k0 k1 k2 k3 n k5 hm hs
   simp only[Bool.and_eq_true,beq_iff_eq,Bool.not_eq_true'] at q
   obtain ⟨⟨⟨⟨⟨rfl,rfl⟩,hdel⟩,ht⟩,hok⟩,hni⟩:=q
   obtain ⟨nm,bs,mro,ns,qn,hd,sn,sub,ab,col,del⟩:=cd
   dsimp only at hm hdel hok hni
   subst hm hdel
   obtain ⟨l⟩:=sl
   simp only at hs
   subst hs
   exact ⟨bm,ns,nm,qn,bs,hd,sn,sub,ab,col,dd,k0,k1,k2,k3,k5,_,X _ _ ho,.of_isNs (PySem.W.isNs_of_in X hok),PySem.W.nsMap_none_of_in X hok hni,PySem.W.tail_of_in X ht⟩
  ·cases q
 ·cases q
noncomputable def Zah (K:PySem.W.Frag) (d:Str) (tab:List (Str × Bool)):Bool:=match ZcE K d with
 |some D=>tab.all fun p=>ZfS K p.1 && (match ZcE K p.1 with | some C=>kitOne K (.ref C) (.ref D) == some p.2 | none=>false)
 |none=>false
noncomputable def Zip (K:PySem.W.Frag) (T:String) (tab:List (Str × Bool)):Bool:=tab.all fun p=>ZfS K p.1 && (match ZcE K p.1 with | some C=>kitOne K (.ref C) (.type T) == some p.2 | none=>false)
noncomputable def ZgK (K:PySem.W.Frag) (d:Str) (cs:List Str):Bool:=match ZcE K d with
 |some D=>mroIn K D (.type "BaseException") == some true && typeIn K (.ref D) == some (.type "type") && (clsIn K D).isSome && cs.all fun c=>ZfS K c && (match ZcE K c with | some C=>mroIn K C (.ref D) == some true | none=>false)
 |none=>false
theorem ZgL {K:PySem.W.Frag} {c:Str} {C:Addr} (h:nsIn K mainGlobals c=some (some (.ref C))):ZcE K c=some C:=by
 unfold ZcE
 rw[h]
theorem Zl8 {α:Type} {tab:List (Str × α)} {c:Str} {b:α} (h:tab.lookup c=some b):(c,b)∈tab:=PySem.mem_of_lookup h
noncomputable def ZcF (tab:List (Str × Bool)) (f:Ev):Ev:=fun ρ M=>(f ρ M).bind fun x M1=>match x with | .err c _=>(match tab.lookup c with | some b=> .ok (.bl b) M1 | none=> .bad) | _=> .bad
section
variable {X:Cx} {ξ:XK} {e:Expr} {fa:Ev} {p pos:Pos} {tab:List (Str × Bool)}
noncomputable def ZtR (X:Cx) (cv2:V) (tab:List (Str × Bool)):List V->Hp->VK->Prop:=fun vs H Q=> ∃ (q:Addr) (C:Addr) (c:Str) (xs:List V) (b:Bool),vs=[.ref q,cv2]/\EOk H q C xs/\nsIn X.K mainGlobals c=some (some (.ref C))/\tab.lookup c=some b/\Q (.bl b) H
theorem Zl9 {H:Hp} {pins:List (Addr × Obj)} {σ:L2.St} {s:Shared} {q C:Addr} {xs:List V} (I:Inv X pins σ H s) (h:EOk H q C xs): ∃ oe od,PySem.W.InstAt s.heap q oe C od:=by
 obtain ⟨oe,u,vs,h1,h2,h3,h4,h5⟩:=h
 have g:=(I.hok q _ h1).1
 have nc:PySem.W.notCls oe=true:=by unfold PySem.W.notCls;rw[h3]
 rcases h5 with ⟨_,h5⟩ | ⟨dx,fs,k1,k2,k3⟩
 ·exact ⟨oe,none,g,h2,nc,by rw[h5];trivial⟩
 ·obtain ⟨o,he⟩:=Zei (I.hok _ _ k2)
  exact ⟨oe,some o,g,h2,nc,by rw[k1];exact he⟩
theorem Zj0 {cv:Value} {cv2:V} (hv: ∀ w,Z9 cv2 w->w=cv) (ht: ∀ c b C,tab.lookup c=some b->nsIn X.K mainGlobals c=some (some (.ref C))->DQ.ExcC X.K C/\kitOne X.K (.ref C) cv=some b):Zb6 X (.builtin "isinstance") (ZtR X cv2 tab):=by
 intro pins s σ H vs us Q I rs ⟨q,C,c,xs,b,e1,h1,h2,h3,h4⟩
 subst e1
 obtain ⟨u,w,rfl,ru,rw'⟩:=ZhI rs
 cases (show u=Value.ref q from ru)
 cases hv w rw'
 obtain ⟨oe,od,J⟩:=Zl9 I h1
 obtain ⟨k1,k2⟩:=ht c b C h3 h2
 exact PySem.W.kia_one (DQ.ZjG k1) I.kIn J k2 (fun z=>nomatch z) fun tk=>⟨.bl b,H,I.tok tk,rfl,h4⟩
theorem Zk1 {K:PySem.W.Frag} {cv:Value} (h: ∀ p∈tab,ZfS K p.1=true/\ ∃ C,ZcE K p.1=some C/\kitOne K (.ref C) cv=some p.2): ∀ c b C,tab.lookup c=some b->nsIn K mainGlobals c=some (some (.ref C))->DQ.ExcC K C/\kitOne K (.ref C) cv=some b:=by
 intro c b C h1 h2
 obtain ⟨h3,C',h4,h5⟩:=h (c,b) (Zl8 h1)
 obtain ⟨C'',h6,_,h7⟩:=Zio h3
 rw[h2] at h6
 cases h6
 rw[ZgL h2] at h4
 cases h4
 exact ⟨h7,h5⟩
theorem Ziq {ty:Expr} {cv:Value} {cv2:V} (hv: ∀ w,Z9 cv2 w->w=cv) (ht: ∀ c b C,tab.lookup c=some b->nsIn X.K mainGlobals c=some (some (.ref C))->DQ.ExcC X.K C/\kitOne X.K (.ref C) cv=some b) (hty:PE X ty (tC cv2)) (hm:X.mg "isinstance"=none) (ha:DE X ξ e fa) (hg:Gl X "isinstance":=by rfl)
  (he:starEach [e,ty] X.env=(false,eval e X.env) :: starEach [ty] X.env:=by rfl) (he2:starEach [ty] X.env=(false,eval ty X.env) :: starEach [] X.env:=by rfl) (hpl:(backTo pos (starEach [ty] X.env)).any (·.1)=false:=by rfl):DE X ξ (.Call (.Name "isinstance" p) [e,ty] [] pos) (ZcF tab fa):=by
 obtain ⟨ta,ha,qa⟩:=ha
 refine ⟨_,Zee (Zj0 hv ht) hg hm (by with_unfolding_all rfl) (Zdg ha (Zdg hty ZhK he2) he) (by decide) (by decide) he hpl,fun σ ρ H α M Q s h q=> ?_⟩
 refine qa σ ρ H α M _ s h (OG.seq q fun x M1 v H1 α1 e1 h1 r1 q1=> ?_)
 cases r1 with
 | @err q C c xs ds k1 k2 k3=>
  cases et:tab.lookup c with
  |none=>simp only[et] at q1;exact q1.elim
  |some b=>
   simp only[et] at q1
   exact ⟨q,C,c,xs,b,rfl,k2,k1,et,q1 _ H1 α1 Ext.refl h1 (.bl _)⟩
 |_=>exact q1.elim
theorem Zba {y:Str} {p2:Pos} (ht:Zah X.K y tab=true) (gl: ∀ c v,nsIn X.K mainGlobals c=some (some v)->X.mg c=some v) (hm:X.mg "isinstance"=none) (ha:DE X ξ e fa) (hg:Gl X "isinstance":=by rfl) (hgT:Gl X y:=by rfl) (hdb:(y == ("__debug__":Str))=false:=by decide)
  (he:starEach [e,.Name y p2] X.env=(false,eval e X.env) :: starEach [.Name y p2] X.env:=by rfl) (he2:starEach [.Name y p2] X.env=(false,eval (.Name y p2) X.env) :: starEach [] X.env:=by rfl) (hpl:(backTo pos (starEach [.Name y p2] X.env)).any (·.1)=false:=by rfl):DE X ξ (.Call (.Name "isinstance" p) [e,.Name y p2] [] pos) (ZcF tab fa):=by
 unfold Zah at ht
 split at ht
 ·rename_i D hD
  refine Ziq (cv:= .ref D) (cv2:= .ref D) (fun w z=>z) (Zk1 fun q hq=> ?_) (ZhD hgT (gl y _ (Zen hD)) rfl hdb) hm ha hg he he2 hpl
  have z:=List.all_eq_true.mp ht q hq
  rw[Bool.and_eq_true] at z
  refine ⟨z.1,?_⟩
  cases hc:ZcE X.K q.1 with
  |none=>rw[hc] at z;cases z.2
  |some C=>rw[hc] at z;exact ⟨C,rfl,beq_iff_eq.mp z.2⟩
 ·cases ht
theorem Zop {y:Str} {T:String} {p2:Pos} (ht:Zip X.K T tab=true) (hm:X.mg "isinstance"=none) (hmT:X.mg y=none) (hvT:bootBuiltins y=some (.type T)) (ha:DE X ξ e fa) (hg:Gl X "isinstance":=by rfl) (hgT:Gl X y:=by rfl) (hn:y≠"__name__":=by decide) (hdb:(y == ("__debug__":Str))=false:=by decide)
  (he:starEach [e,.Name y p2] X.env=(false,eval e X.env) :: starEach [.Name y p2] X.env:=by rfl) (he2:starEach [.Name y p2] X.env=(false,eval (.Name y p2) X.env) :: starEach [] X.env:=by rfl) (hpl:(backTo pos (starEach [.Name y p2] X.env)).any (·.1)=false:=by rfl):DE X ξ (.Call (.Name "isinstance" p) [e,.Name y p2] [] pos) (ZcF tab fa):=by
 refine Ziq (cv:= .type T) (cv2:= .ty T) (fun w z=>z) (Zk1 fun q hq=> ?_) (ZhE hgT hmT hvT (v:= .ty T) rfl hn hdb) hm ha hg he he2 hpl
 have z:=List.all_eq_true.mp ht q hq
 rw[Bool.and_eq_true] at z
 refine ⟨z.1,?_⟩
 cases hc:ZcE X.K q.1 with
 |none=>rw[hc] at z;cases z.2
 |some C=>rw[hc] at z;exact ⟨C,rfl,beq_iff_eq.mp z.2⟩
theorem Zeo:bootBuiltins "ValueError"=some (.type "ValueError"):=by decide +kernel
noncomputable def ZbH (c:Str) (fs:Av):Sv:=fun ρ M=>ZaU (fs ρ M) fun ds M1=>if ds.length<=1000 then .exc c M1 else .bad
theorem ZbV {x:Str} {np cpos:Pos} {a:Expr} {as:List Expr} {fs:Av} (T:Thr X ξ) (hx:ZfS X.K x=true) (gl: ∀ c v,nsIn X.K mainGlobals c=some (some v)->X.mg c=some v) (hh:X.A.handled=none) (ha:DA X ξ (a :: as) fs) (hg:Gl X x:=by rfl) (hdb:(x == ("__debug__":Str))=false:=by decide)
  (he:starEach (a :: as) X.env=(false,eval a X.env) :: starEach as X.env:=by rfl) (hpl:(backTo cpos (starEach as X.env)).any (·.1)=false:=by rfl):DS X ξ (.Raise (some (.Call (.Name x np) (a :: as) [] cpos)) none pos) (ZbH x fs):=by
 obtain ⟨ta,pa,qa⟩:=ha
 obtain ⟨C,hC,hq,_⟩:=Zio hx
 refine ⟨fun Dn σ H=>ta σ H fun vs H1=>vs.length<=sizeLine/\ξ (.ref C) none H1,fun pins s σ H Dn I h=> ?_,fun σ ρ H α M Dn s h q=> ?_⟩
 ·obtain ⟨tl,N,nm,q,bs,hdct,sn,sub,ab,col,dd,k0,k1,k2,k3,k5,mN,gC,hN,hni,TL⟩:=Zl7 I.ok.mod.kin hq
  refine wpAny_Raise_call_subT (C:=C) (nm:=nm) (q:=q) (N:=N) (bs:=bs) (bm:=tl) (hdct:=hdct) (sn:=sn) (sub:=sub) (ab:=ab) (col:=col) (dd:=dd) (k0:=k0) (k1:=k1) (k2:=k2) (k3:=k3) (k5:=k5) F.excBase_ValueError (mN:=mN)
   (TL.hasType F.excBase_ValueError.hasBase) hh (by rw[he];show (false || (backTo cpos (starEach as X.env)).any (·.1))=false;rw[hpl];rfl) hni (ZfI I hg (gl x _ hC) ⟨rfl,?_⟩ hdb)
  have hs:=pa cpos pins s σ H _ I h
  rw[he] at hs ⊢
  refine Calls.evalArgs_plain (wpAny_mono hs (fun us s2 ⟨vs,H1,I1,r1,z1,z2⟩=>⟨rfl,by rw[<- r1.length];exact z1,I1.bk _ _ gC,hN.keeps I1.bk,TL.keeps I1.bk,fun h' e m=> ?_⟩) fun _ _ y=>y)
  obtain ⟨t,g1,g2,g3⟩:=m.there
  exact T.mak pins σ H1 s2 h' e _ _ C I1 m.keeps m.new g1 rfl rfl rfl rfl rfl z2
 ·refine qa σ ρ H α M _ s h (FP.seq q fun ds M1 vs H1 α1 e1 h1 r1 w1=> ?_)
  by_cases hl:ds.length<=1000
  ·rw[if_pos hl] at w1
   exact ⟨by rw[r1.length];exact ZlW hl,w1 C H1 α1 hC Ext.refl h1⟩
  ·rw[if_neg hl] at w1
   exact w1.elim
end
end DL
end
section
namespace DL
open PySem PySem.Spec PyProof.Rows L2
open PySem.W (nsIn excIn tailIn nsOkIn mroIn clsIn typeIn findIn specialIn takesIn kitOne Looks looks_mroIn looks_typeIn)
theorem Zir {K:PySem.W.Frag} {e C D:Addr} {oe:Obj} {od:Option Obj} {b:Bool} {prog:Program} {w:World} {A:Around} {E:Value->Shared->Prop} {s:Shared} {Q:Bool->Shared->Prop} (X:K.In s.heap) (I:PySem.W.InstAt s.heap e oe C od)
  (hD:typeIn K (.ref D)=some (.type "type")) (hi:(clsIn K D).isSome=true) (hb:mroIn K D (.type "BaseException")=some true) (hm:mroIn K C (.ref D)=some b) (h:Q b s):wpAny (model prog w) A (excMatches (.ref e) (.ref D)) Q E s:=by
 obtain ⟨hh,g,d,tk,os⟩:=s
 have L0:=I.type (M:=model prog w)
 have L1:=looks_typeIn (M:=model prog w) X hD
 have L2:Looks (model prog w) hh (isInstance (.ref D) (.type "tuple")) false:=L1.andThen (Looks.of_pure tc_notTuple)
 have L3:Looks (model prog w) hh (isType (.ref D)) true:=by
  obtain ⟨cd,hc⟩:=Option.isSome_iff_exists.mp hi
  unfold clsIn at hc
  split at hc
  ·rename_i o1 o2 o3 o4 ho
   intro A' Q' E' s' k q
   unfold isType loadHead
   exact wpAny_bind (wpAny_loadPart (k _ _ (X _ _ ho)) (wpAny_pure q))
  ·cases hc
 have L4:=looks_mroIn (M:=model prog w) X hb
 have L5:=looks_mroIn (M:=model prog w) X hm
 have L6:Looks (model prog w) hh (isExcClass (.ref D)) true:=L3.andThen (by simpa using L4)
 unfold excMatches
 refine wpAny_bind (L2.at ?_)
 simp only[Bool.false_eq_true,if_false]
 refine wpAny_bind (m:=forIn [Value.ref D] _ _) ?_
 rw[List.forIn_cons]
 refine wpAny_bind (wpAny_bind (L6.at ?_))
 simp only[Bool.not_true,Bool.false_eq_true,if_false]
 refine wpAny_pure ?_
 dsimp only
 rw[List.forIn_nil]
 refine wpAny_pure (wpAny_bind (L0.at (wpAny_bind ?_)))
 rw[List.forIn_cons]
 refine wpAny_bind (wpAny_bind (L5.at ?_))
 cases b with
 |true=>exact wpAny_pure (wpAny_pure (wpAny_pure h))
 |false=>
  simp only[Bool.false_eq_true,if_false]
  refine wpAny_pure ?_
  dsimp only
  rw[List.forIn_nil]
  exact wpAny_pure (wpAny_pure h)
noncomputable def Cx.han (X:Cx) (e:Addr):Cx:={ X with A:=X.A.mark (some (.ref e)),calm:=false,xe:=fun _ _=>False }
noncomputable def Cx.tri (X:Cx) (pn:List (Addr × Obj)) (xe:Value->Shared->Prop) (W:List Bool) (σ:L2.St):Cx:={ X with pn:=pn,xe:=xe,fxs:=some (W,σ) }
theorem Zis {j k:Nat} {A:Around} {v:Value} (r:Room k A) (h:j<=k) (hj:j < 100):Room j (A.mark (some v)):=⟨fun z=>absurd z (Nat.not_le_of_lt hj),r.gd,(r.mono h).dp,(r.mono h).un⟩
theorem Zma {X:Cx} {e:Addr}:Thr (Cx.han X e) E0:=⟨PassesOwn.never,fun _ _ _ _ _ _ _ ⟨_,_,_,_,_,_,_,_,_,_,_,_,_,q⟩=>q,fun _ _ _ _ _ _ _ _ _ _ _ _ _ _ _ _ _ _ q=>q⟩
section
variable {X:Cx} {pins pins' pn:List (Addr × Obj)} {σ:L2.St} {H H':Hp} {s:Shared} {xe:Value->Shared->Prop} {e:Addr}
theorem Zoq (ok:X.Ok):(Cx.han X e).Ok:=
 ⟨ok.mod,ok.kind,ok.glob,ok.blt,ok.above,ok.inj,ok.has,ok.cab,fun z=>(by cases z),ok.frames,ok.stk,ok.exf,ok.bs,ok.bsz,ok.noex,ok.exfs,ok.funs,ok.frf⟩
theorem Zj1 (ok:(Cx.han X e).Ok) (hh:X.A.handled=none):X.Ok:=
 ⟨ok.mod,ok.kind,ok.glob,ok.blt,ok.above,ok.inj,ok.has,ok.cab,fun _=>hh,ok.frames,ok.stk,ok.exf,ok.bs,ok.bsz,ok.noex,ok.exfs,ok.funs,ok.frf⟩
theorem Zor {W:List Bool} (ok:X.Ok):(Cx.tri X pn xe W σ).Ok:=
 ⟨ok.mod,ok.kind,ok.glob,ok.blt,ok.above,ok.inj,ok.has,ok.cab,ok.hd,ok.frames,ok.stk,ok.exf,ok.bs,ok.bsz,ok.noex,ok.exfs,ok.funs,ok.frf⟩
theorem Zj2 {W:List Bool} (ok:(Cx.tri X pn xe W σ).Ok):X.Ok:=
 ⟨ok.mod,ok.kind,ok.glob,ok.blt,ok.above,ok.inj,ok.has,ok.cab,ok.hd,ok.frames,ok.stk,ok.exf,ok.bs,ok.bsz,ok.noex,ok.exfs,ok.funs,ok.frf⟩
theorem Zmb (I:Inv X pins σ H s) (q:Qd (X.A.mark (some (.ref e))) H):Inv (Cx.han X e) pins σ H s:=⟨Zoq I.ok,I.os,I.bare,I.base,I.loc,I.cell,I.free,I.freeC,I.pin,I.hok,I.len,q,I.fx⟩
theorem Ze8 (I:Inv (Cx.han X e) pins σ H s) (hh:X.A.handled=none):Inv X pins σ H s:=⟨Zj1 I.ok hh,I.os,I.bare,I.base,I.loc,I.cell,I.free,I.freeC,I.pin,I.hok,I.len,.inl hh,I.fx⟩
theorem Zmc {W:List Bool} (I:Inv X pins σ H s):Inv (Cx.tri X (X.pn ++ pins) xe W σ) [] σ H s:=⟨Zor I.ok,I.os,I.bare,I.base,I.loc,I.cell,I.free,I.freeC,fun p hp=>I.pin p (by rw[List.append_nil] at hp;exact hp),I.hok,I.len,I.qd,fun W' σ0 e j _=>by cases e;rfl⟩
theorem Zbq {W:List Bool} {σ0:L2.St} (hx:X.fxs=none) (I:Inv (Cx.tri X (X.pn ++ pins) xe W σ0) pins' σ H s):Inv X pins σ H s:=⟨Zj2 I.ok,I.os,I.bare,I.base,I.loc,I.cell,I.free,I.freeC,fun p hp=>I.pin p (List.mem_append_left _ hp),I.hok,I.len,I.qd,.free hx⟩
theorem Ze9 (fxn:X.fxs=none) (I:Inv X pins σ H s) {h':Heap} {m':Str->Option Value} {t:Nat} (hn:h'.Ns X.env.locals m') (hs:Heap.SameBut X.env.locals s.heap h'):Inv X pins (List.replicate X.N.length none) H { s with heap:=h',toks:=t }:=by
 obtain ⟨m,⟨oL,es,ep,hoL,hdL,r⟩,hl⟩:=id I.loc
 have neL: ∀ b o,X.s₀.heap.get? b=some o->b≠X.env.locals:=fun b o x=>Nat.ne_of_lt (Nat.lt_of_lt_of_le (Heap.lt_size x) I.ok.above)
 refine ⟨I.ok,I.os,I.bare,⟨fun b o x n hb hx=>(hs.2 b (neL b o x)).trans (I.base.keep b o x n hb hx),fun b o x n hb hx=> ?_,I.base.free,fun b o x hx=> ?_,I.base.tups,I.base.frzs,I.base.tbls⟩,⟨m',hn,fun i x v e1 e2 e3=> ?_⟩,fun x c z=> ?_,I.free,I.freeC,fun p hp=> ?_,fun b u z=> ?_,?_,I.qd,.free fxn⟩
 ·obtain ⟨sl,z⟩:=I.base.slot b o x n hb hx
  exact ⟨sl,(hs.2 b (neL b o x)).trans z⟩
 ·obtain ⟨o',z⟩:=I.base.there b o x hx
  exact ⟨o',(hs.2 b (neL b o x)).trans z⟩
 ·rw[List.getElem?_replicate] at e2
  split at e2<;>cases e2
 ·obtain ⟨v,q⟩:=I.cell x c z
  exact ⟨v,q.sameBut hs (I.cne x c z)⟩
 ·obtain ⟨g1,g2,g3,g4,g5⟩:=I.pin p hp
  exact ⟨(hs.2 p.1 g3).trans g1,g2,g3,g4,g5⟩
 ·refine (I.hok b u z).stay (fun c w' hc q=>(hs.2 c ?_).trans q) (fun _ q=>q) fun _ _ q=>q
  rintro rfl
  rcases hc with rfl | hc
  ·rw[I.free] at z;cases z
  ·rw[I.free] at hc;cases hc
 ·rw[List.length_replicate]
theorem Zit (I:Inv X pins σ H s) {a:Addr} {o:Obj} {vs:Array Value} (hn:H a=none) (he:s.heap.get? a=some o) (hd:o.data= .fields vs) (h0:X.s₀.heap.get? a=none) (hp: ∀ p∈X.pn ++ pins,p.1≠a):Inv X pins σ (upd H a (.frz o (.own 0))) s:=by
 have ne: ∀ b u,H b=some u->b≠a:=fun b u z q=>by rw[q,hn] at z;cases z
 refine ⟨I.ok,I.os,I.bare,⟨I.base.keep,I.base.slot,fun b o' x n hx=> ?_,I.base.there,fun b xs x=> ?_,fun b o' u x=> ?_,fun b ps x=> ?_⟩,I.loc,I.cell,?_,fun x c z=> ?_,fun p hp'=> ?_,fun b u z=> ?_,I.len,I.qd.mono fun b o' u x=> ?_,I.fx⟩
 ·rw[ZE (fun z=>by rw[z,h0] at x;cases x)]
  exact I.base.free b o' x n hx
 ·have:=I.base.tups b xs x
  rw[ZE (ne b _ this)];exact this
 ·have:=I.base.frzs b o' u x
  rw[ZE (ne b _ this)];exact this
 ·obtain ⟨m1,z⟩:=I.base.tbls b ps x
  exact ⟨m1,by rw[ZE (ne b _ z)];exact z⟩
 ·rw[ZE (fun z=> ?_)]
  ·exact I.free
  ·obtain ⟨m,⟨oL,es,ep,hoL,hdL,r⟩,_⟩:=I.loc
   rw[z,he] at hoL
   cases hoL
   rw[hd] at hdL
   cases hdL
 ·rw[ZE (fun q=> ?_)]
  ·exact I.freeC x c z
  ·obtain ⟨v,oc,g1,g2⟩:=I.cell x c z
   rw[q,he] at g1
   cases g1
   rw[hd] at g2
   cases g2
 ·obtain ⟨g1,g2,g3,g4,g5⟩:=I.pin p hp'
  exact ⟨g1,by rw[ZE (hp p hp')];exact g2,g3,g4,g5⟩
 ·by_cases hb:b=a
  ·subst hb
   rw[Zt] at z
   cases z
   exact ⟨he,⟨o,he⟩⟩
  ·rw[ZE hb] at z
   exact (I.hok b u z).stay (fun _ _ _ q=>q) (fun c q=>by rw[ZE (ne c _ q)];exact q) fun c xs q=>by rw[ZE (ne c _ q)];exact q
 ·rw[ZE (ne b _ x)];exact x
theorem Zmd {h1 h2 B:Heap} (I:Inv X pins σ H s) (u:Un (frs X.stack) [] H H' s.heap h1) (hok:HOk X.prog X.w H' h1) (t1: ∀ b q,H' b=some q-> ∃ o,B.get? b=some o) (t2: ∀ b o,s.heap.get? b=some o->b ∉ frs X.stack-> ∃ o',B.get? b=some o')
  (st1:B.StaysIn h1) (st2:B.StaysIn h2) (up:h1.UpToSlots h2):Un (frs X.stack) [] H H' s.heap h2/\HOk X.prog X.w H' h2:=by
 have kB: ∀ b ob o,B.get? b=some ob->h1.get? b=some o->h2.get? b=some o:=fun b ob o e x=>by
  have z:=st1 b ob e
  rw[x] at z
  cases z
  exact st2 b _ e
 have sl: ∀ b o,s.heap.get? b=some o->H b=none->b∈frs X.stack-> ∃ sl,h2.get? b=some { o with slots:=sl }:=fun b o x n hb=>by
  obtain ⟨s2,e2⟩:=u.any x n (by simp)
  obtain ⟨_,o',g1,g2⟩:=I.stack.mem hb
  rw[x] at g1
  cases g1
  obtain ⟨s3,e3⟩:=up b _ e2 g2
  exact ⟨s3,e3⟩
 refine ⟨⟨fun b o x n hb _=> ?_,fun b o x n hb _=>sl b o x n hb,u.free,fun b o x _=> ?_,u.tups,u.frzs,u.tbls⟩,fun a o x=> ?_⟩
 ·obtain ⟨ob,g⟩:=t2 b o x hb
  exact kB b ob o g (u.keep b o x n hb (by simp))
 ·by_cases hb:b∈frs X.stack
  ·obtain ⟨s1,e1⟩:=sl b o x (I.stkFree b hb) hb
   exact ⟨_,e1⟩
  ·obtain ⟨ob,g⟩:=t2 b o x hb
   exact ⟨ob,st2 b ob g⟩
 ·refine (hok a o x).stay (fun b q hb y=> ?_) (fun _ q=>q) fun _ _ q=>q
  have tr: ∃ q,H' b=some q:=by
   rcases hb with z | z
   ·exact ⟨o,z ▸ x⟩
   ·exact ⟨_,z⟩
  obtain ⟨q',z⟩:=tr
  obtain ⟨ob,g⟩:=t1 b q' z
  exact kB b ob q g y
end
theorem Zha {M:Model} {A:Around} {E:Value->Shared->Prop} {s:Shared} {B:Heap} {env:Env} {outer:List Env} {L e:Addr} {oe:Obj} {vs:Array Value} {Q:Unit->Shared->Prop} (hfr:A.frames=some (env :: outer)) (hf:env.frame=some L) (hl:s.heap.FunFrames B (env :: outer)) (he:s.heap.get? e=some oe) (hs:B.StaysIn s.heap) (hb:B.get? e=none) (hd:oe.data= .fields vs) (h1:vs[1]?=some .none) (h2:vs[2]?=some .none)
  (h: ∀ h',DQ.Fly B (env :: outer) e oe.cls oe.dict (rawInt L) h'->s.heap.UpToSlots h'->Q () { s with heap:=h' }):wpAny M A (noteFrame (.ref e) env) Q E s:=by
 unfold noteFrame
 simp only[hf]
 refine wpAny_bind (wpAny_field he hd h1 ?_)
 rw[if_neg (by decide)]
 exact DQ.Zdk hfr hl hf he hs hb hd (Array.getElem?_eq_some_iff.mp h2).1 h2 h
noncomputable def kpR:List Bool->Ro->Ro
 |b :: m,x :: r=>(bif b then none else x) :: kpR m r
 |_,[]=>[]
 | [],_ :: r=>none :: kpR [] r
theorem ZfT: ∀ (W:List Bool) (ρ:Ro),(kpR W ρ).length=ρ.length
 | [],[]=>rfl
 |_ :: _,[]=>rfl
 | [],_ :: r=>by rw[kpR,List.length_cons,List.length_cons,ZfT [] r]
 |_ :: m,_ :: r=>by rw[kpR,List.length_cons,List.length_cons,ZfT m r]
theorem Ziu: ∀ (W:List Bool) (ρ:Ro) (j:Nat) (d:D),(kpR W ρ)[j]?=some (some d)->W[j]?=some false/\ρ[j]?=some (some d)
 | [],[],_,_,h=>by simp[kpR] at h
 |_ :: _,[],_,_,h=>by simp[kpR] at h
 | [],_ :: r,0,_,h=>by simp[kpR] at h
 | [],x :: r,j + 1,d,h=>by
  have:=Ziu [] r j d (by simpa [kpR] using h)
  simp at this
 |b :: m,x :: r,0,d,h=>by
  cases b with
  |true=>simp[kpR] at h
  |false=>exact ⟨rfl,by simpa [kpR] using h⟩
 |b :: m,x :: r,j + 1,d,h=>by
  have:=Ziu m r j d (by simpa [kpR] using h)
  simpa using this
noncomputable def Zme (gb:Sv) (cs:List Str) (W:List Bool) (i:Nat) (gh:Sv):Sv:=fun ρ M=>match gb ρ M with
 | .exc c M1=>if cs.contains c=true then (match gh ((kpR W ρ).set i (some (.err c []))) M1 with
  | .ret d M2=> .ret d M2
  | .nx _ M2=> .nx (List.replicate ρ.length none) M2
  |_=> .bad) else .bad
 |o=>o
section
variable {X:Cx} {ξ:XK} {d n:Str} {cs:List Str} {i:Nat} {body suite:List Stmt} {b0:Stmt} {gb gh:Sv} {pos hpos np:Pos}
theorem Zmf {pins:List (Addr × Obj)} {σ1:L2.St} {H1 H2:Hp} {s1 s2:Shared} {h3 B:Heap} {ea C D:Addr} {c:Str} {Dn:Ends} {α1:List Addr} {M1:Sto} {fl:Value} {ρk:Ro}
  (fxn:X.fxs=none) (srk:SR X.K H2 α1 σ1 ρk) (hx:X.ex=[]) (hh:X.A.handled=none) (hN:X.N.Nodup) (hi:X.N[i]?=some n) (hl:X.env.kindOf n=some .local) (hg:Gl X d) (hdb:(d == ("__debug__":Str))=false) (hmD:X.mg d=some (.ref D)) (hD1:typeIn X.K (.ref D)=some (.type "type")) (hD2:(clsIn X.K D).isSome=true) (hD3:mroIn X.K D (.type "BaseException")=some true)
  (hC1:mroIn X.K C (.ref D)=some true) (hC2:nsIn X.K mainGlobals c=some (some (.ref C)))
  (hs: ∀ ea,DSs (Cx.han X ea) E0 (b0 :: suite) gh)
  (I1:Inv X pins σ1 H1 s1) (os:s2.os=s1.os) (bare:AllBare s2.gens) (un:Un (frs X.stack) [] H1 H2 s1.heap s2.heap) (hok:HOk X.prog X.w H2 s2.heap) (t1: ∀ b u,H2 b=some u-> ∃ o,B.get? b=some o) (t2: ∀ b o,s1.heap.get? b=some o->b ∉ frs X.stack-> ∃ o',B.get? b=some o')
  (st2:B.StaysIn s2.heap) (fly:DQ.Fly B X.stack ea (.ref C) none fl h3) (up3:s2.heap.UpToSlots h3) (hr:HR X.K H2 α1 M1)
  (fp: ∀ H3,Ext X.K H2 H3 α1 α1->FP X.K H3 α1 E0 { nx:=fun _ H'=>Dn.nx (List.replicate X.N.length none) H',rt:=Dn.rt } (gh (ρk.set i (some (.err c []))) M1)):
  wpAny (model X.prog X.w) X.A (setFlight (.ref ea) none) (fun _ s₃=>wpAny (model X.prog X.w) X.A (handleBy (.ref ea) X.env [.ExceptHandler (some (.Name d np)) (some n) (b0 :: suite) hpos]) (SP X pins Dn) X.xe s₃) X.xe { s2 with heap:=h3 }:=by
 refine DQ.Zdb (s:={ s2 with heap:=h3 }) fly fun h4 f4 up4=> ?_
 have inv: ∀ h,B.StaysIn h->s2.heap.UpToSlots h->Inv X pins σ1 H2 { s2 with heap:=h }:=fun h st up=>by
  obtain ⟨a1,a2⟩:=Zmd I1 un hok t1 t2 st2 st up
  exact I1.call' (s':={ s2 with heap:=h }) (ch:=[]) os a1 a2 bare fun b z=>absurd z (by simp)
 have J4:=inv h4 f4.stay (up3.trans up4)
 obtain ⟨oe4,vs4,T4,oT4,ts4,g1,g2,g3,g4,g5,g6⟩:=id f4.obj
 refine wpAny_handleBy_cons (codeAny_handlers_test ?_) (by intro q;cases q)
 refine Calls.Name_function_global J4.ok.kind hg (Calls.loadGlobal_global (by rw[J4.ok.glob];exact J4.mod.glob.keeps J4.bk) hmD ?_) hdb
 refine Zir (od:=none) J4.kIn ⟨g1,g2,by unfold PySem.W.notCls;rw[g4],by rw[g3];trivial⟩ hD1 hD2 hD3 hC1 ?_
 refine codeAny_handlers_suite_as ?_
 refine DQ.Zdb (s:={ s2 with heap:=h4 }) f4 fun h5 f5 up5=> ?_
 have J5:=inv h5 f5.stay ((up3.trans up4).trans up5)
 obtain ⟨oe,vs,T5,oT5,ts5,k1,k2,k3,k4,k5,k6⟩:=id f5.obj
 have nB:B.get? ea=none:=f5.new
 have hn:H2 ea=none:=by
  cases z:H2 ea with
  |none=>rfl
  |some u=>obtain ⟨o,q⟩:=t1 ea u z;rw[nB] at q;cases q
 have nf:ea ∉ frs X.stack:=DQ.apart f5.frames k1 k4
 have h0:X.s₀.heap.get? ea=none:=by
  cases z:X.s₀.heap.get? ea with
  |none=>rfl
  |some o=>
   have nx:ea ∉ X.ex:=by rw[hx];simp
   obtain ⟨o',q⟩:=I1.base.there ea o z nx
   obtain ⟨o2,q2⟩:=t2 ea o' q nf
   rw[nB] at q2
   cases q2
 have hp: ∀ p∈X.pn ++ pins,p.1≠ea:=fun p hp z=>by
  obtain ⟨q1,_,q3,q4,_⟩:=I1.pin p hp
  obtain ⟨o2,q2⟩:=t2 p.1 p.2 q1 (by rw[z];exact nf)
  rw[z,nB] at q2
  cases q2
 have J6:=Zit J5 hn k1 k4 h0 hp
 have J7:=Zmb (e:=ea) J6 (.inr ⟨ea,oe,.own 0,vs,rfl,Zt,k4,k5⟩)
 have il:i < X.N.length:=(List.getElem?_eq_some_iff.mp hi).1
 refine Zcl (X:=Cx.han X ea) (v:= .ref ea) J7 hN hi (.inl hl) (by unfold Cx.may;rw[show (Cx.han X ea).fxs=none from fxn]) rfl (fun s8 J8=> ?_) (.inr hl)
 have ex:Ext X.K H2 (upd H2 ea (.frz oe (.own 0))) α1 α1:=Ext.new0 hn
 have rp:Rep X.K (upd H2 ea (.frz oe (.own 0))) α1 (.ref ea) (.err c []):= .err hC2 ⟨oe,.own 0,vs,Zt,k2,k4,k5,.inl ⟨rfl,k3⟩⟩ .nil
 have sr:SR X.K (upd H2 ea (.frz oe (.own 0))) α1 (σ1.set i (some (.ref ea))) (ρk.set i (some (.err c []))):=(srk.mono ex).set i rp
 obtain ⟨ts,ps,qs⟩:=hs ea
 have run:=ps pins s8 _ _ { nx:=fun _ H'=>Dn.nx (List.replicate X.N.length none) H',rt:=Dn.rt } J8 (qs _ _ _ α1 M1 _ sr (hr.tup hn) (fp _ ex))
 refine wpAny_mono run (fun f s9 h9=> ?_) (fun _ _ z=>z.elim)
 have hcls:(X.env.scope.kind == .class || (X.env.scope.kind == .module && X.env.locals != X.env.globals))=false:=by rw[J5.ok.kind];rfl
 cases f with
 |next=>
  obtain ⟨σ',H',J9,q⟩:=h9
  have K9:=Ze8 J9 hh
  obtain ⟨m,hm,_⟩:=id K9.loc
  exact wpAny_nameGoes hl hm hcls fun h' m' hn' hs'=>⟨_,H',Ze9 fxn K9 hn' hs',q⟩
 |ret u=>
  obtain ⟨v,σ',H',J9,r,q⟩:=h9
  have K9:=Ze8 J9 hh
  obtain ⟨m,hm,_⟩:=id K9.loc
  exact wpAny_nameGoes hl hm hcls fun h' m' hn' hs'=>⟨v,_,H',Ze9 fxn K9 hn' hs',r,q⟩
 |brk=>obtain ⟨_,_,_,q⟩:=h9;exact False.elim q
 |cont=>obtain ⟨_,_,_,q⟩:=h9;exact False.elim q
theorem Zos (hcat:ZgK X.K d cs=true) (gl: ∀ c v,nsIn X.K mainGlobals c=some (some v)->X.mg c=some v) (hh:X.A.handled=none) (hx:X.ex=[]) (hst:X.stack=X.env :: X.outer) (hf:X.env.frame=some X.env.locals) (hN:X.N.Nodup)
  (W:List Bool) (hb: ∀ pn xe σ ξ',Thr (Cx.tri X pn xe W σ) ξ'->DSs (Cx.tri X pn xe W σ) ξ' body gb) (hs: ∀ ea,DSs (Cx.han X ea) E0 (b0 :: suite) gh) (fxn:X.fxs=none:=by rfl)
  (hi:X.N[i]?=some n:=by rfl) (hl:X.env.kindOf n=some .local:=by rfl) (hg:Gl X d:=by rfl) (hdb:(d == ("__debug__":Str))=false:=by decide):
  DS X ξ (.Try body [.ExceptHandler (some (.Name d np)) (some n) (b0 :: suite) hpos] [] [] pos) (Zme gb cs W i gh):=by
 unfold ZgK at hcat
 split at hcat
 case h_2=>cases hcat
 rename_i D hD
 simp only[Bool.and_eq_true,beq_iff_eq,List.all_eq_true] at hcat
 obtain ⟨⟨⟨hD3,hD1⟩,hD2⟩,hall⟩:=hcat
 refine ⟨fun Dn σ H=> ∃ ρ α M,SR X.K H α σ ρ/\HR X.K H α M/\FP X.K H α ξ Dn (Zme gb cs W i gh ρ M),?_,fun σ ρ H α M Dn s h q=>⟨ρ,α,M,s,h,q⟩⟩
 rintro pins s σ H Dn I ⟨ρ,α,M,sr,hr,fp⟩
 refine wpAny_Try_except ?_
 have lenρ:ρ.length=X.N.length:=by rw[<- sr.1];exact I.len
 generalize hxe:(fun (e:Value) (s₁:Shared)=>wpAny (model X.prog X.w) X.A (noteFrame e X.env) (fun _ s₂=>wpAny (model X.prog X.w) X.A (setFlight e none) (fun _ s₃=>wpAny (model X.prog X.w) X.A (handleBy e X.env [.ExceptHandler (some (.Name d np)) (some n) (b0 :: suite) hpos]) (SP X pins Dn) X.xe s₃) X.xe s₂) X.xe s₁)=xe'
 have own:PassesOwn (model X.prog X.w) X.A X.env xe':=by
  rw[<- hxe]
  exact PassesOwn.looking
 have land: ∀ {pins':List (Addr × Obj)} {σ1:L2.St} {H1 H2:Hp} {s1 s2:Shared} {h3 B:Heap} {ea C:Addr} {fl:Value},Inv (Cx.tri X (X.pn ++ pins) xe' W σ) pins' σ1 H1 s1->s2.os=s1.os->AllBare s2.gens->Un (frs X.stack) [] H1 H2 s1.heap s2.heap->HOk X.prog X.w H2 s2.heap->
   (∀ b u,H2 b=some u-> ∃ o,B.get? b=some o)->(∀ b o,s1.heap.get? b=some o->b ∉ frs X.stack-> ∃ o',B.get? b=some o')->B.StaysIn s2.heap->DQ.Fly B X.stack ea (.ref C) none fl h3->s2.heap.UpToSlots h3->
   (∃ c M1 α',gb ρ M= .exc c M1/\nsIn X.K mainGlobals c=some (some (.ref C))/\Ext X.K H H2 α α'/\HR X.K H2 α' M1)->
   wpAny (model X.prog X.w) X.A (setFlight (.ref ea) none) (fun _ s₃=>wpAny (model X.prog X.w) X.A (handleBy (.ref ea) X.env [.ExceptHandler (some (.Name d np)) (some n) (b0 :: suite) hpos]) (SP X pins Dn) X.xe s₃) X.xe { s2 with heap:=h3 }:=by
  intro pins' σ1 H1 H2 s1 s2 h3 B ea C fl I1 os bare un hok t1 t2 st2 fly up3 ⟨c,M1,α',eg,hC2,ex,hr1⟩
  unfold Zme at fp
  simp only[eg] at fp
  by_cases hc:cs.contains c=true
  ·rw[if_pos hc] at fp
   have hm:=hall c (List.contains_iff_mem.mp hc)
   rw[ZgL hC2] at hm
   refine Zmf (ρk:=kpR W ρ) fxn ?_ hx hh hN hi hl hg hdb (gl d _ (Zen hD)) hD1 hD2 hD3 (by simpa using hm.2) hC2 hs (Zbq fxn I1) os bare un hok t1 t2 st2 fly up3 hr1 fun H3 ex3=> ?_
   ·refine ⟨by rw[ZfT,lenρ];exact I1.len,fun j dd e=> ?_⟩
    obtain ⟨w1,w2⟩:=Ziu W ρ j dd e
    obtain ⟨v,v1,v2⟩:=sr.2 j dd w2
    exact ⟨v,(I1.fx W σ rfl j w1).trans v1,Rep.mono ex v2⟩
   rw[lenρ] at fp
   cases er:gh ((kpR W ρ).set i (some (.err c []))) M1 with
   |ret dd M2=>rw[er] at fp;exact FP.ext (o:= .ret dd M2) fp (ex.trans ex3)
   |nx ρ2 M2=>
    rw[er] at fp
    intro σ' H' α'' e1 e2 e3
    refine fp _ H' α'' ((ex.trans ex3).trans e1) e2 ⟨by rw[List.length_replicate,List.length_replicate],fun j dd z=> ?_⟩
    rw[List.getElem?_replicate] at z
    split at z<;>cases z
   |brk ρ2 M2=>rw[er] at fp;exact fp.elim
   |cnt ρ2 M2=>rw[er] at fp;exact fp.elim
   |exc x M2=>rw[er] at fp;exact fp.elim
   |bad=>rw[er] at fp;exact fp.elim
  ·rw[if_neg hc] at fp
   exact fp.elim
 have T:Thr (Cx.tri X (X.pn ++ pins) xe' W σ) (fun cls dct H'=> ∃ C c M1 α',cls= .ref C/\dct=none/\gb ρ M= .exc c M1/\nsIn X.K mainGlobals c=some (some (.ref C))/\Ext X.K H H' α α'/\HR X.K H' α' M1):=by
  refine ⟨own,fun pins' σ1 H1 s1 e s2 I1 h=> ?_,fun pins' σ1 H1 s1 h' e oe vs C I1 k hn he hc hdi hd v1 v2 q=> ?_⟩
  ·obtain ⟨ea,C,dct,B,H2,rfl,os,bare,un,hok,fl,t1,t2,C',c,M1,α',q1,q2,q3,q4,q5,q6⟩:=h
   cases q1
   subst q2
   show xe' (.ref ea) s2
   rw[<- hxe]
   have fl':DQ.Fly B (X.env :: X.outer) ea (.ref C) none .none s2.heap:=hst ▸ fl
   refine DQ.ZgB (by rw[<- hst];exact I1.ok.frames) hf fl' fun h3 f3 up=> ?_
   exact land I1 os bare un hok t1 t2 fl.stay (hst ▸ f3) up ⟨c,M1,α',q3,q4,q5,q6⟩
  ·obtain ⟨C',c,M1,α',q1,q2,q3,q4,q5,q6⟩:=q
   cases q1
   show xe' (.ref e) { s1 with heap:=h' }
   rw[<- hxe]
   have I2:=Zbq fxn I1
   have st:=I2.stack
   have t2: ∀ b o,s1.heap.get? b=some o->b ∉ frs X.stack-> ∃ o',(ZeZ s1.heap (frs X.stack)).get? b=some o':=fun b o x n=>⟨o,Zdd x n⟩
   have hs':(ZeZ s1.heap (frs X.stack)).StaysIn h':=fun b o x=>k b o (Zdr x).1
   have hl':h'.FunFrames (ZeZ s1.heap (frs X.stack)) X.stack:=(Zdq st fun b hb=>Ze0 hb).of_keeps fun b o x _=>⟨o,k b o x,rfl⟩
   have hb':(ZeZ s1.heap (frs X.stack)).get? e=none:=by
    cases z:(ZeZ s1.heap (frs X.stack)).get? e with
    |none=>rfl
    |some o=>
     have:=(Zdr z).1
     rw[hn] at this
     cases this
   have t1: ∀ b u,H1 b=some u-> ∃ o,(ZeZ s1.heap (frs X.stack)).get? b=some o:=fun b u x=>by
    obtain ⟨o,g⟩:=Zei (I2.hok b u x)
    exact ⟨o,Zdd g fun z=>by rw[I2.stkFree b z] at x;cases x⟩
   generalize ZeZ s1.heap (frs X.stack)=B at t2 hs' hl' hb' t1
   refine Zha (s:={ s1 with heap:=h' }) (by rw[<- hst];exact I2.ok.frames) hf (hst ▸ hl') he hs' hb' hd v1 v2 fun h3 f3 up=> ?_
   rw[hc,hdi] at f3
   exact land (s2:={ s1 with heap:=h' }) I1 rfl I2.bare (Un.kept k) (I2.hok.kept k) t1 t2 hs' (hst ▸ f3) up ⟨c,M1,α',q3,q4,q5,q6⟩
 obtain ⟨tb,pb,qb⟩:=hb _ _ _ _ T
 have fpb:FP X.K H α (fun cls dct H'=> ∃ C c M1 α',cls= .ref C/\dct=none/\gb ρ M= .exc c M1/\nsIn X.K mainGlobals c=some (some (.ref C))/\Ext X.K H H' α α'/\HR X.K H' α' M1) Dn (gb ρ M):=by
  unfold Zme at fp
  cases eg:gb ρ M with
  |exc c M1=>exact fun C H' α' n1 e1 h1=>⟨C,c,M1,α',rfl,rfl,rfl,n1,e1,h1⟩
  |nx ρ2 M2=>rw[eg] at fp;exact fp
  |ret d2 M2=>rw[eg] at fp;exact fp
  |brk ρ2 M2=>rw[eg] at fp;exact fp
  |cnt ρ2 M2=>rw[eg] at fp;exact fp
  |bad=>rw[eg] at fp;exact fp
 have run:=pb [] s σ H Dn (Zmc I) (qb σ ρ H α M Dn sr hr fpb)
 refine wpAny_mono run (fun f s1 h1=> ?_) (fun e s1 h1=> ?_)
 ·cases f with
  |next=>
   obtain ⟨σ',H',J,q⟩:=h1
   exact wpAny_execs_nil ⟨σ',H',Zbq fxn J,q⟩
  |brk=>obtain ⟨σ',H',J,q⟩:=h1;exact ⟨σ',H',Zbq fxn J,q⟩
  |cont=>obtain ⟨σ',H',J,q⟩:=h1;exact ⟨σ',H',Zbq fxn J,q⟩
  |ret u=>obtain ⟨v,σ',H',J,r,q⟩:=h1;exact ⟨v,σ',H',Zbq fxn J,r,q⟩
 ·exact h1
end
theorem Zz {k:Nat} {A:Around} {env:Env} (hr:Room k (A.deeper env)) (h:100<=k):A.handled.isNone=true:=by
 have e:A.handled=none:=hr.hd h
 rw[e]
 rfl
end DL
end
section
namespace DL
open PySem PySem.Spec PyProof.Rows L2
noncomputable abbrev Me:=D->List D->Sto->Out D
noncomputable def MO (X:Cx) (ξ:XK) (r:V->List V->Hp->VK->Prop) (g:Me):Prop:= ∀ H α M v vs x ds Q,HR X.K H α M->Rep X.K H α v x->Reps X.K H α vs ds->OP X.K H α ξ Q (g x ds M)->r v vs H Q
theorem HR.wrE {K:PySem.W.Frag} {H:Hp} {α:List Addr} {M:Sto} {n:Nat} {p:Addr} {xs ys:List V} {ds:List D} (h:HR K H α M) (e:RefK H α 0 n p) (hp:H p=some (.lst ys)) (r:Reps K H α xs ds):Ext K H (upd H p (.lst xs)) α α/\HR K (upd H p (.lst xs)) α (M.set n (.lst ds)):=
 ⟨Ext.wr hp,h.wr e hp r⟩
section
variable {X:Cx} {ξ:XK} {o e:Expr} {es:List Expr} {fo fa:Ev} {fs:Av} {name:Str} {apos cpos pos:Pos} {T id:String} {r:V->List V->Hp->VK->Prop} {g:Me}
noncomputable def Zmg (x:D) (M:Sto):Bool:=match x with | .ref n=>M[n]?.isSome | _=>false
noncomputable def Zjm (g:Me) (fo:Ev) (fs:Av):Ev:=fun ρ M=>(fo ρ M).bind fun x M1=>if Zmg x M1=true then (fs ρ M1).bind fun ds M2=>g x ds M2 else .bad
theorem Zmh {K:PySem.W.Frag} {H:Hp} {α:List Addr} {M:Sto} {v:V} {x:D} (h:HR K H α M) (rx:Rep K H α v x) (k:Zmg x M=true):tyV K "list" v H:=by
 cases rx with
 | @ref p n hp=>
  obtain ⟨xs,g⟩:=h.some_at hp
  exact .inl ⟨rfl,_,SqL.of g⟩
 |_=>cases k
theorem Zot (slot:Slot "list" name id) (hty:typeOf (.builtin id)=pure (.type "method_descriptor")) (hm:MtR X id r) (hf:MO X ξ r g) (ho:DE X ξ o fo) (ha:DA X ξ (e :: es) fs)
  (hbase:attributeBase o name X.env (eval o X.env)=eval o X.env:=by rfl)
  (hfew:((backTo cpos (starEach (e :: es) X.env)).all (fun x=> !x.1) && (backToKw cpos (keywordEach [] X.env)).all (fun x=>x.1.isSome)
   && decide ((e :: es).length + ([]:List Keyword).length + (if ([]:List Keyword).isEmpty then 0 else 1) < 30))=true:=by rfl)
  (hline:(apos.endLine == cpos.line)=true:=by rfl) (hs:starEach (e :: es) X.env=(false,eval e X.env) :: starEach es X.env:=by rfl) (hplain:(backTo cpos (starEach es X.env)).any (·.1)=false:=by rfl):
  DE X ξ (.Call (.Attribute o name apos) (e :: es) [] cpos) (Zjm g fo fs):=by
 obtain ⟨to,po,qo⟩:=ho
 obtain ⟨ta,pa,qa⟩:=ha
 refine ⟨_,ZqN PySem.F.plainAttrs_list slot hty hm po pa hbase hfew hline hs hplain,fun σ ρ H α M Q s h q=> ?_⟩
 refine qo σ ρ H α M _ s h (OG.seq q fun x M1 v H1 α1 e1 h1 r1 q1=> ?_)
 by_cases k:Zmg x M1=true
 ·rw[if_pos k] at q1
  exact ⟨Zmh h1 r1 k,qa σ ρ H1 α1 M1 _ (s.mono e1) h1 (OG.seq q1 fun ds M2 vs H2 α2 e2 h2 r2 q2=>hf H2 α2 M2 v vs x ds Q h2 (Rep.mono e2 r1) r2 q2)⟩
 ·rw[if_neg k] at q1
  exact q1.elim
noncomputable def mApp:Me:=fun x ds M=>match x,ds with
 | .ref n,[d]=>(match M[n]? with | some (.lst xs)=>if xs.length < 10000000 then .ok .non (M.set n (.lst (xs ++ [d]))) else .bad | none=> .bad)
 |_,_=> .bad
theorem Zou:MO X ξ rAppend mApp:=by
 intro H α M v vs x ds Q h rx rs q
 cases rx with
 | @ref p n hp=>
  match rs with
  | .nil=>exact q.elim
  | .cons _ (.cons _ _)=>exact q.elim
  | .cons (v:=u) (d:=d) ru .nil=>
   cases em:M[n]? with
   |none=>simp only[mApp,em] at q;exact q.elim
   |some so=>
    cases so with
    |lst es=>
     obtain ⟨xs,g1,g2⟩:=h.at hp em
     by_cases c:es.length < 10000000
     ·simp only[mApp,em,if_pos c] at q
      obtain ⟨k1,k2⟩:=h.wrE hp g1 (g2.append (.cons ru .nil))
      exact ⟨p,xs,u,rfl,rfl,g1,by rw[g2.length];exact Nat.lt_of_lt_of_le c (by decide),q _ _ α k1 k2 .non⟩
     ·simp only[mApp,em,if_neg c] at q
      exact q.elim
 |_=>cases rs<;>exact q.elim
noncomputable def ZsH:Me:=fun x ds M=>match x,ds with
 | .ref n,[]=>(match M[n]? with | some (.lst _)=> .ok .non (M.set n (.lst [])) | none=> .bad)
 |_,_=> .bad
noncomputable def mExt:Me:=fun x ds M=>match x,ds with
 | .ref n,[.ref m]=>(match M[n]?,M[m]? with | some (.lst xs),some (.lst ys)=>if xs.length + ys.length<=10000000 then .ok .non (M.set n (.lst (xs ++ ys))) else .bad | _,_=> .bad)
 |_,_=> .bad
theorem Ziv {x:D} {l:List D} {M:Sto} (h:mExt x l M≠ .bad): ∃ n m,x= .ref n/\l=[.ref m]:=by
 unfold mExt at h
 split at h
 ·rename_i n m;exact ⟨n,m,rfl,rfl⟩
 ·exact absurd rfl h
theorem Zov:MO X ξ rExtend mExt:=by
 intro H α M v vs x ds Q h rx rs q
 obtain ⟨n,m,rfl,rfl⟩:=Ziv (x:=x) (l:=ds) (M:=M) fun z=>by rw[z] at q;exact q.elim
 cases rx with
 | @ref p n hp=>
 cases rs with
 |cons ru rs=>
 cases rs
 cases ru with
 | @ref p2 m hp2=>
 cases em:M[n]? with
 |none=>simp only[mExt,em] at q;exact q.elim
 |some so=>
 cases em2:M[m]? with
 |none=>cases so;simp only[mExt,em,em2] at q;exact q.elim
 |some so2=>
 cases so with
 |lst es=>
 cases so2 with
 |lst es2=>
 obtain ⟨xs,g1,g2⟩:=h.at hp em
 obtain ⟨ys,g3,g4⟩:=h.at hp2 em2
 by_cases c:es.length + es2.length<=10000000
 ·simp only[mExt,em,em2,if_pos c] at q
  obtain ⟨k1,k2⟩:=h.wrE hp g1 (g2.append g4)
  exact ⟨p,p2,xs,ys,rfl,rfl,g1,g3,by rw[g2.length,g4.length];exact Nat.le_trans c (by decide),q _ _ α k1 k2 .non⟩
 ·simp only[mExt,em,em2,if_neg c] at q
  exact q.elim
theorem Zcq (ho:DE X ξ o fo) (ha:DE X ξ e fa) (hbase:attributeBase o "append" X.env (eval o X.env)=eval o X.env:=by rfl)
  (hfew:((backTo cpos (starEach [e] X.env)).all (fun x=> !x.1) && (backToKw cpos (keywordEach [] X.env)).all (fun x=>x.1.isSome)
   && decide ([e].length + ([]:List Keyword).length + (if ([]:List Keyword).isEmpty then 0 else 1) < 30))=true:=by rfl)
  (hline:(apos.endLine == cpos.line)=true:=by rfl) (hs:starEach [e] X.env=(false,eval e X.env) :: starEach [] X.env:=by rfl) (hplain:(backTo cpos (starEach [] X.env)).any (·.1)=false:=by rfl):
  DE X ξ (.Call (.Attribute o "append" apos) [e] [] cpos) (Zjm mApp fo (Zc fa aNil)):=Zot PySem.F.slot_list_append PySem.F.type_list_append ZeS Zou ho (Za ha Zd hs) hbase hfew hline hs hplain
noncomputable def DO (X:Cx) (ξ:XK) (e:Option Expr) (f:Ro->Sto->Out (Option Int)):Prop:= ∃ t:TO,PO X e t/\ ∀ σ ρ H α M (Q:Option Int->Hp->Prop),SR X.K H α σ ρ->HR X.K H α M->OG X.K (fun _ _ v d=>v=d) H α ξ Q (f ρ M)->t σ H Q
noncomputable def oNo:Ro->Sto->Out (Option Int):=fun _ M=> .ok none M
noncomputable def oSo (f:Ev):Ro->Sto->Out (Option Int):=fun ρ M=>(f ρ M).bind fun x M1=>match x with | .int i=> .ok (some i) M1 | _=> .bad
theorem Zj3:DO X ξ none oNo:=⟨_,ZlE,fun σ ρ H α M Q s h q=>q none H α Ext.refl h rfl⟩
theorem Zj4 (ha:DE X ξ e fa):DO X ξ (some e) (oSo fa):=by
 obtain ⟨ta,pa,qa⟩:=ha
 refine ⟨_,ZlF pa,fun σ ρ H α M Q s h q=> ?_⟩
 refine qa σ ρ H α M _ s h (OG.seq q fun x M1 v H1 α1 e1 h1 r1 q1=> ?_)
 cases r1 with
 |int i=>exact ⟨i,rfl,q1 (some i) H1 α1 Ext.refl h1 rfl⟩
 |_=>exact q1.elim
noncomputable def ZfU (xs:List D) (lo hi:Option Int):List D:=(xs.drop (HT.sIx xs.length 0 lo)).take (HT.sIx xs.length xs.length hi - HT.sIx xs.length 0 lo)
theorem Reps.drop {K:PySem.W.Frag} {H:Hp} {α:List Addr}: ∀ (n:Nat) {vs:List V} {ds:List D},Reps K H α vs ds->Reps K H α (vs.drop n) (ds.drop n)
 |0,_,_,h=>h
 |_ + 1,_,_,.nil=> .nil
 |n + 1,_,_,.cons _ t=>Reps.drop n t
theorem Reps.take {K:PySem.W.Frag} {H:Hp} {α:List Addr}: ∀ (n:Nat) {vs:List V} {ds:List D},Reps K H α vs ds->Reps K H α (vs.take n) (ds.take n)
 |0,_,_,_=> .nil
 |_ + 1,_,_,.nil=> .nil
 |n + 1,_,_,.cons r t=> .cons r (Reps.take n t)
theorem Reps.cut {K:PySem.W.Frag} {H:Hp} {α:List Addr} {vs:List V} {ds:List D} (r:Reps K H α vs ds) (lo hi:Option Int):Reps K H α (ZkM vs lo hi) (ZfU ds lo hi):=by
 unfold ZkM ZfU
 rw[r.length]
 exact (r.drop _).take _
noncomputable def eSl (f:Ev) (lo hi:Ro->Sto->Out (Option Int)):Ev:=fun ρ M=>(f ρ M).bind fun x M1=>(lo ρ M1).bind fun l M2=>(hi ρ M2).bind fun u M3=>match x with
 | .ref n=>(match M3[n]? with | some (.lst xs)=> .ok (.ref M3.length) (M3 ++ [.lst (ZfU xs l u)]) | none=> .bad)
 | .rol xs=> .ok (.ref M3.length) (M3 ++ [.lst (ZfU xs l u)])
 | .tup xs=>if HT.sIx xs.length 0 l=0/\HT.sIx xs.length xs.length u=xs.length then .bad else .ok (.tup (ZfU xs l u)) M3
 |_=> .bad
theorem Zj5 {lo hi:Option Expr} {fl fh:Ro->Sto->Out (Option Int)} {p2:Pos} (he:DE X ξ e fa) (hl:DO X ξ lo fl) (hh:DO X ξ hi fh):DE X ξ (.Subscript e (.Slice lo hi none p2) pos) (eSl fa fl fh):=by
 obtain ⟨ta,pa,qa⟩:=he
 obtain ⟨tl,pl,ql⟩:=hl
 obtain ⟨th,ph,qh⟩:=hh
 refine ⟨_,Zjz (SlR.or ZlK ZnW) pa pl ph,fun σ ρ H α M Q s h q=> ?_⟩
 refine qa σ ρ H α M _ s h (OG.seq q fun x M1 v H1 α1 e1 h1 r1 q1=> ?_)
 refine ql σ ρ H1 α1 M1 _ (s.mono e1) h1 (OG.seq q1 fun l M2 l' H2 α2 e2 h2 r2 q2=> ?_)
 refine qh σ ρ H2 α2 M2 _ ((s.mono e1).mono e2) h2 (OG.seq q2 fun u M3 u' H3 α3 e3 h3 r3 q3=> ?_)
 cases r2
 cases r3
 cases Rep.mono e3 (Rep.mono e2 r1) with
 | @ref p n hp=>
  cases em:M3[n]? with
  |none=>simp only[em] at q3;exact q3.elim
  |some so=>
   cases so with
   |lst es=>
    simp only[em] at q3
    obtain ⟨xs,g1,g2⟩:=h3.at hp em
    exact .inl ⟨p,xs,rfl,SqL.of g1,fun a ha=>q3 _ _ (α3 ++ [a]) (Ext.new ha) (h3.new ha (g2.cut l u)) (.ref ⟨h3.last a,Kn.lst Zt⟩)⟩
 | @rol p xs ds hp rp=>
  have q4:OP X.K H3 α3 ξ Q (.ok (.ref M3.length) (M3 ++ [.lst (ZfU ds l u)])):=q3
  exact .inl ⟨p,xs,rfl,hp.sq,fun a ha=>q4 _ _ (α3 ++ [a]) (Ext.new ha) (h3.new ha (rp.cut l u)) (.ref ⟨h3.last a,Kn.lst Zt⟩)⟩
 | @tup p xs ds hp rp=>
  by_cases c:HT.sIx ds.length 0 l=0/\HT.sIx ds.length ds.length u=ds.length
  ·simp only[if_pos c] at q3
   exact q3.elim
  ·simp only[if_neg c] at q3
   exact .inr ⟨p,xs,rfl,(SqT.of hp),by rw[rp.length];exact c,fun a ha=>q3 _ _ α3 (Ext.new0 ha) (h3.tup ha) (.tup Zt (Reps.mono (Ext.new0 ha) (rp.cut l u)))⟩
 |_=>exact q3.elim
noncomputable def iR2 (fs:Av):Ro->Sto->Out Src:=fun ρ M=>(fs ρ M).bind fun ds M1=>match ds with
 | [.int i,.int j]=>if -(2 ^ 62)<=i/\i < 2 ^ 62/\ -(2 ^ 62)<=j/\j < 2 ^ 62 then .ok (.pur (ZbC i (j - i).toNat)) M1 else .bad
 |_=> .bad
theorem Ziw {tg a b:Expr} {p:Pos} (hm:X.mg "range"=none) (ha:DA X ξ [a,b] fs) (hgl:Gl X "range":=by rfl) (hs:starEach [a,b] X.env=[(false,eval a X.env),(false,eval b X.env)]:=by rfl) (hs2:starEach [b] X.env=[(false,eval b X.env)]:=by rfl):DI X ξ tg (.Call (.Name "range" p) [a,b] [] pos) (iR2 fs):=by
 obtain ⟨ta,pa,qa⟩:=ha
 refine ⟨_,ZeJ hgl hm pa hs hs2,fun σ ρ H α M R s hh q=>qa σ ρ H α M _ s hh (OG.seq q fun ds M1 vs H1 α1 e1 h1 r1 w1=> ?_)⟩
 split at w1
 ·rename_i i j
  cases r1 with
  |cons r t=>
   cases t with
   |cons r' t=>
    cases t
    cases r
    cases r'
    by_cases c: -(2 ^ 62)<=i/\i < 2 ^ 62/\ -(2 ^ 62)<=j/\j < 2 ^ 62
    ·simp only[if_pos c] at w1
     exact ⟨i,j,rfl,c,w1 _ H1 α1 Ext.refl h1 ZdY⟩
    ·simp only[if_neg c] at w1
     exact w1.elim
 ·exact w1.elim
end
noncomputable def eRv (f:Ev):Ev:=fun ρ M=>(f ρ M).bind fun x M1=>match x with
 | .tup xs=> .ok (.tup xs.reverse) M1
 | .ref n=>(match M1[n]? with | some (.lst xs)=> .ok (.ref M1.length) (M1 ++ [.lst xs.reverse]) | none=> .bad)
 | .rol xs=> .ok (.ref M1.length) (M1 ++ [.lst xs.reverse])
 |_=> .bad
end DL
end
section
namespace DL
open PySem PySem.Spec PyProof.Rows L2
noncomputable def ZgM (tg:Tg) (g:Sv) (src:Src):Nat->Nat->Ro->Sto->Fl
 |f,i,ρ,M=>match nxt src i M with
  |none=> .bad
  |some none=> .nx ρ M
  |some (some d)=>(match f with
   |0=> .bad
   |f + 1=>(match tg d ρ with
    |none=> .bad
    |some ρ1=>(match g ρ1 M with
     | .nx ρ2 M2=>ZgM tg g src f (i + 1) ρ2 M2
     | .cnt ρ2 M2=>ZgM tg g src f (i + 1) ρ2 M2
     | .brk ρ2 M2=> .nx ρ2 M2
     |o=>o)))
noncomputable def ZdO (tg:Tg) (fi:Ro->Sto->Out Src) (g:Sv):Sv:=fun ρ M=>ZaU (fi ρ M) fun src M1=>ZgM tg g src (cnt src M1) 0 ρ M1
section
variable {X:Cx} {ξ:XK} {tg iter a b:Expr} {gt:Tg} {fi:Ro->Sto->Out Src} {g:Sv} {body:List Stmt} {f fa fb:Ev} {fs:Av} {p pos:Pos}
theorem ZcG (hp:PassesOwn (model X.prog X.w) X.A X.env X.xe) (hi:DI X ξ tg iter fi) (hg:DG X tg gt) (hb:DSs X ξ body g) (hf: ∀ x,foldedSetIterable iter X.env x=pure x:=by intro _;rfl):DS X ξ (.For tg iter body [] pos) (ZdO gt fi g):=by
 obtain ⟨wi,pi,qi⟩:=hi
 obtain ⟨tt,pt,qt⟩:=hg
 obtain ⟨tb,pb,qb⟩:=hb
 refine ⟨_,Zgw hp pi pt pb hf,fun σ ρ H α M Dn s hh w=>qi σ ρ H α M _ s hh (FP.seq w fun src M1 J H1 α1 e1 h1 sc w1=> ?_)⟩
 generalize eo:ZgM gt g src (cnt src M1) 0 ρ M1=o at w1
 refine ⟨fun i m σ' H'=> ∃ ρ' α' M',Ext X.K H1 H' α1 α'/\SR X.K H' α' σ' ρ'/\HR X.K H' α' M'/\ZgM gt g src m i ρ' M'=o,⟨cnt src M1,ρ,α1,M1,Ext.refl,s.mono e1,h1,eo⟩,?_⟩
 rintro i m σ' H' ⟨ρ',α',M',ex,sr,hr,en⟩
 have s5:=sc i H' α' M' ex hr
 unfold ZgM at en
 cases en1:nxt src i M' with
 |none=>rw[en1] at en;cases en;exact w1.elim
 |some od=>
  rw[en1] at en s5
  cases od with
  |none=>cases en;exact .inl ⟨s5,w1 σ' H' α' ex hr sr⟩
  |some d=>
   obtain ⟨go,yl⟩:=s5
   cases m with
   |zero=>cases en;exact w1.elim
   |succ m=>
    simp only at en
    refine .inr ⟨go,fun σ2 H2=> ∃ ρ' α' M',Ext X.K H1 H2 α1 α'/\SR X.K H2 α' σ2 ρ'/\HR X.K H2 α' M'/\ZgM gt g src m (i + 1) ρ' M'=o,fun σ2 H2 z=>⟨m,Nat.lt_succ_self m,z⟩,fun x H2 y=> ?_⟩
    obtain ⟨ex7,hr7,rp7⟩:=yl x H2 y
    exact ZjR (tg:=tg) w1 qt qb (ex.trans ex7) (sr.mono ex7) hr7 rp7 en (fun σ' H' z=>z)
end
theorem Zix {X:Cx} {pins:List (Addr × Obj)} {σ:L2.St} {H:Hp} {s:Shared} {h':Heap} {t':Nat} {ch:List Addr} (I:Inv X pins σ H s) (k: ∀ b o,b ∉ ch->s.heap.get? b=some o->h'.get? b=some o) (hf: ∀ b∈ch,ZdK X pins H b):Inv X pins σ H { s with heap:=h',toks:=t' }:=by
 have nit: ∀ b u,H b=some u->b ∉ ch:=fun b u e z=>by rw[(hf b z).1] at e;cases e
 have hL:X.env.locals ∉ ch:=fun z=>(hf _ z).2.1 rfl
 refine I.step (g':=s.gens) (d':=s.drawn) (ch:=ch) (fun b hb=> ?_) (fun b o _ _ hc e _=>k b o hc e) (fun b o _ _ hc e _=>⟨o.slots,k b o hc e⟩) (fun _ _ _ _ n=>n)
  (fun b o hc e=>⟨o,k b o hc e⟩) (fun _ _ e=>e) (fun _ _ _ e=>e) (fun b ps e=>⟨#[],by rw[e];simp⟩) (fun m hm=> ?_) (fun b u e=> ?_) I.bare
 ·obtain ⟨_,z1,_,z3,z4,z5⟩:=hf b hb
  exact ⟨z3,z1,z4,z5⟩
 ·obtain ⟨o,es,ep,ho,r⟩:=hm
  exact ⟨o,es,ep,k _ o hL ho,r⟩
 ·refine (I.hok b u e).stay (fun c v hc q=>k c v ?_ q) (fun _ q=>q) fun _ _ q=>q
  rcases hc with z | z
  ·rw[z];exact nit b u e
  ·exact nit c _ z
theorem Zk2 {X:Cx} {pins:List (Addr × Obj)} {σ:L2.St} {H:Hp} {s:Shared} {h':Heap} {t':Nat} {ch:List Addr} {vs:List V} {us:List Value} (I:Inv X pins σ H s) (hf: ∀ b∈ch,ZdK X pins H b) (hlt: ∀ b∈ch,b < s.heap.objs.size) (rv:Z2 vs us) (hz:vs.length<=sizeLine)
  (k: ∀ b o,b ∉ ch->s.heap.get? b=some o->h'.get? b=some o) (ht:h'.get? s.heap.objs.size=some { cls:= .type "tuple",data:= .seq us.toArray }):
  Inv X pins σ (upd H s.heap.objs.size (.tup vs)) { s with heap:=h',toks:=t' }/\H s.heap.objs.size=none/\ ∀ b∈ch,upd H s.heap.objs.size (.tup vs) b=none:=by
 have fr:H s.heap.objs.size=none:=I.hok.fresh (Nat.le_refl _)
 have hn: ∀ b∈ch,upd H s.heap.objs.size (.tup vs) b=none:=fun b hb=>by rw[ZE (Nat.ne_of_lt (hlt b hb))];exact (hf b hb).1
 have I1:Inv X pins σ (upd H s.heap.objs.size (.tup vs)) { s with heap:=s.heap.push { cls:= .type "tuple",data:= .seq us.toArray },toks:=t' }:=
  I.laid (t':=t') (o:= .tup vs) (fun _ _ q=>Heap.get?_push_of_some _ q) (Nat.le_refl _) ⟨hz,us,rv,_,Heap.get?_push_size _ rfl,rfl,_,rfl⟩
 refine ⟨Zix (s:={ s with heap:=s.heap.push { cls:= .type "tuple",data:= .seq us.toArray },toks:=t' }) (t':=t') (ch:=ch) I1 (fun b o hb e=> ?_) (fun b hb=>⟨hn b hb,(hf b hb).2⟩),fr,hn⟩
 by_cases c:b=s.heap.objs.size
 ·subst c
  have e':(s.heap.push { cls:= .type "tuple",data:= .seq us.toArray }).get? s.heap.objs.size=some o:=e
  rw[Heap.get?_push_size _ rfl] at e'
  cases e'
  exact ht
 ·refine k b o hb ?_
  have e':(s.heap.push { cls:= .type "tuple",data:= .seq us.toArray }).get? b=some o:=e
  have hl:b < s.heap.objs.size:=by
   have q:b < s.heap.objs.size + 1:=by
    have z:=Heap.lt_size e'
    rwa [Heap.size_push] at z
   exact Nat.lt_of_le_of_ne (Nat.le_of_lt_succ q) c
  have q:(s.heap.push { cls:= .type "tuple",data:= .seq us.toArray }).get? b=s.heap.get? b:=by
   unfold Heap.get? Heap.push
   simp only[Array.getElem?_push]
   rw[if_neg (Nat.ne_of_lt hl)]
  rwa [q] at e'
noncomputable def Ite (K:PySem.W.Frag) (a:Addr):It:=
 ⟨fun i H=> ∃ xs x,SqL K H a xs/\xs[i]?=some x,fun i H y H'=> ∃ p,H p=none/\y= .ref p/\ ∀ xs x,SqL K H a xs->xs[i]?=some x->H'=upd H p (.tup [.int i,x]),fun i H=> ∃ xs,SqL K H a xs/\xs.length<=i⟩
noncomputable def Itz (K:PySem.W.Frag) (a b:Addr):It:=
 ⟨fun i H=> ∃ xs ys x y,SqL K H a xs/\SqL K H b ys/\xs[i]?=some x/\ys[i]?=some y,fun i H v H'=> ∃ p,H p=none/\v= .ref p/\ ∀ xs ys x y,SqL K H a xs->SqL K H b ys->xs[i]?=some x->ys[i]?=some y->H'=upd H p (.tup [x,y]),
  fun i H=> ∃ xs ys,SqL K H a xs/\SqL K H b ys/\(xs.length<=i\/ys.length<=i)⟩
theorem Ziy {P:Program} {w:World} {K:PySem.W.Frag} {B:Around} {elts:List Expr} {k0:Nat} {tp:Pos} (hB:B.handled=none) (a e it:Addr) (hne:e≠it):
  Turn P w K B (.Tuple elts k0 tp) (Ite K a) [e,it] e (fun i h=>(∃ old,IsEnum h e it (i:Int) old)/\h.IsListIter it a i) where
 mem:=by simp
 obj:=fun i h st b hb=>by
  obtain ⟨⟨old,h1⟩,o,e2,c2,d2⟩:=st
  rcases List.mem_cons.mp hb with z | z
  ·subst z;exact ⟨_,h1,fun v z=>by cases z⟩
  ·have z':b=it:=by simpa using z
   subst z'
   exact ⟨o,e2,fun v z=>by rw[d2] at z;cases z⟩
 keep:=fun i h h' st k=>⟨let ⟨old,z⟩:=st.1;⟨old,k e (by simp) _ z⟩,st.2.at fun o z=>k it (by simp) o z⟩
 item:=by
  intro X hP hw hK hA i pins s σ H E I hf st hg
  subst hP hw hK hA
  obtain ⟨⟨old,h1⟩,h2⟩:=st
  obtain ⟨xs,x,hq,hx⟩:=hg
  obtain ⟨its,rv,p,hz⟩:=I.list hq
  obtain ⟨u,hu,ru⟩:=rv.get hx
  have lt: ∀ b∈[e,it],b < s.heap.objs.size:=fun b hb=>by
   rcases List.mem_cons.mp hb with z | z
   ·subst z;exact Heap.lt_size h1
   ·have z':b=it:=by simpa using z
    subst z'
    obtain ⟨o,e2,_⟩:=h2
    exact Heap.lt_size e2
  refine wpAny_pyNext_enum_item h1 h2 p.isList (x:=u) (by simpa using hu) hne fun h' o1 o2 o3 o4 o5=>⟨_,rfl,?_⟩
  refine wpAny_letOwnedTupleGo_enum (s:={ s with heap:=h',toks:=s.toks + 1 }) o1 fun h'' q1 q2=> ?_
  have pe:s.heap.objs.size≠e:=Nat.ne_of_gt (lt e (by simp))
  have ie:it≠e:=Ne.symm hne
  obtain ⟨J1,J2,J3⟩:=Zk2 (h':=h'') (t':=s.toks + 1) (ch:=[e,it]) (vs:=[.int i,x]) (us:=[.int i s.toks,u]) I hf lt (.cons ⟨_,rfl⟩ (.cons ru .nil)) (by show 2<=sizeLine;decide)
   (fun b o hb z=>by
    have n1:b≠e:=fun y=>hb (by simp[y])
    have n2:b≠it:=fun y=>hb (by simp[y])
    exact (q2.2 b n1).trans (o5 b o n1 n2 z)) ((q2.2 _ pe).trans o3)
  refine ⟨.ref s.heap.objs.size,_,J1,rfl,⟨_,J2,rfl,fun ys y hy hy2=> ?_⟩,⟨⟨u,by simpa using q1⟩,o2.at fun o z=>(q2.2 it ie).trans z⟩,J3⟩
  rw[I.list_inj hy hq,hx] at hy2
  cases hy2
  rfl
 done:=by
  intro X hP hw hK hA i pins s σ H E I hf st hg
  subst hP hw hK hA
  obtain ⟨⟨old,h1⟩,h2⟩:=st
  obtain ⟨xs,hq,hx⟩:=hg
  obtain ⟨its,rv,p,hz⟩:=I.list hq
  obtain ⟨f0,f1,f2,f3,f4,f5⟩:=hf it (by simp)
  refine wpAny_pyNext_enum_end hB h1 h2 p.isList (by simp only[List.getElem?_toArray];exact List.getElem?_eq_none (by rw[<- rv.length];exact hx)) fun h' ext=>⟨rfl,?_⟩
  exact I.turned (t':=s.toks) (it:=it) (fun b o hb z=>ext b o hb z) f0 f1 f3 f4 f5
 self:=fun A i s Q E st q=>by
  obtain ⟨⟨old,h1⟩,_⟩:=st
  have hT:s.TypeIs (.ref e) "enumerate":=⟨_,h1,rfl⟩
  refine wpAny_pyIter_slot hT F.slot_enumerate_iter (wpAny_call_entry F.slot_enumerate_iter hT F.entry_enumerate_iter ?_ (F.args_enumerate_iter_1 _))
  show wpAny _ _ (ret (.ref e)) _ _ s
  exact wpAny_pure ⟨_,rfl,"enumerate",_,hT,F.slot_enumerate_next.lookup,q⟩
theorem Zj6 {P:Program} {w:World} {K:PySem.W.Frag} {B:Around} {elts:List Expr} {k0:Nat} {tp:Pos} (hB:B.handled=none) {z TI TO i1 i2 a b:Addr} (D:ZipApart z TI TO i1 i2 a b):
  Turn P w K B (.Tuple elts k0 tp) (Itz K a b) [z,TI,TO,i1,i2] z (fun i h=>IsZip h z TI TO .none/\IsPair h TI (.ref i1) (.ref i2)/\(∃ x y,IsPair h TO x y)/\h.IsListIter i1 a i/\h.IsListIter i2 b i) where
 mem:=by simp
 obj:=fun i h st c hc=>by
  obtain ⟨h1,h2,⟨x,y,h3⟩,⟨o4,e4,c4,d4⟩,⟨o5,e5,c5,d5⟩⟩:=st
  simp only[List.mem_cons,List.not_mem_nil,or_false] at hc
  rcases hc with rfl | rfl | rfl | rfl | rfl
  ·exact ⟨_,h1,fun v q=>by cases q⟩
  ·exact ⟨_,h2,fun v q=>by cases q⟩
  ·exact ⟨_,h3,fun v q=>by cases q⟩
  ·exact ⟨o4,e4,fun v q=>by rw[d4] at q;cases q⟩
  ·exact ⟨o5,e5,fun v q=>by rw[d5] at q;cases q⟩
 keep:=fun i h h' st k=>by
  obtain ⟨h1,h2,⟨x,y,h3⟩,h4,h5⟩:=st
  exact ⟨k z (by simp) _ h1,k TI (by simp) _ h2,⟨x,y,k TO (by simp) _ h3⟩,h4.at fun o q=>k i1 (by simp) o q,h5.at fun o q=>k i2 (by simp) o q⟩
 item:=by
  intro X hP hw hK hA i pins s σ H E I hf st hg
  subst hP hw hK hA
  obtain ⟨h1,h2,⟨x0,y0,h3⟩,h4,h5⟩:=st
  obtain ⟨xs,ys,x,y,hq,hq2,hx,hy⟩:=hg
  obtain ⟨its,rv,p,hz⟩:=I.list hq
  obtain ⟨its2,rv2,p2,hz2⟩:=I.list hq2
  obtain ⟨u,hu,ru⟩:=rv.get hx
  obtain ⟨u2,hu2,ru2⟩:=rv2.get hy
  have lt: ∀ c∈[z,TI,TO,i1,i2],c < s.heap.objs.size:=fun c hc=>by
   simp only[List.mem_cons,List.not_mem_nil,or_false] at hc
   rcases hc with rfl | rfl | rfl | rfl | rfl
   ·exact Heap.lt_size h1
   ·exact Heap.lt_size h2
   ·exact Heap.lt_size h3
   ·obtain ⟨o,e2,_⟩:=h4;exact Heap.lt_size e2
   ·obtain ⟨o,e2,_⟩:=h5;exact Heap.lt_size e2
  refine wpAny_pyNext_zip_item D h1 h2 h3 h4 h5 p.isList p2.isList (x:=u) (y:=u2) (by simpa using hu) (by simpa using hu2) fun h' o1 o2 o3 o4 o5 o6 o7=>⟨_,rfl,?_⟩
  refine wpAny_letOwnedTupleGo_zip (s:={ s with heap:=h' }) o1 fun h'' q1 q2=> ?_
  have pe:s.heap.objs.size≠z:=Nat.ne_of_gt (lt z (by simp))
  obtain ⟨J1,J2,J3⟩:=Zk2 (h':=h'') (t':=s.toks) (ch:=[z,TI,TO,i1,i2]) (vs:=[x,y]) (us:=[u,u2]) I hf lt (.cons ru (.cons ru2 .nil)) (by show 2<=sizeLine;decide)
   (fun c o hc q=>by
    simp only[List.mem_cons,List.not_mem_nil,or_false,not_or] at hc
    exact (q2.2 c hc.1).trans (o7 c o hc.1 hc.2.2.1 hc.2.2.2.1 hc.2.2.2.2 q)) ((q2.2 _ pe).trans o5)
  refine ⟨.ref s.heap.objs.size,_,J1,rfl,⟨_,J2,rfl,fun xs' ys' x' y' hx1 hy1 hx2 hy2=> ?_⟩,⟨q1,(q2.2 TI D.TIz).trans (o7 TI _ D.TIz D.TITO D.TIi1 D.TIi2 h2),⟨u,u2,(q2.2 TO D.TOz).trans o2⟩,o3.at fun o q=>(q2.2 i1 D.i1z).trans q,o4.at fun o q=>(q2.2 i2 D.i2z).trans q⟩,J3⟩
  rw[I.list_inj hx1 hq,hx] at hx2
  rw[I.list_inj hy1 hq2,hy] at hy2
  cases hx2
  cases hy2
  rfl
 done:=by
  intro X hP hw hK hA i pins s σ H E I hf st hg
  subst hP hw hK hA
  obtain ⟨h1,h2,⟨x0,y0,h3⟩,h4,h5⟩:=st
  obtain ⟨xs,ys,hq,hq2,hx⟩:=hg
  obtain ⟨its,rv,p,hz⟩:=I.list hq
  obtain ⟨its2,rv2,p2,hz2⟩:=I.list hq2
  have he:its.toArray[i]?=none\/its2.toArray[i]?=none:=by
   rcases hx with hx | hx
   ·exact .inl (by simp only[List.getElem?_toArray];exact List.getElem?_eq_none (by rw[<- rv.length];exact hx))
   ·exact .inr (by simp only[List.getElem?_toArray];exact List.getElem?_eq_none (by rw[<- rv2.length];exact hx))
  refine wpAny_pyNext_zip_end hB D h1 h2 h3 h4 h5 p.isList p2.isList he fun h' keep=>⟨rfl,?_⟩
  refine Zix (t':=s.toks) (ch:=[z,TI,TO,i1,i2]) I (fun c o hc q=> ?_) hf
  simp only[List.mem_cons,List.not_mem_nil,or_false,not_or] at hc
  exact keep c o hc.1 hc.2.2.1 hc.2.2.2.1 hc.2.2.2.2 q
 self:=fun A i s Q E st q=>wpAny_pyIter_zip st.1 q
theorem Zow {n a b:Nat} (h1:a < n) (h2:b < n):ZipApart (n + 4) (n + 2) (n + 3) n (n + 1) a b:=⟨Nat.ne_of_lt (by omega),Nat.ne_of_lt (by omega),Nat.ne_of_lt (by omega),Nat.ne_of_lt (by omega),Nat.ne_of_lt (by omega),Nat.ne_of_gt (by omega),Nat.ne_of_gt (by omega),Nat.ne_of_gt (by omega),Nat.ne_of_gt (by omega),Nat.ne_of_lt (by omega),Nat.ne_of_lt (by omega),Nat.ne_of_lt (by omega),Nat.ne_of_lt (by omega),Nat.ne_of_lt (by omega),Nat.ne_of_lt (by omega),Nat.ne_of_lt (by omega),Nat.ne_of_lt (by omega),Nat.ne_of_lt (by omega)⟩
theorem Zox:bootBuiltins "zip"=some (.type "zip"):=by decide +kernel
theorem Zfa:bootBuiltins "enumerate"=some (.type "enumerate"):=by decide +kernel
section
variable {X:Cx} {ξ:XK} {a b:Expr} {elts:List Expr} {k0:Nat} {tp:Pos} {fa:Ev} {fs:Av} {p pos:Pos} {ta:TA}
noncomputable def ZqZ (K:PySem.W.Frag) (t:TA):TI:=fun σ H R=>t σ H fun vs H1=> ∃ l xs,vs=[.ref l]/\SqL K H1 l xs/\R (Ite K l) H1
noncomputable def ZtS (K:PySem.W.Frag) (t:TA):TI:=fun σ H R=>t σ H fun vs H1=> ∃ l l2 xs ys,vs=[.ref l,.ref l2]/\SqL K H1 l xs/\SqL K H1 l2 ys/\R (Itz K l l2) H1
theorem Zmi (hc:X.A.handled=none) (hg:Gl X "enumerate") (hm:X.mg "enumerate"=none) (ha:PA X [a] ta) (hs:starEach [a] X.env=(false,eval a X.env) :: starEach [] X.env:=by rfl) (hpl:(backTo pos (starEach [] X.env)).any (·.1)=false:=by rfl):
  PI X (.Tuple elts k0 tp) (.Call (.Name "enumerate" p) [a] [] pos) (ZqZ X.K ta):=by
 intro pins s σ H R I h
 refine wpAny_Call_Name_kw (Zcm I hg hm Zfa (PyProof.Rows.callWith_type1 (thn (ha pos pins s σ H _ I h) fun us s1 ⟨vs,H1,I1,r1,q1⟩=> ?_) hs hpl) (by decide) (by decide))
 obtain ⟨l,xs,rfl,hq,q⟩:=q1
 obtain ⟨u,rfl,ru⟩:=ZdL r1
 cases ru
 obtain ⟨its,rv,pl,hz⟩:=I1.list hq
 refine call_enumerate_list pl.isList fun h' e1 e2 e3 e4=> ?_
 have T:=Ziy (P:=X.prog) (w:=X.w) (K:=X.K) (B:=X.A) (elts:=elts) (k0:=k0) (tp:=tp) hc l (s1.heap.objs.size + 1) s1.heap.objs.size (Nat.ne_of_gt (Nat.lt_succ_self _))
 have I2:Inv X pins σ H1 { s1 with heap:=h',toks:=s1.toks }:=I1.kept (t':=s1.toks) e4
 refine T.self X.A 0 { s1 with heap:=h' } _ _ ⟨⟨_,e1⟩,e2⟩ ⟨_,_,_,_,H1,rfl,I2,T,⟨⟨_,e1⟩,e2⟩,fun b hb=> ?_,q⟩
 have hb':s1.heap.objs.size<=b:=by
  simp only[List.mem_cons,List.not_mem_nil,or_false] at hb
  rcases hb with rfl | rfl<;>omega
 exact I1.fpOk hb' (I1.hok.fresh hb')
theorem Zoy (hc:X.A.handled=none) (hg:Gl X "zip") (hm:X.mg "zip"=none) (ha:PA X [a,b] ta) (hs:starEach [a,b] X.env=(false,eval a X.env) :: starEach [b] X.env:=by rfl) (hpl:(backTo pos (starEach [b] X.env)).any (·.1)=false:=by rfl):
  PI X (.Tuple elts k0 tp) (.Call (.Name "zip" p) [a,b] [] pos) (ZtS X.K ta):=by
 intro pins s σ H R I h
 refine wpAny_Call_Name_kw (Zcm I hg hm Zox (PyProof.Rows.callWith_type1 (thn (ha pos pins s σ H _ I h) fun us s1 ⟨vs,H1,I1,r1,q1⟩=> ?_) hs hpl) (by decide) (by decide))
 obtain ⟨l,l2,xs,ys,rfl,hq,hq2,q⟩:=q1
 obtain ⟨u,u2,rfl,ru,ru2⟩:=ZhI r1
 cases ru
 cases ru2
 obtain ⟨its,rv,pl,hz⟩:=I1.list hq
 obtain ⟨its2,rv2,pl2,hz2⟩:=I1.list hq2
 have lt1:l < s1.heap.objs.size:=by obtain ⟨_,e,_⟩:=pl.isList;exact Heap.lt_size e
 have lt2:l2 < s1.heap.objs.size:=by obtain ⟨_,e,_⟩:=pl2.isList;exact Heap.lt_size e
 refine call_zip_2 pl.isList pl2.isList fun h' e1 e2 e3 e4 e5 e6 e7=> ?_
 have D:=Zow lt1 lt2
 have T:=Zj6 (P:=X.prog) (w:=X.w) (K:=X.K) (B:=X.A) (elts:=elts) (k0:=k0) (tp:=tp) hc D
 have I2:Inv X pins σ H1 { s1 with heap:=h',toks:=s1.toks }:=I1.kept (t':=s1.toks) e7
 refine T.self X.A 0 { s1 with heap:=h' } _ _ ⟨e1,e2,⟨_,_,e3⟩,e4,e5⟩ ⟨_,_,_,_,H1,rfl,I2,T,⟨e1,e2,⟨_,_,e3⟩,e4,e5⟩,fun c hc=> ?_,q⟩
 have hb':s1.heap.objs.size<=c:=by
  simp only[List.mem_cons,List.not_mem_nil,or_false] at hc
  rcases hc with rfl | rfl | rfl | rfl | rfl<;>omega
 exact I1.fpOk hb' (I1.hok.fresh hb')
noncomputable def iEn (fs:Av):Ro->Sto->Out Src:=fun ρ M=>(fs ρ M).bind fun ds M1=>match ds with | [.ref n]=> .ok (.enu n) M1 | _=> .bad
noncomputable def iZp (fs:Av):Ro->Sto->Out Src:=fun ρ M=>(fs ρ M).bind fun ds M1=>match ds with | [.ref n,.ref m]=> .ok (.zip n m) M1 | _=> .bad
theorem ZfV (hc:X.A.handled=none) (hm:X.mg "enumerate"=none) (ha:DA X ξ [a] fs) (hg:Gl X "enumerate":=by rfl) (hs:starEach [a] X.env=(false,eval a X.env) :: starEach [] X.env:=by rfl) (hpl:(backTo pos (starEach [] X.env)).any (·.1)=false:=by rfl):
  DI X ξ (.Tuple elts k0 tp) (.Call (.Name "enumerate" p) [a] [] pos) (iEn fs):=by
 obtain ⟨ta,pa,qa⟩:=ha
 refine ⟨_,Zmi hc hg hm pa hs hpl,fun σ ρ H α M R s hh q=>qa σ ρ H α M _ s hh (OG.seq q fun ds M1 vs H1 α1 e1 h1 r1 w1=> ?_)⟩
 match r1 with
 | .nil=>exact w1.elim
 | .cons r (.cons _ _)=>cases r<;>exact w1.elim
 | .cons r .nil=>
  cases r with
  | @ref l n hp=>
   obtain ⟨xs0,g0⟩:=h1.some_at hp
   refine ⟨l,xs0,rfl,SqL.of g0,w1 _ H1 α1 Ext.refl h1 fun i H' α' M' ex hr=> ?_⟩
   cases em:M'[n]? with
   |none=>rw[show nxt (.enu n) i M'=none by simp only[nxt,em]];exact True.intro
   |some so=>
    cases so with
    |lst es=>
     obtain ⟨xs,g1,g2⟩:=hr.at (ex.get hp) em
     cases ei:es[i]? with
     |none=>rw[show nxt (.enu n) i M'=some none by simp only[nxt,em,ei]];exact ⟨xs,SqL.of g1,by rw[g2.length];exact List.getElem?_eq_none_iff.mp ei⟩
     |some d=>
      obtain ⟨v,k1,k2⟩:=g2.get ei
      rw[show nxt (.enu n) i M'=some (some (D.tup [D.int i,d])) by simp only[nxt,em,ei]]
      refine ⟨⟨xs,v,SqL.of g1,k1⟩,fun x H'' y=> ?_⟩
      obtain ⟨pp,y1,rfl,y3⟩:=y
      have y4:=y3 xs v (SqL.of g1) k1
      subst y4
      exact ⟨Ext.new0 y1,hr.tup y1,.tup Zt (.cons (.int i) (.cons (Rep.mono (Ext.new0 y1) k2) .nil))⟩
  |_=>exact w1.elim
theorem ZgN (hc:X.A.handled=none) (hm:X.mg "zip"=none) (ha:DA X ξ [a,b] fs) (hg:Gl X "zip":=by rfl) (hs:starEach [a,b] X.env=(false,eval a X.env) :: starEach [b] X.env:=by rfl) (hpl:(backTo pos (starEach [b] X.env)).any (·.1)=false:=by rfl):
  DI X ξ (.Tuple elts k0 tp) (.Call (.Name "zip" p) [a,b] [] pos) (iZp fs):=by
 obtain ⟨ta,pa,qa⟩:=ha
 refine ⟨_,Zoy hc hg hm pa hs hpl,fun σ ρ H α M R s hh q=>qa σ ρ H α M _ s hh (OG.seq q fun ds M1 vs H1 α1 e1 h1 r1 w1=> ?_)⟩
 split at w1
 ·rename_i n m
  cases r1 with
  |cons r t=>
   cases t with
   |cons r' t=>
    cases t
    cases r with
    |ref hp=>
    cases r' with
    |ref hp2=>
    rename_i l l2
    obtain ⟨xs0,g0⟩:=h1.some_at hp
    obtain ⟨ys0,g0'⟩:=h1.some_at hp2
    refine ⟨l,l2,xs0,ys0,rfl,SqL.of g0,SqL.of g0',w1 _ H1 α1 Ext.refl h1 fun i H' α' M' ex hr=> ?_⟩
    cases em:M'[n]? with
    |none=>rw[show nxt (.zip n m) i M'=none by simp only[nxt,em]];exact True.intro
    |some so=>
     cases em2:M'[m]? with
     |none=>cases so;rw[show nxt (.zip n m) i M'=none by simp only[nxt,em,em2]];exact True.intro
     |some so2=>
      cases so with
      |lst es=>
       cases so2 with
       |lst es2=>
        obtain ⟨xs,g1,g2⟩:=hr.at (ex.get hp) em
        obtain ⟨ys,g3,g4⟩:=hr.at (ex.get hp2) em2
        cases ei:es[i]? with
        |none=>rw[show nxt (.zip n m) i M'=some none by simp only[nxt,em,em2,ei]];exact ⟨xs,ys,SqL.of g1,SqL.of g3,.inl (by rw[g2.length];exact List.getElem?_eq_none_iff.mp ei)⟩
        |some d=>
         cases ej:es2[i]? with
         |none=>rw[show nxt (.zip n m) i M'=some none by simp only[nxt,em,em2,ei,ej]];exact ⟨xs,ys,SqL.of g1,SqL.of g3,.inr (by rw[g4.length];exact List.getElem?_eq_none_iff.mp ej)⟩
         |some d2=>
          obtain ⟨v,k1,k2⟩:=g2.get ei
          obtain ⟨v2,k3,k4⟩:=g4.get ej
          rw[show nxt (.zip n m) i M'=some (some (D.tup [d,d2])) by simp only[nxt,em,em2,ei,ej]]
          refine ⟨⟨xs,ys,v,v2,SqL.of g1,SqL.of g3,k1,k3⟩,fun x H'' y=> ?_⟩
          obtain ⟨pp,y1,rfl,y3⟩:=y
          have y4:=y3 xs ys v v2 (SqL.of g1) (SqL.of g3) k1 k3
          subst y4
          exact ⟨Ext.new0 y1,hr.tup y1,.tup Zt (.cons (Rep.mono (Ext.new0 y1) k2) (.cons (Rep.mono (Ext.new0 y1) k4) .nil))⟩
 ·exact w1.elim
end
end DL
end
section
namespace DL
open PySem PySem.Spec PyProof.Rows L2
open PySem.SeqAt (EqAt RcAt RcNeAt)
section
variable {X:Cx} {ξ:XK} {pins:List (Addr × Obj)} {σ:L2.St} {H:Hp} {s:Shared} {α:List Addr} {M:Sto}
noncomputable def eqs (M:Sto) (d:D):List D->Option (List Bool)
 | []=>some []
 |x :: r=>match eqF 12 M x d with | some b=>(match eqs M d r with | some bs=>some (b :: bs) | none=>none) | none=>none
end
section
variable {X:Cx} {ξ:XK}
noncomputable def inE (x y:D) (M:Sto):Option Bool:=match ZfQ M y with | some ds=>(match eqs M x ds with | some bs=>some (bs.any id) | none=>none) | none=>none
noncomputable def ZsI:Bo:=fun x y M=>match inE x y M with | some b=> .ok (.bl b) M | none=> .bad
noncomputable def Ziz:Bo:=fun x y M=>match inE x y M with | some b=> .ok (.bl (!b)) M | none=> .bad
noncomputable def ZtT:Me:=fun x ds M=>match x,ds with
 | .ref n,[d]=>(match M[n]? with | some (.lst xs)=>(match eqs M d xs with | some bs=>(match bs.findIdx? id with | some j=> .ok (.int (j:Nat)) M | none=> .bad) | none=> .bad) | none=> .bad)
 |_,_=> .bad
noncomputable def ZtU:Me:=fun x ds M=>match x,ds with
 | .ref n,[d]=>(match M[n]? with | some (.lst xs)=>(match eqs M d xs with | some bs=> .ok (.int (bs.countP id:Nat)) M | none=> .bad) | none=> .bad)
 |_,_=> .bad
noncomputable def Zb2:List D->Option (List Int)
 | []=>some []
 | .int b :: r=>match Zb2 r with | some bs=>some (b :: bs) | none=>none
 |_ :: _=>none
theorem ZgO {K:PySem.W.Frag} {H:Hp} {α:List Addr}: ∀ {vs:List V} {ds:List D} {bs:List Int},Reps K H α vs ds->Zb2 ds=some bs->vs=bs.map V.int
 |_,_,_,.nil,e=>by cases e;rfl
 |_,_,bs,.cons (d:=d) (ds:=ds) r t,e=>by
  cases r with
  |int b=>
   cases e1:Zb2 ds with
   |none=>simp only[Zb2,e1] at e;cases e
   |some cs=>
    simp only[Zb2,e1,Option.some.injEq] at e
    subst e
    rw[ZgO t e1]
    rfl
  |_=>cases e
noncomputable def Zhb (X:Cx) (g:List Int->Option V):List V->Hp->VK->Prop:=fun vs H Q=> ∃ (p:Addr) (ns:List Int) (v:V),vs=[.ref p]/\SqL X.K H p (ns.map V.int)/\g ns=some v/\Q v H
theorem Zcr: ∀ {ns:List Int} {us:List Value} {i:Nat} {u:Value},Z2 (ns.map V.int) us->us[i]?=some u-> ∃ t,u= .int (ns.getD i 0) t
 | [],us,i,u,h,e=>by cases h;simp at e
 |b :: r,us,i,u,h,e=>by
  cases h with
  |cons h1 h2=>
   cases i with
   |zero=>simp at e;subst e;exact h1
   |succ i=>simp at e;obtain ⟨t,g⟩:=Zcr h2 e;exact ⟨t,by simpa using g⟩
theorem Zfb (hc:X.calm=true) {pins:List (Addr × Obj)} {σ:L2.St} {H:Hp} {s:Shared} {p:Addr} {ns:List Int} (I:Inv X pins σ H s) (hl:SqL X.K H p (ns.map V.int)) {Q:Value->Shared->Prop} {E:Value->Shared->Prop}
  (q: ∀ (its:List Value) (it:Addr),Z2 (ns.map V.int) its->its.length=ns.length->it=s.heap.objs.size->Walks X.prog X.w X.A.in1 it [it,p] [it] its.toArray.size (fun i v=>its.toArray[i]?=some v) (fun i h=>h.IsListIter it p i/\h.IsList p its.toArray)->
   (∀ b∈[it,p],b < (s.heap.push { cls:= .type "list_iterator",data:= .fields #[.ref p,.int 0 0] }).objs.size)->((s.heap.push { cls:= .type "list_iterator",data:= .fields #[.ref p,.int 0 0] }).IsListIter it p 0/\(s.heap.push { cls:= .type "list_iterator",data:= .fields #[.ref p,.int 0 0] }).IsList p its.toArray)->
   (∀ h' tk,(∀ b o,b ∉ [it]->(s.heap.push { cls:= .type "list_iterator",data:= .fields #[.ref p,.int 0 0] }).get? b=some o->h'.get? b=some o)->Inv X pins σ H { s with heap:=h',toks:=tk })->Q (.ref it) { s with heap:=s.heap.push { cls:= .type "list_iterator",data:= .fields #[.ref p,.int 0 0] } }):
  wpAny (model X.prog X.w) X.A.in1 (pyIter (.ref p)) Q E s:=by
 obtain ⟨its,hv,hp,hz⟩:=I.list hl
 have hlt:p < s.heap.objs.size:=by obtain ⟨_,e,_⟩:=hp.isList;exact Heap.lt_size e
 refine wpAny_pyIter_list hp.isList ?_
 refine q its s.heap.objs.size hv (by rw[<- hv.length,List.length_map]) rfl (Walks.list (A:=X.A.in1) (I.ok.hd hc) _ p (Nat.ne_of_lt hlt) its.toArray) (fun b hb=> ?_) ⟨⟨_,Heap.get?_push_size _ rfl,rfl,rfl⟩,hp.isList.push _⟩ fun h' tk hk=> ?_
 ·rw[Heap.size_push]
  simp only[List.mem_cons,List.not_mem_nil,or_false] at hb
  rcases hb with rfl | rfl
  ·exact Nat.lt_succ_self _
  ·exact Nat.lt_succ_of_lt hlt
 ·exact I.kept fun b o e=>hk b o (fun hm=>by rw[List.mem_singleton.mp hm] at e;exact Nat.lt_irrefl _ (Heap.lt_size e)) (Heap.get?_push_of_some _ e)
theorem Zj7 {ns:List Int} (h:0 < ns.length):ns.max?=some (ns.getD (argBest (fun i j=>decide (ns.getD i 0 > ns.getD j 0)) (ns.length - 1)) 0):=by
 obtain ⟨h1,h2⟩:=argBest_gt (fun i=>ns.getD i 0) (ns.length - 1)
 refine List.max?_eq_some_iff.mpr ⟨?_,fun b hb=> ?_⟩
 ·have hl:argBest (fun i j=>decide (ns.getD i 0 > ns.getD j 0)) (ns.length - 1) < ns.length:=by omega
  rw[List.getD_eq_getElem?_getD,List.getElem?_eq_getElem hl]
  exact List.getElem_mem hl
 ·obtain ⟨j,hj,rfl⟩:=List.getElem_of_mem hb
  have:=h2 j (by omega)
  rwa [show ns.getD j 0=ns[j] by rw[List.getD_eq_getElem?_getD,List.getElem?_eq_getElem hj];rfl] at this
theorem Zj8 {ns:List Int} (h:0 < ns.length):ns.min?=some (ns.getD (argBest (fun i j=>decide (ns.getD i 0 < ns.getD j 0)) (ns.length - 1)) 0):=by
 obtain ⟨h1,h2⟩:=argBest_lt (fun i=>ns.getD i 0) (ns.length - 1)
 refine List.min?_eq_some_iff.mpr ⟨?_,fun b hb=> ?_⟩
 ·have hl:argBest (fun i j=>decide (ns.getD i 0 < ns.getD j 0)) (ns.length - 1) < ns.length:=by omega
  rw[List.getD_eq_getElem?_getD,List.getElem?_eq_getElem hl]
  exact List.getElem_mem hl
 ·obtain ⟨j,hj,rfl⟩:=List.getElem_of_mem hb
  have:=h2 j (by omega)
  rwa [show ns.getD j 0=ns[j] by rw[List.getD_eq_getElem?_getD,List.getElem?_eq_getElem hj];rfl] at this
noncomputable def Zqp (ns:List Int):Option V:=ns.max?.map V.int
noncomputable def Zqq (ns:List Int):Option V:=ns.min?.map V.int
theorem Zcs (hc:X.calm=true):Zb6 X (.builtin "max") (Zhb X Zqp):=by
 intro pins s σ H vs us Q I rs hh
 obtain ⟨p,ns,v,e,hl,hg,q⟩:=hh
 subst e
 obtain ⟨u,rfl,ru⟩:=ZdL rs
 cases ru
 have hn:0 < ns.length:=by cases ns with | nil=>cases hg | cons _ _=>simp
 unfold Zqp at hg
 rw[Zj7 hn] at hg
 cases hg
 refine call_max_walk (Zfb hc I hl fun its it hv hlen ei W hfp st back=> ?_)
 refine ⟨it,_,_,_,_,_,_,rfl,W,st,hfp,by rw[List.size_toArray,hlen];exact hn,CmpOf.ints_gt (fun i=>ns.getD i 0) (fun i v hP=>Zcr hv (by simpa using hP)),fun v h' tk hP hk=>⟨_,H,back h' tk hk,?_,q⟩⟩
 rw[List.size_toArray,hlen] at hP
 exact Zcr hv (by simpa using hP)
theorem Zdv (hc:X.calm=true):Zb6 X (.builtin "min") (Zhb X Zqq):=by
 intro pins s σ H vs us Q I rs hh
 obtain ⟨p,ns,v,e,hl,hg,q⟩:=hh
 subst e
 obtain ⟨u,rfl,ru⟩:=ZdL rs
 cases ru
 have hn:0 < ns.length:=by cases ns with | nil=>cases hg | cons _ _=>simp
 unfold Zqq at hg
 rw[Zj8 hn] at hg
 cases hg
 refine call_min_walk (Zfb hc I hl fun its it hv hlen ei W hfp st back=> ?_)
 refine ⟨it,_,_,_,_,_,_,rfl,W,st,hfp,by rw[List.size_toArray,hlen];exact hn,CmpOf.ints_lt (fun i=>ns.getD i 0) (fun i v hP=>Zcr hv (by simpa using hP)),fun v h' tk hP hk=>⟨_,H,back h' tk hk,?_,q⟩⟩
 rw[List.size_toArray,hlen] at hP
 exact Zcr hv (by simpa using hP)
noncomputable def ZcH (g:List Int->Option Int):List D->Sto->Out D:=fun ds M=>match ds with
 | [x]=>(match ZfQ M x with | some xs=>(match x with | .con _=> .bad | .tup _=> .bad | _=>(match Zb2 xs with | some ns=>(match g ns with | some i=> .ok (.int i) M | none=> .bad) | none=> .bad)) | none=> .bad)
 |_=> .bad
theorem ZiA {g:List Int->Option Int} {gV:List Int->Option V} (hg: ∀ ns i,g ns=some i->gV ns=some (.int i)):CO X ξ (Zhb X gV) (ZcH g):=by
 intro H α M vs ds Q h rs q
 unfold ZcH at q
 match rs with
 | .nil=>exact q.elim
 | .cons _ (.cons _ _)=>exact q.elim
 | .cons (d:=x) r .nil=>
  have fin: ∀ (p:Addr) (xs:List V) (ys:List D),SqL X.K H p xs->Reps X.K H α xs ys->OP X.K H α ξ Q (match Zb2 ys with | some ns=>(match g ns with | some i=> .ok (.int i) M | none=> .bad) | none=> .bad)->Zhb X gV [.ref p] H Q:=fun p xs ys k1 k2 q=>by
   cases e1:Zb2 ys with
   |none=>rw[e1] at q;exact q.elim
   |some ns=>
    cases e2:g ns with
    |none=>simp only[e1,e2] at q;exact q.elim
    |some i=>
     simp only[e1,e2] at q
     have:=ZgO k2 e1
     subst this
     exact ⟨p,ns,.int i,rfl,k1,hg _ _ e2,q _ H α Ext.refl h (.int i)⟩
  cases r with
  | @rol p xs ds hp rp=>exact fin p xs ds hp.sq rp q
  | @ref p n hp=>
   cases em:M[n]? with
   |none=>simp only[ZfQ,em] at q;exact q.elim
   |some so=>
    cases so with
    |lst es=>
     simp only[ZfQ,em] at q
     obtain ⟨xs,g1,g2⟩:=h.at hp em
     exact fin p xs es (SqL.of g1) g2 q
  |tup _ _=>exact q.elim
  |con _ _=>exact q.elim
  |_=>exact q.elim
theorem Zep:CO X ξ (Zhb X Zqp) (ZcH List.max?):=ZiA fun ns i e=>by unfold Zqp;rw[e];rfl
theorem ZfW:CO X ξ (Zhb X Zqq) (ZcH List.min?):=ZiA fun ns i e=>by unfold Zqq;rw[e];rfl
end
end DL
end
section
namespace DL
open PySem PySem.Spec PyProof.Rows L2
noncomputable def kK:D->Option Key
 | .int i=>some (.inl i)
 | .str x=>some (.inr x)
 |_=>none
noncomputable def kKs:List D->Option (List Key)
 | []=>some []
 |d :: r=>match kK d,kKs r with | some k,some ks=>some (k :: ks) | _,_=>none
noncomputable def kT:D->Option (List Key)
 | .tup ds=>kKs ds
 |_=>none
theorem ZiB (k:Key):kK (Zg6 k)=some k:=by cases k<;>rfl
theorem ZgP: ∀ (ks:List Key),kKs (ks.map Zg6)=some ks
 | []=>rfl
 |k :: ks=>by rw[List.map_cons,kKs,ZiB,ZgP ks]
theorem Zj9 (ks:List Key):kT (Zg7 ks)=some ks:=ZgP ks
section
variable {κ:Type} [DecidableEq κ]
noncomputable def ZiC (dec:D->Option κ) (k:κ):List D->Option D
 | []=>none
 | .tup [a,v] :: r=>if dec a=some k then some v else ZiC dec k r
 |_ :: r=>ZiC dec k r
variable {K:PySem.W.Frag} {H H':Hp} {α α':List Addr} {key:κ->D} {dec:D->Option κ}
theorem Zfc:Zbo K H α key [] []:=⟨[],rfl,.nil⟩
theorem Zdw (hd: ∀ k,dec (key k)=some k): ∀ {kvs:List (κ × V)} {es:List D} (k:κ),Reps K H α (kvs.map (·.2)) es->
  match ZiC dec k (List.zipWith (fun kv e=>D.tup [key kv.1,e]) kvs es) with | none=>ZfL kvs k=none | some d=> ∃ v,ZfL kvs k=some v/\Rep K H α v d
 | [],es,k,h=>by cases h;rfl
 | (k',v) :: kvs,_,k,.cons r t=>by
  simp only[List.zipWith_cons_cons,ZiC,hd,Option.some.injEq]
  by_cases c:k'=k
  ·rw[if_pos c]
   exact ⟨v,Zeg (p:=(k',v)) c,r⟩
  ·rw[if_neg c]
   have:=Zdw hd k t
   have e:ZfL ((k',v) :: kvs) k=ZfL kvs k:=Zeh (p:=(k',v)) c
   rw[e]
   exact this
theorem ZiD {kvs:List (κ × V)} {ds:List D} (h:Zbo K H α key kvs ds):kvs.length=ds.length:=by
 obtain ⟨es,rfl,hr⟩:=h
 have:=hr.length
 rw[List.length_map] at this
 simp[this]
theorem Zd0 {kvs:List (κ × V)} {ds:List D} (h:Zbo K H α key kvs ds) (e:Ext K H H' α α'):Zbo K H' α' key kvs ds:=by
 obtain ⟨es,h1,h2⟩:=h
 exact ⟨es,h1,Reps.mono e h2⟩
end
noncomputable def Zq0 (K:PySem.W.Frag) (H:Hp) (α:List Addr) (o:Option D) (ov:Option V):Prop:=match o with | none=>ov=none | some d=> ∃ u,ov=some u/\Rep K H α u d
theorem ZtV {a b:Nat} (h:a + 64 < b):a + 1 < b:=by omega
noncomputable def Zhc (M:Sto) (x k:D):Option (Option D):=match x with
 | .dk n=>(match kK k,M[n]? with | some kk,some (.lst ds)=>some (ZiC kK kk ds) | _,_=>none)
 | .dt n=>(match kT k,M[n]? with | some kk,some (.lst ds)=>some (ZiC kT kk ds) | _,_=>none)
 |_=>none
section
variable {X:Cx} {ξ:XK} {H:Hp} {α:List Addr} {M:Sto}
theorem ZiE {v:V} {d:D} {k:Key} (r:Rep X.K H α v d) (e:kK d=some k):v=kV k:=by
 cases r with
 |int i=>cases e;rfl
 |str x=>cases e;rfl
 |_=>cases e
theorem ZgQ: ∀ {vs:List V} {ds:List D} {ks:List Key},Reps X.K H α vs ds->kKs ds=some ks->vs=ks.map kV
 |_,_,ks,.nil,e=>by cases e;rfl
 |_,_,ks,.cons (d:=d) (ds:=ds) r t,e=>by
  unfold kKs at e
  split at e
  ·rename_i k ks' e1 e2
   cases e
   rw[List.map_cons,ZiE r e1,ZgQ t e2]
  ·cases e
theorem Zmj (h:HR X.K H α M) {v w:V} {x k:D} {o:Option D} (r:Rep X.K H α v x) (rk:Rep X.K H α w k) (e:Zhc M x k=some o):
  ∃ a ov,v= .ref a/\Zqn H a w ov/\IsD H a/\Zq0 X.K H α o ov:=by
 cases r with
 | @dk p n hp=>
  simp only[Zhc] at e
  split at e
  ·rename_i kk ds e1 e2
   cases e
   obtain ⟨kvs,es,g1,g2,ed⟩: ∃ kvs es,Rd H p (.dK kvs)/\Reps X.K H α (kvs.map (·.2)) es/\ZiC kK kk ds=ZiC kK kk (List.zipWith (fun kv e=>D.tup [Zg6 kv.1,e]) kvs es):=by
    rcases h.atK hp e2 with ⟨kvs,g1,es,rfl,g2⟩ | ⟨o,kvs,_,g1,rfl,es,rfl,g2⟩
    ·exact ⟨kvs,es,.inl g1,g2,rfl⟩
    ·exact ⟨kvs,es,.inr ⟨o,g1⟩,g2,rfl⟩
   rw[ed]
   have pv:=Zdw ZiB kk g2
   refine ⟨p,ZfL kvs kk,rfl,.inl ⟨kvs,kk,g1,ZiE rk e1,rfl⟩,.inl ⟨kvs,g1⟩,?_⟩
   unfold Zq0
   exact pv
  ·cases e
 | @dt p n hp=>
  simp only[Zhc] at e
  split at e
  ·rename_i kk ds e1 e2
   cases e
   obtain ⟨kvs,es,g1,g2,ed⟩: ∃ kvs es,Rd H p (.dT kvs)/\Reps X.K H α (kvs.map (·.2)) es/\ZiC kT kk ds=ZiC kT kk (List.zipWith (fun kv e=>D.tup [Zg7 kv.1,e]) kvs es):=by
    rcases h.atT hp e2 with ⟨kvs,g1,es,rfl,g2⟩ | ⟨o,kvs,_,g1,rfl,es,rfl,g2⟩
    ·exact ⟨kvs,es,.inl g1,g2,rfl⟩
    ·exact ⟨kvs,es,.inr ⟨o,g1⟩,g2,rfl⟩
   rw[ed]
   have pv:=Zdw Zj9 kk g2
   cases rk with
   | @tup b xs ds' hb rb=>
    refine ⟨p,ZfL kvs kk,rfl,.inr ⟨kvs,kk,b,g1,rfl,by rw[hb,ZgQ rb e1],rfl⟩,.inr ⟨kvs,g1⟩,?_⟩
    unfold Zq0
    exact pv
   |_=>cases e1
  ·cases e
 |_=>cases e
end
section
variable {X:Cx} {ξ:XK} {o i e:Expr} {fo fi f:Ev} {pos pos':Pos}
noncomputable def Zmk:Bo:=fun x k M=>match Zhc M x k with | some (some d)=> .ok d M | _=> .bad
theorem Zml (hu:X.A.units + 64 < cLine) (ho:DE X ξ o fo) (hi:DE X ξ i fi) (hs:ZqP i:=by exact fun _ _=>rfl):DE X ξ (.Subscript o i pos) (e2 Zmk fo fi):=by
 obtain ⟨to,po,qo⟩:=ho
 obtain ⟨ti,pi,qi⟩:=hi
 refine ⟨_,ZlT (ZtV hu) po pi hs,fun σ ρ H α M Q s h q=> ?_⟩
 refine qo σ ρ H α M _ s h (OG.seq q fun x M1 v H1 α1 e1 h1 r1 q1=> ?_)
 refine qi σ ρ H1 α1 M1 _ (s.mono e1) h1 (OG.seq q1 fun y M2 w H2 α2 e2 h2 r2 q2=> ?_)
 unfold Zmk at q2
 cases eg:Zhc M2 x y with
 |none=>rw[eg] at q2;exact q2.elim
 |some oo=>
  cases oo with
  |none=>rw[eg] at q2;exact q2.elim
  |some d=>
   rw[eg] at q2
   obtain ⟨a,ov,g1,g2,_,u,rfl,g4⟩:=Zmj h2 (Rep.mono e2 r1) r2 eg
   exact ⟨a,u,g1,g2,q2 u H2 α2 Ext.refl h2 g4⟩
end
end DL
end
section
namespace DL
open PySem PySem.Spec PyProof.Rows L2
theorem ZfX:bootBuiltins "reversed"=some (.type "reversed"):=by decide +kernel
section
variable {X:Cx} {ξ:XK} {tg a:Expr} {fs:Av} {p pos:Pos} {ta:TA}
noncomputable def iRv (fs:Av):Ro->Sto->Out Src:=fun ρ M=>(fs ρ M).bind fun ds M1=>match ds with | [.ref n]=>(match M1[n]? with | some (.lst xs)=> .ok (.rev n xs.length) M1 | none=> .bad) | _=> .bad
end
end DL
end
section
namespace DL
open PySem PySem.Spec PyProof.Rows L2
section
variable {X:Cx} {ξ:XK} {e e1 e2:Expr} {es:List Expr} {f:Ev} {pos:Pos}
noncomputable def eFm (f:Ev):Ev:=fun ρ M=>(f ρ M).bind fun x M1=>match x with
 | .int i=>if i.natAbs.log2 < 1900 then .ok (.str (Str.ofString (toString i))) M1 else .bad
 | .str y=>if y.length<=100000 then .ok (.str y) M1 else .bad
 |_=> .bad
theorem Zmm (ha:DE X ξ e f):DE X ξ (.FormattedValue e (-1) none pos) (eFm f):=by
 obtain ⟨ta,pa,qa⟩:=ha
 refine ⟨fun σ H Q=>ta σ H fun x H1=>(∃ i,x= .int i/\i.natAbs.log2 < 1900/\Q (.str (Str.ofString (toString i))) H1)\/ ∃ y,x= .str y/\y.length<=100000/\Q (.str y) H1,fun pins s σ H Q I h=> ?_,fun σ ρ H α M Q s h q=> ?_⟩
 ·refine wpAny_FormattedValue_plain (wpAny_mono (pa pins s σ H _ I h) (fun v s1 ⟨x,H1,I1,r1,q1⟩=> ?_) fun _ _ z=>z)
  rcases q1 with ⟨i,rfl,hi,q⟩ | ⟨y,rfl,hy,q⟩
  ·obtain ⟨t,rfl⟩:=r1
   exact wpAny_formatField_int (by omega) ⟨.str (Str.ofString (toString i)),H1,I1.tok _,⟨_,rfl⟩,q⟩
  ·obtain ⟨t,rfl⟩:=r1
   exact wpAny_formatField_str ⟨.str y,H1,I1,⟨_,rfl⟩,q⟩ ⟨.str y,H1,I1.tok _,⟨_,rfl⟩,q⟩ (Nat.le_trans hy (by rw[sizeLine_eq];decide))
 ·refine qa σ ρ H α M _ s h (OG.seq q fun x M1 v H1 α1 e1 h1 r1 q1=> ?_)
  cases r1 with
  |int i=>
   by_cases hi:i.natAbs.log2 < 1900
   ·simp only[hi,if_true] at q1
    exact .inl ⟨i,rfl,hi,q1 _ H1 α1 Ext.refl h1 (.str _)⟩
   ·simp only[hi,if_false] at q1
    exact q1.elim
  |str y=>
   by_cases hi:y.length<=100000
   ·simp only[hi,if_true] at q1
    exact .inr ⟨y,rfl,hi,q1 _ H1 α1 Ext.refl h1 (.str _)⟩
   ·simp only[hi,if_false] at q1
    exact q1.elim
  |_=>exact q1.elim
noncomputable abbrev Jv:=Str->Ro->Sto->Out Str
noncomputable def PJ (X:Cx) (es:List Expr) (t:L2.St->Hp->Str->(Str->Hp->Prop)->Prop):Prop:=
 ∀ (pins:List (Addr × Obj)) (s:Shared) (σ:L2.St) (H:Hp) (acc:Str) (Q:Str->Hp->Prop),Inv X pins σ H s->t σ H acc Q->Joins (model X.prog X.w) X.A X.xe (evalEach es X.env) acc (fun out s1=>out.length<=100000/\ ∃ H',Inv X pins σ H' s1/\Q out H') s
noncomputable def DJ (X:Cx) (ξ:XK) (es:List Expr) (g:Jv):Prop:= ∃ t,PJ X es t/\ ∀ σ ρ H α M acc (Q:Str->Hp->Prop),SR X.K H α σ ρ->HR X.K H α M->OG X.K (fun _ _ v d=>v=d) H α ξ Q (g acc ρ M)->t σ H acc Q
noncomputable def jNil:Jv:=fun acc _ M=>if acc.length<=100000 then .ok acc M else .bad
noncomputable def Zb9 (f:Ev) (g:Jv):Jv:=fun acc ρ M=>(f ρ M).bind fun x M1=>match x with
 | .str y=>if (acc ++ y).length<=100000 then g (acc ++ y) ρ M1 else .bad
 |_=> .bad
noncomputable def eFs (g:Jv):Ev:=fun ρ M=>(g Str.empty ρ M).bind fun x M1=> .ok (.str x) M1
theorem Zk3:DJ X ξ [] jNil:=by
 refine ⟨fun σ H acc Q=>acc.length<=100000/\Q acc H,fun pins s σ H acc Q I h=>⟨h.1,H,I,h.2⟩,fun σ ρ H α M acc Q s h q=> ?_⟩
 unfold jNil at q
 by_cases hl:acc.length<=100000
 ·rw[if_pos hl] at q
  exact ⟨hl,q acc H α Ext.refl h rfl⟩
 ·rw[if_neg hl] at q
  exact q.elim
theorem ZbI {g:Jv} (ha:DE X ξ e f) (hr:DJ X ξ es g):DJ X ξ (e :: es) (Zb9 f g):=by
 obtain ⟨ta,pa,qa⟩:=ha
 obtain ⟨tr,pr',qr⟩:=hr
 refine ⟨fun σ H acc Q=>ta σ H fun x H1=> ∃ y,x= .str y/\(acc ++ y).length<=100000/\tr σ H1 (acc ++ y) Q,fun pins s σ H acc Q I h=> ?_,fun σ ρ H α M acc Q s h q=> ?_⟩
 ·show wpAny _ _ (eval e X.env) _ _ s
  refine wpAny_mono (pa pins s σ H _ I h) (fun v s1 ⟨x,H1,I1,r1,q1⟩=> ?_) fun _ _ z=>z
  obtain ⟨y,rfl,hy,q⟩:=q1
  obtain ⟨t,rfl⟩:=r1
  exact ⟨y,t,rfl,Nat.le_trans hy (by rw[sizeLine_eq];decide),pr' pins s1 σ H1 (acc ++ y) Q I1 q⟩
 ·refine qa σ ρ H α M _ s h (OG.seq q fun x M1 v H1 α1 e1 h1 r1 q1=> ?_)
  cases r1 with
  |str y=>
   by_cases hi:(acc ++ y).length<=100000
   ·simp only[hi,if_true] at q1
    exact ⟨y,rfl,hi,qr σ ρ H1 α1 M1 (acc ++ y) Q (s.mono e1) h1 q1⟩
   ·simp only[hi,if_false] at q1
    exact q1.elim
  |_=>exact q1.elim
theorem Zoz {g:Jv} (h:DJ X ξ (e1 :: e2 :: es) g):DE X ξ (.JoinedStr (e1 :: e2 :: es) pos) (eFs g):=by
 obtain ⟨t,pj,qj⟩:=h
 refine ⟨fun σ H Q=>t σ H Str.empty fun x H1=>Q (.str x) H1,fun pins s σ H Q I h=> ?_,fun σ ρ H α M Q s h q=> ?_⟩
 ·refine wpAny_JoinedStr ?_
  have:=pj pins s σ H Str.empty _ I h
  have mono: ∀ (ms:List (Sem Value)) (acc:Str) (P R:Str->Shared->Prop) (s:Shared),(∀ o s,P o s->R o s)->Joins (model X.prog X.w) X.A X.xe ms acc P s->Joins (model X.prog X.w) X.A X.xe ms acc R s:=by
   intro ms
   induction ms with
   |nil=>intro acc P R s hp hj;exact hp _ _ hj
   |cons m r ih=>
    intro acc P R s hp hj
    exact wpAny_mono hj (fun v s1 ⟨y,t,e,l,k⟩=>⟨y,t,e,l,ih _ P R s1 hp k⟩) fun _ _ z=>z
  refine mono _ _ _ _ s (fun o s1 ⟨hl,H',I',q⟩=> ?_) this
  exact ⟨Nat.le_trans hl (by rw[sizeLine_eq];decide),.str o,H',I'.tok _,⟨_,rfl⟩,q⟩
 ·refine qj σ ρ H α M Str.empty _ s h (OG.seq q fun x M1 v H1 α1 e1 h1 r1 q1=> ?_)
  cases r1
  exact q1 _ H1 α1 Ext.refl h1 (.str x)
end
end DL
end
section
namespace DL
open PySem PySem.Spec PyProof.Rows L2
theorem Zhd {β γ:Type} {o:Out β} {f:β->Sto->Out γ} {g:γ->Sto->Fl}:ZaU (o.bind f) g=ZaU o fun x M=>ZaU (f x M) g:=by cases o<;>rfl
section
variable {X:Cx} {ξ:XK} {tg iter elt:Expr} {ifs:List Expr} {scope:Scope} {cl:List (Str × Addr)} {N:List Str} {k:Nat} {fr:List Nat} {fi:Ro->Sto->Out Src} {gt:Tg} {c:Tv} {f:Ev} {pos:Pos}
theorem ZcI (iv:Nat) {x:Str} {pos' spos:Pos} (hN:X.N.Nodup) (B:Blk X scope cl N k fr) (hi:DI X ξ tg iter fi) (hg: ∀ C fp s H,DG (blk X scope cl N C fp s H) tg gt) (ht: ∀ C fp s H,DC (blk X scope cl N C fp s H) ifs c) (he: ∀ C fp s H,DE (blk X scope cl N C fp s H) E0 elt f)
  (hiv:X.N[iv]?=some x:=by rfl) (hxl:Loc X.env.scope x:=by first | exact Or.inl rfl | exact Or.inr rfl) (hm:X.may iv=true:=by rfl) (hsw:swapsWith (.ListComp elt [⟨tg,iter,ifs,0⟩] scope pos) (some (.Name x pos')) spos.line X.env=pure true:=by rfl) (hf:X.fn x=true\/X.env.scope.names.lookup x=some .local:=by first | exact .inl rfl | exact .inr rfl | assumption)
  (hs: ∀ x,foldedSetIterable iter X.env x=pure x:=by intro _;rfl):DS X ξ (.Assign [.Name x pos'] (.ListComp elt [⟨tg,iter,ifs,0⟩] scope pos) spos) (ZQ (gNm iv) (Zay fi k fr gt c f)):=by
 obtain ⟨wi,pi,qi⟩:=hi
 refine ⟨fun Dn σ H=> ∃ ρ α M,SR X.K H α σ ρ/\HR X.K H α M/\FP X.K H α ξ Dn (ZQ (gNm iv) (Zay fi k fr gt c f) ρ M),?_,fun σ ρ H α M Dn s h q=>⟨ρ,α,M,s,h,q⟩⟩
 rintro pins s σ H Dn I ⟨ρ,α,M,sr,hr,op⟩
 rw[exec_Assign_Name_used _ _ _ _ hsw]
 refine wpAny_bind (wpAny_standAt (wpAny_bind ?_))
 show wpAny _ X.A (do let _ <- comprehension (.ListComp elt [⟨tg,iter,ifs,0⟩] scope pos) scope X.env _ (newList []) false (eval iter X.env) (some (assign (.Name x pos') X.env))) _ _ s
 have op:FP X.K H α ξ Dn (ZaU (fi ρ M) fun src M1=>ZaU (match Zc4 src gt c f M1.length (cnt src M1) 0 (roB k fr ρ) (M1 ++ [.lst []]) with | .ok _ M2'=> .ok (.ref M1.length) M2' | _=> .bad) fun d M1=>Fl.nx (ρ.set iv (some d)) M1):=by
  have e:ZQ (gNm iv) (Zay fi k fr gt c f) ρ M=(ZaU (fi ρ M) fun src M1=>ZaU (match Zc4 src gt c f M1.length (cnt src M1) 0 (roB k fr ρ) (M1 ++ [.lst []]) with | .ok _ M2'=> .ok (.ref M1.length) M2' | _=> .bad) fun d M1=>Fl.nx (ρ.set iv (some d)) M1):=by
   unfold ZQ Zay
   rw[Zhd]
   rfl
  rw[<- e]
  exact op
 refine wpAny_bind (wpAny_mono (wpAny_comprehension_free (Q:=fun _ s'=>SP X pins Dn .next s') (use:=some (assign (.Name x pos') X.env)) rfl hs B.clos B.kind B.names ?_) (fun _ s' hq=>wpAny_pure (wpAny_pure hq)) fun _ _ e=>e)
 refine thn (pi pins s σ H (fun J H2=> ∃ α2 M2 src,Ext X.K H H2 α α2/\HR X.K H2 α2 M2/\Zl3 X.K H2 α2 J src/\FP X.K H2 α2 ξ Dn (ZaU (match Zc4 src gt c f M2.length (cnt src M2) 0 (roB k fr ρ) (M2 ++ [.lst []]) with | .ok _ M2'=> .ok (.ref M2.length) M2' | _=> .bad) fun d M1=>Fl.nx (ρ.set iv (some d)) M1)) I
  (qi σ ρ H α M _ sr hr (FP.seq op fun src M1 J H1 α1 e1 h1 r1 q1=>⟨α1,M1,src,e1,h1,r1,q1⟩))) fun v s1 w1=>thn w1 fun itv s2 w2=> ?_
 obtain ⟨it,fp,tn,J,H2,rfl,I2,T,st2,f2,α2,M2,src,e2,h2,sc,op2⟩:=w2
 have srI:=sr.mono e2
 refine wpAny_newObj_type ?_
 have I3:Inv X pins σ (upd H2 s2.heap.objs.size (.lst [])) { s2 with heap:=s2.heap.push { cls:= .type "list",data:= .seq ([]:List Value).toArray } }:=I2.lnew (its:=[]) (t':=s2.toks) .nil (Nat.zero_le _)
 have fD:H2 s2.heap.objs.size=none:=I2.fresh
 generalize hD:s2.heap.objs.size=D at I3 fD
 generalize hs3:({ s2 with heap:=s2.heap.push { cls:= .type "list",data:= .seq ([]:List Value).toArray } }:Shared)=s3 at I3
 generalize hH3:upd H2 D (.lst [])=H3 at I3
 have h3:HR X.K H3 (α2 ++ [D]) (M2 ++ [.lst []]):=by rw[<- hH3];exact h2.new fD .nil
 have e3:Ext X.K H2 H3 α2 (α2 ++ [D]):=by rw[<- hH3];exact Ext.new fD
 have aD:RefK H3 (α2 ++ [D]) 0 M2.length D:=⟨h2.last D,by first | exact Kn.lst Zt | (rw[<- hH3];exact Kn.lst Zt)⟩
 have lt2: ∀ b∈fp,b < s2.heap.objs.size:=fun b hb=>let ⟨o,e,_⟩:=T.obj _ _ st2 b hb;Heap.lt_size e
 have keep3: ∀ b o,s2.heap.get? b=some o->s3.heap.get? b=some o:=fun b o e=>by rw[<- hs3];exact Heap.get?_push_of_some _ e
 have f3: ∀ b∈fp,ZdK X pins H3 b:=fun b hb=>⟨by rw[<- hH3,ZE (by rw[<- hD];exact Nat.ne_of_lt (lt2 b hb))];exact (f2 b hb).1,(f2 b hb).2⟩
 have lt3: ∀ b∈fp,b < s3.heap.objs.size:=fun b hb=>let ⟨o,e,_⟩:=T.obj _ _ st2 b hb;Heap.lt_size (keep3 b o e)
 have st3:tn 0 s3.heap:=T.keep _ _ _ st2 fun b _ o e=>keep3 b o e
 refine wpAny_newFunctionEnv B.cell (by intro y hy;simp at hy) (fun h₁ hns₁ hsb₁=> ?_) B.kind
 have keep4: ∀ b o,s3.heap.get? b=some o->h₁.get? b=some o:=fun b o e=>hsb₁.extBut b o (Nat.ne_of_lt (Heap.lt_size e)) (Heap.get?_push_of_some _ e)
 have I4:=Zij (tk:=s3.toks + ([]:List (Str × Value)).length) B I3 f3 lt3 hns₁ keep4
 have st4:tn 0 h₁:=T.keep _ _ _ st3 fun b _ o e=>keep4 b o e
 have fp5: ∀ {H':Hp},(∀ b∈fp,H' b=none)-> ∀ b∈fp,ZdK (blk X scope cl N s3.heap.objs.size fp s3 H3) [] H' b:=fun hn b hb=>⟨hn b hb,Nat.ne_of_lt (lt3 b hb),(Zih B I3 f3 lt3).exfs b hb,.inl hb,fun x c h=>(f3 b hb).2.2.2.2.1 x c (B.sub x c h),fun p hp=>(by simp[blk] at hp)⟩
 cases er:Zc4 src gt c f M2.length (cnt src M2) 0 (roB k fr ρ) (M2 ++ [.lst []]) with
 |exc x M9=>rw[er] at op2;exact op2.elim
 |bad=>rw[er] at op2;exact op2.elim
 |ok u9 M9=>
  rw[er] at op2
  have loop:codeAny (model X.prog X.w) X.A (.compLoop (.ListComp elt [⟨tg,iter,ifs,0⟩] scope pos) 0 (.ref it) (.ref D) (compEnvC scope cl s3.heap.objs.size X.env)) (compPost (model X.prog X.w) X.A X.xe (some (assign (.Name x pos') X.env)) (fun _ s'=>SP X pins Dn .next s') (.ref D) s3.heap.objs.size) { s3 with heap:=h₁,toks:=s3.toks + ([]:List (Str × Value)).length }:=by
   refine Zel (Y:=blk X scope cl N s3.heap.objs.size fp s3 H3) T (fun _ _ z=>z) fp5 (hg _ fp s3 H3) (ht _ fp s3 H3) (he _ fp s3 H3) (fun i H' α' M' ex hr=>sc i H' α' M' (e3.trans ex) hr) aD I4 st4 (fun b hb=>(f3 b hb).1) ((srI.blk).mono e3) h3 er ?_
   intro σ5 H5 α5 s6 I6 ex5 hr5
   obtain ⟨I7,tu⟩:=ZgJ B I3 f3 I6
   obtain ⟨m6,hm6,_⟩:=id I6.loc
   refine wpAny_assign_Name (ZeH (v:= .ref D) I7 hN hiv hxl hm rfl (fun s8 I8 ⟨a,sb8,ha⟩=> ?_) hf)
   have nca:s3.heap.objs.size≠a:=by
    rcases ha with e | e
    ·rw[e];exact Nat.ne_of_gt I3.lt
    ·intro z
     obtain ⟨v,o,e',_⟩:=I3.cell x a e
     exact absurd (Heap.lt_size e') (by rw[<- z];exact Nat.lt_irrefl _)
   exact ⟨m6,hm6.sameBut sb8 nca,fun h' sb=>⟨_,H5,tu _ s8 h' I8 (fun b o hb e=>(sb.2 b hb).trans e),op2 _ H5 α5 (e3.trans ex5) hr5 ((srI.mono (e3.trans ex5)).set iv (.ref (ex5.get aD)))⟩⟩
  exact codeAny_compStart_list loop (T.self X.A 0 _ _ _ st4 loop)
end
end DL
end
section
namespace DL
open PySem PySem.Spec PyProof.Rows L2
noncomputable def dRep:Bo:=fun x y M=>match x,y with
 | .ref n,.int k=>match M[n]? with
  |some (.lst xs)=>if (-9223372036854775808<=k/\k < 9223372036854775808)/\xs.length * k.toNat<=100000 then .ok (.ref M.length) (M ++ [.lst (List.replicate k.toNat xs).flatten]) else .bad
  |none=> .bad
 |_,_=> .bad
theorem Reps.rep {K:PySem.W.Frag} {H:Hp} {α:List Addr} {vs:List V} {ds:List D} (r:Reps K H α vs ds): ∀ k:Nat,Reps K H α (List.replicate k vs).flatten (List.replicate k ds).flatten
 |0=> .nil
 |k + 1=>by
  rw[List.replicate_succ,List.replicate_succ,List.flatten_cons,List.flatten_cons]
  exact r.append (Reps.rep r k)
section
variable {X:Cx} {ξ:XK} {a b:Expr} {fa fb:Ev} {pos:Pos}
theorem ZoA:BO X ξ rRep dRep:=by
 intro H α M v w x y Q h rv rw' q
 cases rv with
 | @ref p n hp=>
  cases rw' with
  |int k=>
   cases e1:M[n]? with
   |none=>simp only[dRep,e1] at q;exact q.elim
   |some o=>
    cases o with
    |lst ds=>
     by_cases c:(-9223372036854775808<=k/\k < 9223372036854775808)/\ds.length * k.toNat<=100000
     ·simp only[dRep,e1,if_pos c] at q
      obtain ⟨xs,g1,r1⟩:=h.at hp e1
      exact ⟨p,k,xs,rfl,rfl,g1,by omega,by omega,by rw[r1.length];exact ZlY c.2,fun l hl=>q _ _ (α ++ [l]) (Ext.new hl) (h.new hl (r1.rep k.toNat)) (.ref ⟨h.last l,Kn.lst Zt⟩)⟩
     ·simp only[dRep,e1,if_neg c] at q
      exact q.elim
  |_=>exact q.elim
 |_=>cases rw'<;>exact q.elim
theorem Zfd (ha:DE X ξ a fa) (hb:DE X ξ b fb):DE X ξ (.BinOp a .Mult b pos) (e2 dRep fa fb):=ZfO Zn0 ZoA ha hb
end
end DL
end
namespace DL
open PySem PySem.Spec L2
open PySem.W
theorem Zhe:typeLookup (.type "list_reverseiterator") "__len__"=pure none:=by rw[typeLookup_type,builtinLookup_eq_fast];kernel_rfl
theorem Zka:typeLookup (.type "list_reverseiterator") "__length_hint__"=pure (some (.builtin "list_reverseiterator.__length_hint__")):=by rw[typeLookup_type,builtinLookup_eq_fast];kernel_rfl
theorem Zmn:isSubtype (.type "list_reverseiterator") (.type "list_reverseiterator")=pure true:=by rw[isSubtype_type];kernel_rfl
theorem ZiF:splitId "list_reverseiterator.__length_hint__"=some ("list_reverseiterator","__length_hint__"):=by decide +kernel
section
variable {prog:Program} {w:World} {A:Around} {E:Value->Shared->Prop} {s:Shared}
theorem Zkb {I:Addr} {Q:Bool->Shared->Prop} (hT:s.TypeIs (.ref I) "list_reverseiterator") (h:Q false s):wpAny (model prog w) A (Builtin.List.listLengthHint (.ref I)) Q E s:=by
 unfold Builtin.List.listLengthHint
 refine wpAny_bind (wpAny_specialOf hT Zhe ?_)
 show wpAny _ A (specialOf (Value.ref I) (Str.ofString "__length_hint__") >>= _) _ _ _
 refine wpAny_bind (wpAny_specialOf hT Zka ?_)
 simp only[ZiF]
 refine wpAny_bind (wpAny_isInstance hT Zmn ?_)
 exact wpAny_pure h
end
section
variable {prog:Program} {w:World} {A:Around} {s:Shared} {R:Result->Shared->Prop}
variable {I:Addr} {fp wr:List Addr} {G:Array GenState->Array GenState->Prop} {n:Nat} {P:Nat->Value->Prop} {St:Nat->Shared->Prop}
theorem Zhf (W:WalksS prog w A.in1 I fp wr G n P St) (hT: ∀ i s,St i s->s.TypeIs (.ref I) "list_reverseiterator") (S:Addr) (res:Value) (c₀:Nat) (hst:St 0 s) (hSf:S ∉ fp) (hI:I∈fp)
  (hS:s.heap.get? S=some { cls:= .type "list",data:= .seq #[] c₀ })
  (hR: ∀ s' acc' c',Moved (S :: wr) G s s'->s'.heap.get? S=some { cls:= .type "list",dict:=none,data:= .seq acc' c',slots:= #[] }->ItemsOf P acc' n->R (.ok (.ret res)) s') (hn:n<=sizeLine):
  wpAny (model prog w) A.in1 (Builtin.List.listExtendWith (.ref S) (.ref I) res)
   (fun fin s'=>match fin with | .done f=>R (.ok f) s' | .again c'=>c'.quiet=true/\codeAny (model prog w) A c' R s') (fun e s'=>R (.error e) s') s:=by
 have hSI:S≠I:=fun e=>hSf (e ▸ hI)
 unfold Builtin.List.listExtendWith
 refine wpAny_bind (wpAny_typeOf (hT 0 _ hst) ?_)
 have h1:Builtin.List.listSameRef (.ref S) (.ref I)=false:=by simp[Builtin.List.listSameRef,hSI]
 have h2:(Value.type "list_reverseiterator" == Value.type "list")=false:=by decide
 have h3:(Value.type "list_reverseiterator" == Value.type "tuple")=false:=by decide
 simp only[h1,h2,h3,Bool.or_false,Bool.false_eq_true,if_false]
 refine wpAny_bind (W.self 0 _ _ _ hst ?_)
 refine wpAny_bind (wpAny_holding ?_)
 refine Zkb (hT 0 _ hst) ?_
 refine wpAny_pure ⟨plainId_quiet F.plain_extend_loop _,codeAny_extend_loopS W hn _ hSf _ n 0 _ _ _ rfl (Nat.zero_le _) hst hS (ItemsOf.nil P) fun s' acc' c' hm hS' hacc=> ?_⟩
 exact hR s' acc' c' hm hS' hacc
theorem Zeq (W:WalksS prog w A.in1 I fp wr G n P St) (hT: ∀ i s,St i s->s.TypeIs (.ref I) "list_reverseiterator") (S:Addr) (hst:St 0 s) (hSf:S ∉ fp) (hI:I∈fp)
  (hS:s.heap.get? S=some { cls:= .type "list",data:= .seq #[] })
  (hR: ∀ s' acc' c',Moved (S :: wr) G s s'->s'.heap.get? S=some { cls:= .type "list",dict:=none,data:= .seq acc' c',slots:= #[] }->ItemsOf P acc' n->R (.ok (.ret .none)) s') (hn:n<=sizeLine):
  wpAny (model prog w) A.in1 (Builtin.«list.__init__» ⟨[.ref S,.ref I],[]⟩)
   (fun fin s'=>match fin with | .done f=>R (.ok f) s' | .again c'=>c'.quiet=true/\codeAny (model prog w) A c' R s') (fun e s'=>R (.error e) s') s:=by
 show wpAny _ A.in1 (do let old <- Builtin.List.listItems (.ref S);Builtin.List.listUpdate (.ref S) (fun _=> #[]);letGo old.toList.reverse;Builtin.List.listExtendWith (.ref S) (.ref I) .none) _ _ s
 refine wpAny_bind ?_
 unfold Builtin.List.listItems
 refine wpAny_bind (wpAny_seqItems hS rfl (wpAny_pure ?_))
 show wpAny _ A.in1 (updateSeq S (fun _=> #[]) >>= fun _=>letGo (#[]:Array Value).toList.reverse >>= fun _=>Builtin.List.listExtendWith (.ref S) (.ref I) .none) _ _ s
 refine wpAny_bind (wpAny_updateSeq hS rfl ?_)
 have hS₂:=Heap.get?_update_self (Obj.mapSeq (fun _=>(#[]:Array Value))) hS rfl
 have oth: ∀ b o,b≠S->s.heap.get? b=some o->(s.heap.update S (Obj.mapSeq (fun _=>(#[]:Array Value)))).get? b=some o:=
  fun b o hb e=>(Heap.get?_update_other _ _ (Ne.symm hb)).trans e
 refine wpAny_bind (wpAny_letGo ?_)
 refine Zhf W hT S .none _ (W.frame 0 s _ s.toks hst (Nat.le_refl _) fun b hb o e=>oth b o (fun h=>hSf (h ▸ hb)) e) hSf hI hS₂ (fun s' acc' c' hm hS' hacc=> ?_) hn
 exact hR s' acc' c' (Moved.trans W.gtrans ((Moved.refl W.grefl).then_heap (Nat.le_refl _) fun b o hb e=>oth b o (fun h=>hb (h ▸ List.mem_cons_self)) e) hm) hS' hacc
end
section
variable {prog:Program} {w:World} {A:Around} {E:Value->Shared->Prop} {s:Shared}
variable {I:Addr} {fp wr:List Addr} {G:Array GenState->Array GenState->Prop} {n:Nat} {P:Nat->Value->Prop} {St:Nat->Shared->Prop}
theorem Zer {Q:Value->Shared->Prop} (W:WalksS prog w A.in1.in1 I fp wr G n P St) (hT: ∀ i s,St i s->s.TypeIs (.ref I) "list_reverseiterator") (hst:St 0 s) (hfp: ∀ b∈fp,b < s.heap.objs.size) (hI:I∈fp)
  (hQ: ∀ s' acc' c',Moved (s.heap.objs.size :: wr) G { s with heap:=s.heap.push { cls:= .type "list",data:= .seq #[] } } s'->
   s'.heap.get? s.heap.objs.size=some { cls:= .type "list",dict:=none,data:= .seq acc' c',slots:= #[] }->ItemsOf P acc' n->Q (.ref s.heap.objs.size) s') (hn:n<=sizeLine):
  wpAny (model prog w) A (call (.type "list") [.ref I]) Q E s:=by
 have hSf:s.heap.objs.size ∉ fp:=fun hm=>Nat.lt_irrefl _ (hfp _ hm)
 refine callType_codes (Q₁:=fun obj s₁=>obj= .ref s.heap.objs.size/\s₁={ s with heap:=s.heap.push { cls:= .type "list",data:= .seq #[] } }) F.called_list (F.typeCall_list_1 _) F.entry_list_init
  (code_list_new _ ⟨rfl,rfl⟩) fun obj s₁ h₁=> ?_
 obtain ⟨rfl,rfl⟩:=h₁
 have hS:(s.heap.push { cls:= .type "list",data:= .seq #[] }).get? s.heap.objs.size=some { cls:= .type "list",data:= .seq #[] }:=Heap.get?_push_size _ rfl
 refine ⟨⟨_,hS,rfl⟩,F.args_list_init_2 _ _,Zeq W hT _ (W.frame 0 s _ s.toks hst (Nat.le_refl _) fun b _ o e=>Heap.get?_push_of_some _ e) hSf hI hS (fun s' acc' c' hm hS' hacc=> ?_) hn⟩
 exact ⟨rfl,hQ s' acc' c' hm hS' hacc⟩
end
section
variable {X:Cx} {ξ:XK} {a:Expr} {fs:Av} {p1 p2 p3 pos:Pos} {ta:TA}
noncomputable def tLR (K:PySem.W.Frag) (t:TA):TE:=fun σ H Q=>t σ H fun vs H1=> ∃ l xs,vs=[.ref l]/\SqL K H1 l xs/\ ∀ p,H1 p=none->Q (.ref p) (upd H1 p (.lst xs.reverse))
theorem ZiG {its:List Value} {acc:Array Value} (h:ItemsOf (fun i v=>its.toArray[its.toArray.size - 1 - i]?=some v) acc its.toArray.size):acc=its.reverse.toArray:=by
 obtain ⟨hz,hv⟩:=h
 apply Array.ext'
 apply List.ext_getElem?
 intro i
 rw[List.toList_toArray]
 by_cases hi:i < acc.size
 ·have e:acc.toList[i]?=some acc[i]:=by rw[Array.getElem?_toList];exact Array.getElem?_eq_getElem hi
  have:=hv i _ (Array.getElem?_eq_getElem hi)
  rw[e,<- this,List.getElem?_toArray,List.size_toArray,List.getElem?_reverse (by rw[hz,List.size_toArray] at hi;exact hi)]
 ·rw[List.getElem?_eq_none (by rw[Array.length_toList];omega),List.getElem?_eq_none (by rw[hz,List.size_toArray] at hi;rw[List.length_reverse];omega)]
theorem Zq1 (hc:X.A.handled=none) (hgl:Gl X "list") (hml:X.mg "list"=none) (hg:Gl X "reversed") (hm:X.mg "reversed"=none) (ha:PA X [a] ta) (hs:starEach [a] X.env=(false,eval a X.env) :: starEach [] X.env:=by rfl) (hpl:(backTo p3 (starEach [] X.env)).any (·.1)=false:=by rfl) (hs1:starEach [.Call (.Name "reversed" p2) [a] [] p3] X.env=(false,eval (.Call (.Name "reversed" p2) [a] [] p3) X.env) :: starEach [] X.env:=by rfl) (hpl1:(backTo pos (starEach [] X.env)).any (·.1)=false:=by rfl):
  PE X (.Call (.Name "list" p1) [.Call (.Name "reversed" p2) [a] [] p3] [] pos) (tLR X.K ta):=by
 intro pins s σ H Q I h
 refine wpAny_Call_Name_kw (Zcm I hgl hml ZcD (PyProof.Rows.callWith_type1 ?_ hs1 hpl1) (by decide) (by decide))
 rw[hs1]
 show wpAny _ _ (spliced ((false,eval (.Call (.Name "reversed" p2) [a] [] p3) X.env) :: backTo pos (starEach [] X.env))) _ _ s
 refine Calls.spliced_cons ?_
 refine wpAny_Call_Name_kw (Zcm I hg hm ZfX (PyProof.Rows.callWith_type1 (thn (ha p3 pins s σ H _ I h) fun us s1 ⟨vs,H1,I1,r1,q1⟩=> ?_) hs hpl) (by decide) (by decide))
 obtain ⟨l,xs,rfl,hq,q⟩:=q1
 obtain ⟨u,rfl,ru⟩:=ZdL r1
 cases ru
 obtain ⟨its,rv,pl,hz⟩:=I1.list hq
 have hll:l < s1.heap.objs.size:=by
  obtain ⟨o,ho,_⟩:=pl.isList
  exact Heap.lt_size ho
 refine call_reversed_list pl.isList (Calls.spliced_nil ?_)
 have W:=(PySem.Walks.listRev (prog:=X.prog) (w:=X.w) (A:=X.A.in1.in1) hc s1.heap.objs.size l (Nat.ne_of_lt hll) its.toArray).toS
 have hsz:its.toArray.size<=sizeLine:=by rw[List.size_toArray,<- rv.length];exact hz
 refine Zer W (fun i s x=>x.2.1.typeIs) ⟨Nat.zero_le _,⟨_,Heap.get?_push_size _ rfl,rfl,?_⟩,?_⟩ ?_ (by simp) (fun s' acc c hmv hS hit=> ?_) hsz
 ·show Data.fields #[.ref l,rawInt ((its.toArray.size:Int) - 1)]=_
  rw[show (its.toArray.size:Int) - 1 - ((0:Nat):Int)=(its.toArray.size:Int) - 1 by omega]
 ·exact pl.isList.at fun o e=>Heap.get?_push_of_some _ e
 ·intro b hb
  have:b=s1.heap.objs.size\/b=l:=by simpa using hb
  have hz2:(s1.heap.push (revObj l ((its.toArray.size:Int) - 1))).objs.size=s1.heap.objs.size + 1:=by simp[Heap.push]
  show b < (s1.heap.push (revObj l ((its.toArray.size:Int) - 1))).objs.size
  rw[hz2]
  rcases this with rfl | rfl
  ·exact Nat.lt_succ_self _
  ·exact Nat.lt_succ_of_lt hll
 ·have ea:=ZiG hit
  subst ea
  have hz2:(s1.heap.push (revObj l ((its.toArray.size:Int) - 1))).objs.size=s1.heap.objs.size + 1:=by simp[Heap.push]
  have K: ∀ b u,s1.heap.get? b=some u->s'.heap.get? b=some u:=by
   intro b u hb
   have hlt:=Heap.lt_size hb
   refine hmv.heap b u ?_ (Heap.get?_push_of_some _ (Heap.get?_push_of_some _ hb))
   intro hmem
   have:b=s1.heap.objs.size + 1\/b=s1.heap.objs.size:=by
    simp only[List.mem_cons,List.not_mem_nil,or_false] at hmem
    rcases hmem with e | e
    ·exact .inl (e.trans hz2)
    ·exact .inr e
   rcases this with e | e
   ·exact absurd (e ▸ hlt) (Nat.not_lt.mpr (Nat.le_succ _))
   ·exact absurd (e ▸ hlt) (Nat.lt_irrefl _)
  have es:s'={ s1 with heap:=s'.heap,toks:=s'.toks }:=by
   obtain ⟨h1,g1,d1,t1,o1⟩:=s1
   obtain ⟨h2,g2,d2,t2,o2⟩:=s'
   have e1:g2=g1:=hmv.gens
   have e2:d2=d1:=hmv.drawn
   have e3:o2=o1:=hmv.os
   subst e1 e2 e3
   rfl
  have hS':s'.heap.get? (s1.heap.objs.size + 1)=some { cls:= .type "list",dict:=none,data:= .seq its.reverse.toArray c,slots:= #[] }:=by
   rw[<- hz2];exact hS
  show EP X pins σ Q (.ref (s1.heap.push (revObj l ((its.toArray.size:Int) - 1))).objs.size) s'
  rw[hz2,es]
  refine ⟨.ref _,_,I1.laid (t':=s'.toks) (o:= .lst xs.reverse) K (Nat.le_succ _) ?_,rfl,q _ (I1.hok.fresh (Nat.le_succ _))⟩
  exact ⟨by rw[List.length_reverse];exact hz,its.reverse,c,rv.reverse,hS'⟩
noncomputable def bLR:List D->Sto->Out D:=fun ds M1=>match ds with
 | [.ref n]=>(match M1[n]? with | some (.lst xs)=> .ok (.ref M1.length) (M1 ++ [.lst xs.reverse]) | none=> .bad)
 | [.rol xs]=> .ok (.ref M1.length) (M1 ++ [.lst xs.reverse])
 |_=> .bad
theorem Zq2 (hc:X.A.handled=none) (hml:X.mg "list"=none) (hm:X.mg "reversed"=none) (ha:DA X ξ [a] fs) (hgl:Gl X "list":=by rfl) (hg:Gl X "reversed":=by rfl) (hs:starEach [a] X.env=(false,eval a X.env) :: starEach [] X.env:=by rfl) (hpl:(backTo p3 (starEach [] X.env)).any (·.1)=false:=by rfl) (hs1:starEach [.Call (.Name "reversed" p2) [a] [] p3] X.env=(false,eval (.Call (.Name "reversed" p2) [a] [] p3) X.env) :: starEach [] X.env:=by rfl) (hpl1:(backTo pos (starEach [] X.env)).any (·.1)=false:=by rfl):
  DE X ξ (.Call (.Name "list" p1) [.Call (.Name "reversed" p2) [a] [] p3] [] pos) (Zk bLR fs):=by
 obtain ⟨ta,pa,qa⟩:=ha
 refine ⟨_,Zq1 hc hgl hml hg hm pa hs hpl hs1 hpl1,fun σ ρ H α M Q s hh w=>qa σ ρ H α M _ s hh (OG.seq w fun ds M1 vs H1 α1 e1 h1 r1 w1=> ?_)⟩
 match r1 with
 | .nil=>exact w1.elim
 | .cons r (.cons _ _)=>cases r<;>exact w1.elim
 | .cons r .nil=>
  cases r with
  | @rol a xs ds hp rp=>
   have w2:OP X.K H1 α1 ξ Q (.ok (.ref M1.length) (M1 ++ [.lst ds.reverse])):=w1
   exact ⟨a,xs,rfl,hp.sq,fun l hl=>w2 _ _ (α1 ++ [l]) (Ext.new hl) (h1.new hl rp.rev) (.ref ⟨h1.last l,Kn.lst Zt⟩)⟩
  | @ref a n hp=>
   cases em:M1[n]? with
   |none=>simp only[bLR,em] at w1;exact w1.elim
   |some so=>
    cases so with
    |lst es=>
     simp only[bLR,em] at w1
     obtain ⟨xs,g1,g2⟩:=h1.at hp em
     exact ⟨a,xs,rfl,SqL.of g1,fun l hl=>w1 _ _ (α1 ++ [l]) (Ext.new hl) (h1.new hl g2.rev) (.ref ⟨h1.last l,Kn.lst Zt⟩)⟩
  |_=>exact w1.elim
end
end DL
section
namespace DL3
open PySem PySem.Spec PyProof.Rows L2 DL
open Sem (wp)
section
variable {prog:Program} {w:World} {A:Around} {E:Value->Shared->Prop} {s:Shared}
end
section
variable {prog:Program} {w:World} {A:Around} {E:Value->Shared->Prop} {s:Shared}
end
section
variable {X:Cx} {ξ:XK} {y1 y2 y3:Expr} {elts:List Expr} {k0:Nat} {tp:Pos} {fs:Av} {p pos:Pos} {ta:TA}
end
end DL3
end
section
namespace DL4
open PySem PySem.Spec PyProof.Rows L2 DL
open Sem (wp)
section
variable {prog:Program} {w:World} {A:Around} {E:Value->Shared->Prop} {s:Shared}
end
section
variable {prog:Program} {w:World} {A:Around} {E:Value->Shared->Prop} {s:Shared}
end
section
variable {X:Cx} {ξ:XK} {y1 y2 y3 y4:Expr} {elts:List Expr} {k0:Nat} {tp:Pos} {fs:Av} {p pos:Pos} {ta:TA}
end
end DL4
end
section
namespace PySem.SeqAt
open AutoSeq1 (wpAny_loadPart')
open MeetsSeq MeetsSeq2 MeetsSeq3 SeqRoads2
end PySem.SeqAt
namespace DL
open PySem PySem.Spec PyProof.Rows L2
open PySem.SeqAt
section
variable {X:Cx} {pins:List (Addr × Obj)} {σ:L2.St} {H:Hp} {s:Shared} {α:List Addr} {M:Sto}
end
end DL
end
section
namespace PySem
open Sem (wp)
section
variable {prog:Program} {w:World} {A:Around} {R:Result->Shared->Prop} {I:Addr} {fp wr:List Addr} {P:Nat->Value->Prop} {St:Nat->Heap->Prop}
end
section
variable {prog:Program} {w:World} {A:Around} {E:Value->Shared->Prop} {s:Shared}
end
end PySem
namespace DL
open PySem PySem.Spec PyProof.Rows L2
open PySem.SeqAt
section
variable {X:Cx} {pins:List (Addr × Obj)} {σ:L2.St} {H:Hp} {s:Shared} {α:List Addr} {M:Sto}
end
end DL
end
section
namespace HT
open PySem PyProof.Rows
section
open PySem.SeqAt
open PySem.AutoSeq1 (wpAny_loadPart')
open PySem.MeetsSeq PySem.MeetsSeq2 PySem.MeetsSeq3
end
section
variable {prog:Program} {w:World} {A:Around} {E:Value->Shared->Prop} {s:Shared}
end
end HT
namespace DL
open PySem PySem.Spec PyProof.Rows L2
section
variable {X:Cx} {ξ:XK}
end
end DL
end
section
namespace DL
open PySem PySem.Spec PyProof.Rows L2
end DL
end
section
namespace DL
open PySem PySem.Spec PyProof.Rows L2
section
variable {X:Cx} {pins:List (Addr × Obj)} {σ:L2.St} {H:Hp} {s:Shared} {a b:Addr} {v:V} {r:Value} {A:Around} {E:Value->Shared->Prop}
end
section
variable {X:Cx} {ξ:XK} {tg iter kx vx:Expr} {ifs:List Expr} {scope:Scope} {cl:List (Str × Addr)} {N:List Str} {k:Nat} {fr:List Nat} {fi:Ro->Sto->Out Src} {gt:Tg} {c:Tv} {fk fv:Ev} {pos:Pos}
end
end DL
end
section
namespace DL
open PySem PySem.Spec PyProof.Rows L2
section
variable {prog:Program} {w:World} {A:Around} {E:Value->Shared->Prop} {s:Shared} {d it:Addr} {od:Obj} {es:Array DictEntry} {ep i n:Nat}
theorem Zmo:Builtin.Dict_items.ownsTuple "dict_keyiterator"=false:=by decide
theorem ZoB (qq:DQ.Zbw A s.heap) (hi:s.heap.IsKeyIter it d i es.size ep) (gd:s.heap.get? d=some od) (ed:od.data= .dict es ep) (he:es[i]?=none):wpAny (model prog w) A.in1 (Builtin.«dict_keyiterator.__next__» ⟨[.ref it],[]⟩) (fun _ _=>False) (DQ.Zgr it s) s:=by
 obtain ⟨oi,gi,ci,di⟩:=id hi
 have n1: ¬ ((Value.ref d == Value.none)=true):=Bool.false_ne_true
 have n2: ¬ ((i:Int) < 0):=by omega
 refine wpAny_bind (wpAny_pure (wpAny_bind (wpAny_bind ?_)))
 first | refine wpAny_bind (wpAny_typeNameOfWhole_keyiter hi.typeIs (wpAny_pure (wpAny_bind (wpAny_fieldsOf gi di ?_)))) | refine wpAny_bind (wpAny_typeNameOf_keyiter hi.typeIs (wpAny_pure (wpAny_bind (wpAny_fieldsOf gi di ?_))))
 simp only[Zmo,Bool.false_eq_true,if_false]
 show wpAny (model prog w) _ (if (Value.ref d == Value.none)=true then _ else _) _ _ s
 rw[if_neg n1]
 refine wpAny_bind (wpAny_pure (wpAny_bind (wpAny_dictEntries gd ed ?_)))
 rw[if_neg (by simp)]
 refine wpAny_bind (wpAny_pure (wpAny_bind (wpAny_dictEpoch gd ed ?_)))
 rw[if_neg (by simp)]
 refine wpAny_pure ?_
 simp only[n2,if_false,Int.toNat_natCast,he]
 refine wpAny_bind ?_
 first | refine wpAny_bind (wpAny_typeNameOfWhole_keyiter hi.typeIs (wpAny_pure ?_)) | refine wpAny_bind (wpAny_typeNameOf_keyiter hi.typeIs (wpAny_pure ?_))
 show wpAny (model prog w) _ (setField (.ref it) 0 .none >>= _) _ _ s
 refine wpAny_bind (wpAny_setField gi di (by simp) ?_)
 have q2:DQ.Zbw A.in1 (s.heap.update it (Obj.mapFields (·.setIfInBounds 0 Value.none))):=by
  rcases qq with qq | ⟨ea,oe,vs,e1,e2,e3,e4⟩
  ·exact .inl qq
  ·refine .inr ⟨ea,oe,vs,e1,?_,e3,e4⟩
   rw[Heap.get?_update_other _ _ (fun z=> ?_)]
   ·exact e2
   ·rw[<- z,gi] at e2
    cases e2
    rw[di] at e3
    cases e3
    simp at e4
 refine DQ.ZbR q2 fun h' e k ho=>⟨e,rfl,ho,h',fun b o hb z=>k b o ?_,rfl⟩
 rw[Heap.get?_update_other _ _ (Ne.symm hb)]
 exact z
theorem Zhg {Q:Option Value->Shared->Prop} (qq:DQ.Zbw A s.heap) (hi:s.heap.IsKeyIter it d i es.size ep) (gd:s.heap.get? d=some od) (ed:od.data= .dict es ep) (he:es[i]?=none)
  (q: ∀ h',Heap.ExtBut it s.heap h'->Q none { s with heap:=h' }):wpAny (model prog w) A (pyNext (.ref it)) Q E s:=
 DQ.Zgs hi.typeIs F.slot_dict_keyiterator_next F.entry_dict_keyiterator_next (F.args_dict_keyiterator_next_1 _) (ZoB qq hi gd ed he) q
end
theorem Zd1 {β γ:Type} {F:β->γ->Prop}: ∀ {l:List β} {m:List γ} {i:Nat} {x:β},Paired F l m->l[i]?=some x-> ∃ y,m[i]?=some y/\F x y
 |_,_,0,_,.cons h _,e=>by
  simp only[List.getElem?_cons_zero,Option.some.injEq] at e
  subst e
  exact ⟨_,rfl,h⟩
 |_,_,i + 1,_,.cons _ t,e=>by
  obtain ⟨y,h1,h2⟩:=Zd1 (i:=i) t (by simpa using e)
  exact ⟨y,by simpa using h1,h2⟩
section
variable {X:Cx} {pins:List (Addr × Obj)} {σ:L2.St} {H:Hp} {s:Shared} {d:Addr} {o:Obj} {kvs:List (List Key × V)}
end
section
variable {X:Cx} {ξ:XK} {tg a:Expr} {f:Ev} {te:TE}
end
end DL
end
section
namespace DL
open PySem PySem.Spec PyProof.Rows L2
section
variable {X:Cx} {ξ:XK} {e:Expr} {es:List Expr} {fs:Av} {p pos:Pos} {x:Str}
theorem ZfY {c:Str} (hq: ∃ f,PySem.W.nsIn X.K mainGlobals c=some (some (.ref f))) (gl: ∀ c v,PySem.W.nsIn X.K mainGlobals c=some (some v)->X.mg c=some v) (hg:Gl X c:=by rfl) (hdb:(c == ("__debug__":Str))=false:=by decide):DE X ξ (.Name c p) (eC (.fn c)):=by
 obtain ⟨f,hf⟩:=hq
 exact ⟨_,ZhD hg (gl c _ hf) (v:= .ref f) rfl hdb,fun σ ρ H α M Q s h q=>q _ H α Ext.refl h (.fn hf)⟩
noncomputable def eCV (i:Nat) (tab:List (Str × (List D->Sto->Out D))) (fs:Av):Ev:=fun ρ M=>match ρ[i]? with
 |some (some (.fn c))=>(match tab.lookup c with | some F=>(fs ρ M).bind fun ds M1=>F ds M1 | none=> .bad)
 |_=> .bad
noncomputable def VOk (X:Cx) (tab:List (Str × (List D->Sto->Out D))):Prop:= ∀ c F,tab.lookup c=some F-> ∃ k n,Room k X.A/\Cal X.prog X.w X.K X.mg X.base c k n F
theorem Zmp:VOk X []:=fun c F h=>by cases h
theorem Zdf {c:Str} {k n:Nat} {F:List D->Sto->Out D} {tab:List (Str × (List D->Sto->Out D))} (hr:Room k X.A) (C:Cal X.prog X.w X.K X.mg X.base c k n F) (t:VOk X tab):VOk X ((c,F) :: tab):=fun d G h=>by
 rw[List.lookup_cons] at h
 split at h
 ·rename_i e
  cases h
  rw[eq_of_beq e]
  exact ⟨k,n,hr,C⟩
 ·exact t d G h
theorem Zkc {i:Nat} {tab:List (Str × (List D->Sto->Out D))} (hall:VOk X tab) (gl: ∀ c v,PySem.W.nsIn X.K mainGlobals c=some (some v)->X.mg c=some v) (T:Thr X ξ) (ha:DA X ξ (e :: es) fs) (hN:X.N[i]?=some x:=by rfl) (hv:Vis X.env.scope x:=by first | exact Or.inl rfl | exact Or.inr (Or.inl rfl) | exact Or.inr (Or.inr rfl))
  (hdb:(x == ("__debug__":Str))=false:=by decide) (hcd:(x == ("__classdict__":Str))=false:=by decide) (he:starEach (e :: es) X.env=(false,eval e X.env) :: starEach es X.env:=by rfl) (hpl:(backTo pos (starEach es X.env)).any (·.1)=false:=by rfl):DE X ξ (.Call (.Name x p) (e :: es) [] pos) (eCV i tab fs):=by
 obtain ⟨t,pa,qa⟩:=ha
 refine ⟨fun σ H Q=> ∃ ρ α M,SR X.K H α σ ρ/\HR X.K H α M/\OP X.K H α ξ Q (eCV i tab fs ρ M),fun pins s σ H Q I w=> ?_,fun σ ρ H α M Q s h q=>⟨ρ,α,M,s,h,q⟩⟩
 obtain ⟨ρ,α,M,sr,hr,op⟩:=w
 unfold eCV at op
 split at op
 ·rename_i c er
  split at op
  ·rename_i F et
   obtain ⟨v,hv1,rv⟩:=sr.2 i (.fn c) er
   cases rv with
   | @fn f _ hf=>
   obtain ⟨k,n,room,f',fd,ps,G,hm,hk,_,hb⟩:=hall c F et
   rw[gl c _ hf] at hm
   cases hm
   refine wpAny_Call_Name_kw (thn (ZhC hN hv hdb hcd pins s σ H (fun v H1=>v= .ref f/\H1=H) I ⟨_,hv1,rfl,rfl⟩) fun u s1 w1=> ?_)
   obtain ⟨_,H1,I1,r1,ea,eb⟩:=w1
   rw[ea] at r1
   rw[eb] at I1
   cases r1
   refine PySem.W.callWith_K (h₀:=X.base) I1.ok.mod.kin hk (thn (pa pos pins s1 σ H (fun vs H1=>spD X.K F vs H1 Q ξ) I1 (qa σ ρ H α M _ sr hr (OG.seq op fun ds M1 vs H1 α1 e1 h1 r1 q1=>⟨ds,α1,M1,r1,h1,q1⟩))) fun us s2 w2=> ?_) he hpl
   obtain ⟨vs,H2,I2,r2,q2⟩:=w2
   exact ⟨I2.kIn,ZkL G room hb .nil T.ps I2 r2 (by rw[List.append_nil];exact q2)⟩
  ·exact op.elim
 ·exact op.elim
end
noncomputable def Zmq:List (Str × Ev)->Ro->Sto->Out (List D)
 | [],_,M=> .ok [] M
 | (k,f) :: r,ρ,M=>(f ρ M).bind fun d M1=>(Zmq r ρ M1).bind fun ds M2=> .ok (.tup [.str k,d] :: ds) M2
noncomputable def ZoC (kfs:List (Str × Ev)):Ev:=fun ρ M=>(Zmq kfs ρ (M ++ [.lst []])).bind fun ds M1=>match M1[M.length]? with
 |some (.lst [])=> .ok (.dk M.length) (M1.set M.length (.lst ds))
 |_=> .bad
noncomputable def PR (names:List Str) (K:PySem.W.Frag) (H:Hp) (α:List Addr) (ps:List (V × V)) (ds:List D):Prop:= ∃ kvs:List (Key × V),ps=kvs.map (fun kv=>(kV kv.1,kv.2))/\kvs.map (·.1)=names.map Sum.inr/\Zbo K H α Zg6 kvs ds
noncomputable def DPs (X:Cx) (ξ:XK) (pos:Pos) (keys:List (Option Expr)) (values:List Expr) (kfs:List (Str × Ev)):Prop:= ∃ trs,PPs X pos keys values trs/\ ∀ σ ρ H α M Q,SR X.K H α σ ρ->HR X.K H α M->OG X.K (PR (kfs.map (·.1)) X.K) H α ξ Q (Zmq kfs ρ M)->ZgA trs σ H Q
section
variable {X:Cx} {ξ:XK} {pos p:Pos} {v:Expr} {keys:List (Option Expr)} {values:List Expr} {k:Str} {f:Ev} {kfs:List (Str × Ev)} {j:Nat}
theorem Zmr:DPs X ξ pos [] [] []:=⟨[],ZlU,fun σ ρ H α M Q s h q=>q [] H α Ext.refl h ⟨[],rfl,rfl,Zfc⟩⟩
theorem ZZ {jj:Nat} (hv:DE X ξ v f) (hr:DPs X ξ pos keys values kfs):DPs X ξ pos (some (.Constant (.str k) jj p) :: keys) (v :: values) ((k,f) :: kfs):=by
 obtain ⟨tv,pv,qv⟩:=hv
 obtain ⟨trs,pr,qr⟩:=hr
 refine ⟨(tC (.str k),tv) :: trs,ZjD ZkI pv pr,fun σ ρ H α M Q s h q=> ?_⟩
 refine qv σ ρ H α M _ s h (OG.seq q fun d M1 v H1 α1 e1 h1 r1 w1=> ?_)
 refine qr σ ρ H1 α1 M1 _ (s.mono e1) h1 (OG.seq w1 fun ds M2 ps H2 α2 e2 h2 r2 w2=> ?_)
 obtain ⟨kvs,g1,g2,es,g3,g4⟩:=r2
 refine w2 _ H2 α2 Ext.refl h2 ⟨(.inr k,v) :: kvs,by rw[g1];rfl,by rw[List.map_cons,g2];rfl,d :: es,by rw[g3];rfl,.cons (Rep.mono e2 r1) g4⟩
theorem Zkd {kvs:List (Key × V)} {k:Key} {v:V} (h:k ∉ kvs.map (·.1)):ZhW kvs k v=kvs ++ [(k,v)]:=by
 unfold ZhW
 rw[if_neg]
 intro z
 obtain ⟨x,hx,e⟩:=List.any_eq_true.mp z
 exact h (List.mem_map.mpr ⟨x,hx,by simpa using e⟩)
theorem Zfe: ∀ (more kvs:List (Key × V)),((kvs ++ more).map (·.1)).Nodup->Zdj kvs more=kvs ++ more
 | [],kvs,_=>(List.append_nil _).symm
 |m :: more,kvs,h=>by
  have e:kvs ++ m :: more=(kvs ++ [m]) ++ more:=by simp
  have hn:m.1 ∉ kvs.map (·.1):=by
   rw[List.map_append,List.nodup_append] at h
   exact fun z=>h.2.2 _ z _ (by simp) rfl
  show Zdj (ZhW kvs m.1 m.2) more=_
  rw[Zkd hn,Zfe more _ (by rw[<- e];exact h),<- e]
theorem Zms (h:DPs X ξ pos keys values kfs) (nd:(kfs.map (·.1)).Nodup) (l15:kfs.length<=15) (hall:keys.all (·.isSome)=true:=by rfl) (hl:keys.length=values.length:=by rfl) (h0:keys≠[]:=by simp) (h15:keys.length<=15:=by decide):DE X ξ (.Dict keys values pos) (ZoC kfs):=by
 obtain ⟨trs,pr,qr⟩:=h
 refine ⟨_,ZlV pr hall hl h0 h15,fun σ ρ H α M Q s h q p hp=> ?_⟩
 have kn:Kn (upd H p (.dK [])) p=some 1:=by unfold Kn;rw[Zt]
 have ex:Ext X.K H (upd H p (.dK [])) α (α ++ [p]):=Ext.new hp
 have h1:HR X.K (upd H p (.dK [])) (α ++ [p]) (M ++ [.lst []]):=h.newO hp (.inr (.inl ⟨[],Zt,Zfc⟩))
 have rk:RefK (upd H p (.dK [])) (α ++ [p]) 1 M.length p:=⟨h.last p,kn⟩
 refine qr σ ρ _ _ _ _ (s.mono ex) h1 (OG.seq (OG.ext q ex) fun ds M2 ps H2 α2 e2 h2 r2 w2=> ?_)
 obtain ⟨kvs,g1,g2,g3⟩:=r2
 have rk2:=e2.get rk
 split at w2
 ·rename_i em
  rcases h2.atK rk2 em with ⟨kv0,k1,k2⟩ | ⟨_,_,_,_,k2,_⟩
  ·have:kv0=[]:=List.eq_nil_of_length_eq_zero (by rw[ZiD k2];rfl)
   subst this
   refine ⟨k1,kvs,g1,?_,?_⟩
   ·have:=congrArg List.length g2
    rw[List.length_map,List.length_map,List.length_map] at this
    omega
   ·have hn:(kvs.map (·.1)).Nodup:=by
     rw[g2]
     exact List.Pairwise.map _ (fun a b hab z=>hab (Sum.inr.inj z)) nd
    rw[Zfe kvs [] (by simpa using hn),List.nil_append]
    have kn2:Kn (upd H2 p (.dK kvs)) p=some 1:=by unfold Kn;rw[Zt]
    have exw:Ext X.K H2 (upd H2 p (.dK kvs)) α2 α2:=Ext.wrK rk2.kn (fun _ _ z=>by rw[k1] at z;cases z) kn2
    exact w2 _ _ α2 exw (h2.wrO rk2.at' exw (.inr (.inl ⟨kvs,Zt,Zd0 g3 exw⟩))) (.dk (exw.get rk2))
  ·cases k2
 ·exact w2.elim
end
noncomputable def Itk (d:Addr) (o:Obj) (kvs:List (Key × V)):It:=
 ⟨fun i H=>H d=some (.frz o (.dK kvs))/\i < kvs.length,fun i H x H'=>H'=H/\ ∃ k v,kvs[i]?=some (k,v)/\x=kV k,fun i H=>H d=some (.frz o (.dK kvs))/\kvs.length<=i⟩
theorem Zmt {k:Key} {u:Value} (h:ZfF k u=true):Z9 (kV k) u:=by
 rcases ZS h with ⟨i,t,rfl,rfl⟩ | ⟨x,t,rfl,rfl⟩
 ·exact ⟨t,rfl⟩
 ·exact ⟨t,rfl⟩
theorem ZfZ {X:Cx} {pins:List (Addr × Obj)} {σ:L2.St} {H:Hp} {s:Shared} {d:Addr} {o:Obj} {kvs:List (Key × V)} (I:Inv X pins σ H s) (e:H d=some (.frz o (.dK kvs))):(d == sysModules)=false/\ ∃ (vs:List (Key × Value)) (es:Array DictEntry) (ep:Nat),s.heap.DictAt (Zaj X.prog X.w) d vs ep/\KV kvs vs/\o.data= .dict es ep:=by
 obtain ⟨g,_,nd,vs,rel,o',es,ep,g',r⟩:=(show Za6 X.prog X.w H s.heap d (.frz o (.dK kvs)) from I.hok d _ e)
 rw[g] at g'
 cases g'
 exact ⟨nd,vs,es,ep,⟨o,es,g,r⟩,rel,r.2.1⟩
theorem Zhh {P:Program} {w:World} {K:PySem.W.Frag} {B:Around} {tg:Expr} (d it:Addr) (o:Obj) (kvs:List (Key × V)) {es:Array DictEntry} {ep:Nat} (ho:o.data= .dict es ep):Turn P w K B tg (Itk d o kvs) [it] it (fun i h=>h.IsKeyIter it d i kvs.length ep) where
 mem:=by simp
 obj:=fun i h st b hb=>by
  have e:b=it:=by simpa using hb
  subst e
  obtain ⟨o,e,c,d⟩:=st
  exact ⟨o,e,fun v z=>by rw[d] at z;cases z⟩
 keep:=fun i h h' st k=>st.at fun o e=>k it (by simp) o e
 item:=by
  intro X hP hw hK hA i pins s σ H E I hf st hg
  subst hP hw hK hA
  obtain ⟨hd,hi⟩:=hg
  obtain ⟨_,vs,es',ep',da,rel,hep⟩:=ZfZ I hd
  rw[ho] at hep
  cases hep
  obtain ⟨y,h1,h2,h3⟩:=Zd1 rel (List.getElem?_eq_getElem hi)
  obtain ⟨f0,f1,f2,f3,f4,f5⟩:=hf it (by simp)
  have sz:kvs.length=vs.length:=Paired.length rel
  rw[sz] at st
  refine wpAny_pyNext_dict_item st da (k:=y.1) (v:=y.2) h1 fun key h' hk st' sb=> ?_
  rw[<- sz] at st'
  have I1:Inv X pins σ H { s with heap:=h' }:=I.turned (t':=s.toks) (fun b o hb e=>(sb.2 b hb).trans e) f0 f1 f3 f4 f5
  obtain ⟨o2,e,c,dd⟩:=id st'
  refine ⟨key,rfl,Zjw (s:={ s with heap:=h' }) e c dd (by decide) ⟨kV kvs[i].1,H,I1,?_,⟨rfl,_,_,List.getElem?_eq_getElem hi,rfl⟩,st',fun b hb=>(hf b hb).1⟩⟩
  rw[h2]
  exact Zmt hk
 done:=by
  intro X hP hw hK hA i pins s σ H E I hf st hg
  subst hP hw hK hA
  obtain ⟨hd,hi⟩:=hg
  obtain ⟨_,vs,es',ep',da,rel,hep⟩:=ZfZ I hd
  rw[ho] at hep
  cases hep
  obtain ⟨f0,f1,f2,f3,f4,f5⟩:=hf it (by simp)
  have sz:kvs.length=vs.length:=Paired.length rel
  rw[sz] at st
  obtain ⟨o',es2,g,ex,dd,ks,prs',_⟩:=da
  have e2:es2.size=vs.length:=by rw[<- prs'.length];simp
  rw[<- e2] at st
  refine Zhg I.qh st g dd (Array.getElem?_eq_none (by omega)) fun h' ext=>⟨rfl,?_⟩
  exact I.turned (t':=s.toks) (it:=it) (fun b o hb z=>ext b o hb z) f0 f1 f3 f4 f5
 self:=fun A i s Q E st q=>wpAny_pyIter_keyiter st q
section
variable {X:Cx} {ξ:XK} {tg a:Expr} {f:Ev} {te:TE}
noncomputable def iKc (te:TE):TI:=fun σ H R=>te σ H fun x H1=> ∃ d kvs,x= .ref d/\((H1 d=some (.dK kvs)/\ ∀ o,R (Itk d o kvs) (upd H1 d (.frz o (.dK kvs))))\/ ∃ o,H1 d=some (.frz o (.dK kvs))/\R (Itk d o kvs) H1)
theorem Zke {pins:List (Addr × Obj)} {σ:L2.St} {H:Hp} {s:Shared} {d:Addr} {kvs:List (Key × V)} (I:Inv X pins σ H s) (e:H d=some (.dK kvs)): ∃ o,Inv X pins σ (upd H d (.frz o (.dK kvs))) s:=by
 obtain ⟨z,nd,vs,rel,o,es,ep,g,r⟩:=(show Za6 X.prog X.w H s.heap d (.dK kvs) from I.hok d _ e)
 exact ⟨o,I.write (h':=s.heap) (t':=s.toks) (e:=d) (by rw[e];trivial) (.inl rfl) (fun b u _ h=>h) ⟨o,g⟩ ⟨g,z,nd,vs,rel,o,es,ep,g,r⟩⟩
theorem Zkf (hl:PE X a te):PI X tg a (iKc te):=by
 intro pins s σ H R I h
 refine thn (hl pins s σ H _ I h) fun v s1 w1=> ?_
 obtain ⟨x,H1,I1,r1,d,kvs,e,q⟩:=w1
 subst e
 cases r1
 have main: ∀ (H2:Hp) (o:Obj),Inv X pins σ H2 s1->H2 d=some (.frz o (.dK kvs))->R (Itk d o kvs) H2->wpAny (model X.prog X.w) X.A (pyIter (.ref d)) (PIE X pins σ tg R) X.xe s1:=by
  intro H2 o I2 e2 r2
  obtain ⟨nd,vs,es,ep,da,rel,hep⟩:=ZfZ I2 e2
  have sz:kvs.length=vs.length:=Paired.length rel
  refine wpAny_pyIter_dict nd da ?_
  have T:=Zhh (P:=X.prog) (w:=X.w) (K:=X.K) (B:=X.A) (tg:=tg) d s1.heap.objs.size o kvs hep
  refine ⟨s1.heap.objs.size,[s1.heap.objs.size],_,_,H2,rfl,I2.kept (t':=s1.toks) fun b o e=>Heap.get?_push_of_some _ e,T,⟨_,Heap.get?_push_size _ rfl,rfl,by rw[sz];rfl⟩,fun b hb=> ?_,r2⟩
  have e:b=s1.heap.objs.size:=by simpa using hb
  subst e
  exact I2.fpOk (Nat.le_refl _) (I2.hok.fresh (Nat.le_refl _))
 rcases q with ⟨e1,q⟩ | ⟨o,e1,q⟩
 ·obtain ⟨o,I2⟩:=Zke I1 e1
  exact main _ o I2 Zt (q o)
 ·exact main H1 o I1 e1 q
noncomputable def ZoD (f:Ev):Ro->Sto->Out Src:=fun ρ M=>(f ρ M).bind fun d M1=>match d with
 | .dk n=>(match M1[n]? with | some (.lst r)=>if nfz r=true then .ok (.dct n) (M1.set n (.lst (.non :: r))) else .ok (.dct n) M1 | none=> .bad)
 |_=> .bad
theorem Zd2 {K:PySem.W.Frag} {H:Hp} {α:List Addr} {d:Addr} {o:Obj} {kvs:List (Key × V)} {n:Nat} (hp:α[n]?=some d) (hd:H d=some (.frz o (.dK kvs))):Zl3 K H α (Itk d o kvs) (.dct n):=by
 intro i H' α' M' ex hr
 have hd':=ex.fz _ _ _ hd
 have hp':=ex.get0 hp
 have hn:n < M'.length:=by rw[<- hr.len];exact (List.getElem?_eq_some_iff.mp hp').1
 have em:M'[n]?=some M'[n]:=List.getElem?_eq_getElem hn
 generalize M'[n]=so at em
 cases so with
 |lst ds=>
  rcases hr.ob n d _ hp' em with ⟨_,h1,_⟩ | ⟨_,h1,_⟩ | ⟨_,h1,_⟩ | ⟨o2,kvs2,r,h1,rfl,es,rfl,h3⟩ | ⟨_,_,_,h1,_⟩
  ·rw[hd'] at h1;cases h1
  ·rw[hd'] at h1;cases h1
  ·rw[hd'] at h1;cases h1
  ·rw[hd'] at h1
   cases h1
   have le:es.length=kvs.length:=by have:=h3.length;rw[List.length_map] at this;exact this.symm
   by_cases hi:i < kvs.length
   ·have e1:(List.zipWith (fun kv e=>D.tup [Zg6 kv.1,e]) kvs es)[i]?=some (.tup [Zg6 kvs[i].1,es[i]'(by omega)]):=by
     rw[List.getElem?_zipWith,List.getElem?_eq_getElem hi,List.getElem?_eq_getElem (by omega)]
    have e2:nxt (.dct n) i M'=some (some (Zg6 kvs[i].1)):=by simp only[nxt,em,e1]
    rw[e2]
    refine ⟨⟨hd',hi⟩,fun x H'' y=> ?_⟩
    obtain ⟨rfl,k,v,y1,rfl⟩:=y
    rw[List.getElem?_eq_getElem hi,Option.some.injEq] at y1
    rw[y1]
    exact ⟨Ext.refl,hr,by cases k<;>constructor⟩
   ·have e1:(List.zipWith (fun kv e=>D.tup [Zg6 kv.1,e]) kvs es)[i]?=none:=List.getElem?_eq_none (by rw[List.length_zipWith];omega)
    have e2:nxt (.dct n) i M'=some none:=by simp only[nxt,em,e1]
    rw[e2]
    exact ⟨hd',by omega⟩
  ·rw[hd'] at h1;cases h1
theorem Zkg (ha:DE X ξ a f):DI X ξ tg a (ZoD f):=by
 obtain ⟨ta,pa,qa⟩:=ha
 refine ⟨_,Zkf pa,fun σ ρ H α M R s hh q=>qa σ ρ H α M _ s hh (OG.seq q fun d M1 v H1 α1 e1 h1 r1 w1=> ?_)⟩
 cases r1 with
 | @dk p n hp=>
  cases em:M1[n]? with
  |none=>simp only[em] at w1;exact w1.elim
  |some so=>
   cases so with
   |lst r=>
    simp only[em] at w1
    rcases h1.atK hp em with ⟨kvs,g1,g2⟩ | ⟨o,kvs,r',g1,rfl,g2⟩
    ·have nf:nfz r=true:=by
      obtain ⟨es,rfl,_⟩:=g2
      cases kvs with
      |nil=>rfl
      |cons x t=>cases es<;>rfl
     rw[if_pos nf] at w1
     refine ⟨p,kvs,rfl,.inl ⟨g1,fun o=> ?_⟩⟩
     have kn:Kn (upd H1 p (.frz o (.dK kvs))) p=some 1:=by unfold Kn;rw[Zt]
     have ex:Ext X.K H1 (upd H1 p (.frz o (.dK kvs))) α1 α1:=Ext.wrK hp.kn (fun _ _ z=>by rw[g1] at z;cases z) kn
     exact w1 _ _ α1 ex (h1.wrO hp.at' ex (.inr (.inr (.inr (.inl ⟨o,kvs,r,Zt,rfl,Zd0 g2 ex⟩))))) (Zd2 hp.at' Zt)
    ·rw[if_neg (fun z=>nomatch z)] at w1
     exact ⟨p,kvs,rfl,.inr ⟨o,g1,w1 _ H1 α1 Ext.refl h1 (Zd2 hp.at' g1)⟩⟩
 |_=>exact w1.elim
end
end DL
end
section
namespace DL
open PySem PySem.Spec PyProof.Rows L2
section
variable {X:Cx} {ξ:XK} {pins:List (Addr × Obj)} {σ:L2.St} {H:Hp} {s:Shared} {α:List Addr} {M:Sto}
end
end DL
end
namespace DL
open PySem PySem.Spec L2
section
variable {X:Cx} {ξ:XK} {a b c:Expr} {fa fb fc:Ev} {pos:Pos}
end
end DL
section
namespace DL
open PySem PySem.Spec PyProof.Rows L2 PySem.W
section
variable {K:PySem.W.Frag} {H:Hp} {α:List Addr}
end
section
variable {X:Cx} {ξ:XK} {pos:Pos}
variable {o e:Expr} {fo fa:Ev} {apos cpos:Pos}
end
end DL
end
section
namespace PySem.SeqAt
open MeetsSeq MeetsSeq2 MeetsSeq3 SeqRoads2
end PySem.SeqAt
namespace DL
open PySem PySem.Spec PyProof.Rows L2 PySem.W
section
variable {X:Cx} {ξ:XK} {o e:Expr} {fo fa:Ev} {apos cpos:Pos}
end
end DL
end
section
namespace ST
open PySem PyProof.Rows
noncomputable abbrev lt (a b:List Int):Bool:=HT.ZdM a b
noncomputable def le (a b:List Int):Prop:=lt b a=false
theorem Zk4: ∀ a:List Int,lt a a=false
 | []=>rfl
 |x :: r=>by
  show HT.ZdM (x :: r) (x :: r)=false
  rw[HT.ZcB,if_pos rfl]
  exact Zk4 r
theorem ZoE: ∀ {a b c:List Int},lt a b=true->lt b c=true->lt a c=true
 | [],[],_,h,_=>by cases h
 | [],_ :: _,[],_,h=>by cases h
 | [],_ :: _,_ :: _,_,_=>rfl
 |_ :: _,[],_,h,_=>by cases h
 |_ :: _,_ :: _,[],_,h=>by cases h
 |x :: a,y :: b,z :: c,h,g=>by
  show HT.ZdM (x :: a) (z :: c)=true
  have h:HT.ZdM (x :: a) (y :: b)=true:=h
  have g:HT.ZdM (y :: b) (z :: c)=true:=g
  rw[HT.ZcB] at h g ⊢
  by_cases e1:x=y
  ·subst e1
   rw[if_pos rfl] at h
   by_cases e2:x=z
   ·rw[if_pos e2] at g ⊢;exact ZoE h g
   ·rw[if_neg e2] at g ⊢;exact g
  ·rw[if_neg e1] at h
   have h:=of_decide_eq_true h
   by_cases e2:y=z
   ·subst e2;rw[if_neg e1];exact decide_eq_true h
   ·rw[if_neg e2] at g
    have g:=of_decide_eq_true g
    rw[if_neg (by omega)]
    exact decide_eq_true (by omega)
theorem Zk5: ∀ {a b:List Int},lt a b=false->lt b a=false->a=b
 | [],[],_,_=>rfl
 | [],_ :: _,h,_=>by cases h
 |_ :: _,[],_,h=>by cases h
 |x :: a,y :: b,h,g=>by
  have h:HT.ZdM (x :: a) (y :: b)=false:=h
  have g:HT.ZdM (y :: b) (x :: a)=false:=g
  rw[HT.ZcB] at h g
  by_cases e:x=y
  ·subst e
   rw[if_pos rfl] at h g
   rw[Zk5 h g]
  ·rw[if_neg e] at h
   rw[if_neg (Ne.symm e)] at g
   have:=of_decide_eq_false h
   have:=of_decide_eq_false g
   omega
theorem ZoF (a:List Int):le a a:=Zk4 a
theorem ZoG {a b c:List Int} (h:le a b) (g:le b c):le a c:=by
 unfold le at *
 cases e:lt c a with
 |false=>rfl
 |true=>
  cases e2:lt b a with
  |true=>rw[e2] at h;cases h
  |false=>
   cases e3:lt a b with
   |true=>rw[ZoE e e3] at g;cases g
   |false=>
    have:=Zk5 e3 e2
    subst this
    rw[e] at g;cases g
variable (kf:Keyed->List Int)
noncomputable def ky (xs:Array Keyed) (i:Nat):List Int:=match xs[i]? with | some p=>kf p | none=>[]
noncomputable def Up (xs:Array Keyed) (n:Nat):Prop:= ∀ i j,i<=j->j < n->le (ky kf xs i) (ky kf xs j)
noncomputable def Dn (xs:Array Keyed) (n:Nat):Prop:= ∀ i j,i<=j->j < n->le (ky kf xs j) (ky kf xs i)
variable {kf}
section
variable {prog:Program} {w:World} {A:Around} {E:Value->Shared->Prop} {s:Shared} {B:SortSt->Prop} {N:Nat}
theorem Up.more {xs:Array Keyed} {n:Nat} (h:Up kf xs n) (h1:1<=n) (hl:le (ky kf xs (n - 1)) (ky kf xs n)):Up kf xs (n + 1):=by
 intro i j ij jn
 by_cases c:j < n
 ·exact h i j ij c
 ·have:j=n:=by omega
  subst this
  by_cases c2:i=j
  ·subst c2;exact ZoF _
  ·exact ZoG (h i (j - 1) (by omega) (by omega)) hl
theorem Dn.more {xs:Array Keyed} {n:Nat} (h:Dn kf xs n) (h1:1<=n) (hl:le (ky kf xs n) (ky kf xs (n - 1))):Dn kf xs (n + 1):=by
 intro i j ij jn
 by_cases c:j < n
 ·exact h i j ij c
 ·have:j=n:=by omega
  subst this
  by_cases c2:i=j
  ·subst c2;exact ZoF _
  ·exact ZoG hl (h i (j - 1) (by omega) (by omega))
end
end ST
end
section
namespace ST
end ST
namespace DL
open PySem PySem.Spec PyProof.Rows L2 PySem.W
section
variable {X:Cx} {ξ:XK}
end
end DL
end
section
namespace DL
open PySem PySem.Spec PyProof.Rows L2
noncomputable def Bag (n:Nat) (M:Sto):Prop:= ∃ a b:Int,0<=a/\M[n]?=some (.lst [.int a,.int b])
structure Gr (n:Nat) (M M':Sto):Prop where
 len:M.length<=M'.length
 bag:Bag n M'
 keep: ∀ k,k≠n->k < M.length->M'[k]?=M[k]?
theorem Zmu {g:Sv} {n k:Nat} {ds:List D} {M M':Sto} {d:D} (hl:ds.length=n) (h:g (ds.map some ++ List.replicate k none) M= .ret d M'):fnF g n k ds M= .ok d M':=by
 unfold fnF
 rw[if_pos hl,h]
theorem ZiH {g h:Sv} {ρ ρ1:Ro} {M M1:Sto} (e:g ρ M= .nx ρ1 M1):ZC g h ρ M=h ρ1 M1:=by
 unfold ZC
 rw[e]
theorem ZiI {i j:Int} (h1: -(2 ^ 64) < j) (h2:j < 2 ^ 64):ZO i j:= .inr (.inl (intBits_le_64 h1 h2))
theorem ZiJ {i j:Int} (h1: -(2 ^ 64) < i) (h2:i < 2 ^ 64):ZO i j:= .inl (intBits_le_64 h1 h2)
theorem at0 {x:D} {r:List D}:atI (x :: r) 0=some x:=by
 show (ixN (r.length + 1) 0).bind _=_
 unfold ixN
 rw[if_pos (by decide),if_pos (by omega)]
 rfl
theorem at1 {x y:D} {r:List D}:atI (x :: y :: r) 1=some y:=by
 show (ixN (r.length + 2) 1).bind _=_
 unfold ixN
 rw[if_pos (by decide),if_pos (by omega)]
 rfl
theorem ix0 {n:Nat}:ixN (n + 1) 0=some 0:=by
 unfold ixN
 rw[if_pos (by decide),if_pos (by omega)]
 rfl
theorem ix1 {n:Nat}:ixN (n + 2) 1=some 1:=by
 unfold ixN
 rw[if_pos (by decide),if_pos (by omega)]
 rfl
theorem Bag.lt {n:Nat} {M:Sto} (h:Bag n M):n < M.length:=let ⟨_,_,_,e⟩:=h;(List.getElem?_eq_some_iff.mp e).1
theorem Bag.app {n:Nat} {M:Sto} (h:Bag n M) (L:Sto):Bag n (M ++ L):=by
 have hl:=h.lt
 obtain ⟨a,b,h1,h2⟩:=h
 exact ⟨a,b,h1,by rw[List.getElem?_append_left hl];exact h2⟩
theorem Gr.trans {n:Nat} {M M1 M2:Sto} (a:Gr n M M1) (b:Gr n M1 M2):Gr n M M2:=
 ⟨Nat.le_trans a.len b.len,b.bag,fun k h1 h2=>(b.keep k h1 (Nat.lt_of_lt_of_le h2 a.len)).trans (a.keep k h1 h2)⟩
theorem Gr.app {n:Nat} {M:Sto} (h:Bag n M) (L:Sto):Gr n M (M ++ L):=⟨by simp,h.app L,fun k _ hk=>by rw[List.getElem?_append_left hk]⟩
theorem Gr.app2 {n:Nat} {M M1:Sto} (h:Gr n M M1) (L:Sto):Gr n M (M1 ++ L):=h.trans (.app h.bag L)
theorem Gr.new {n:Nat} {M M1:Sto} {o:SO} {L:Sto} (hb:Bag n M) (h:Gr n (M ++ o :: L) M1):M1[M.length]?=some o:=by
 rw[h.keep _ (Nat.ne_of_gt hb.lt) (by simp)]
 simp
theorem Zkh {ns:List Int} {k:Nat} (h:k < ns.length):atI (ns.map D.int) (k:Int)=some (.int ns[k]):=ZlI (by rw[List.getElem?_map,List.getElem?_eq_getElem h];rfl)
theorem ZgR {ρ:Ro} {i:Nat} {x:Option D} (h:ρ[i]?=some x):ρ.set i x=ρ:=by
 apply List.ext_getElem?
 intro k
 by_cases hk:k=i
 ·subst hk
  rw[List.getElem?_set_self (List.getElem?_eq_some_iff.mp h).1,h]
 ·rw[List.getElem?_set_ne (Ne.symm hk)]
noncomputable def cEu (i j:Nat):Sv:=ZfD i j (Zc (Zh j) (Zc (e2 dMod (Zh i) (Zh j)) aNil))
theorem ZoH {c:Tv} {i j:Nat} {M:Sto} (hij:i≠j) (hc: ∀ (ρ:Ro) (b:Nat),ρ[j]?=some (some (.int b))->c ρ M= .ok (decide (b≠0)) M): ∀ (b a:Nat) (ρ:Ro),ρ[i]?=some (some (.int a))->ρ[j]?=some (some (.int b))->
  sWh c (cEu i j) ρ M= .nx ((ρ.set i (some (.int (Nat.gcd a b:Nat)))).set j (some (.int 0))) M:=by
 intro b
 induction b using Nat.strongRecOn with
 |ind b ih=>
  intro a ρ hi hj
  by_cases h0:b=0
  ·subst h0
   rw[Zid (M1:=M) (by rw[hc ρ 0 hj];rfl),Nat.gcd_zero_right,ZgR hi,ZgR (x:=some (.int 0)) hj]
  ·have hl:i < ρ.length:=(List.getElem?_eq_some_iff.mp hi).1
   have hl2:j < ρ.length:=(List.getElem?_eq_some_iff.mp hj).1
   have ht:c ρ M= .ok true M:=by rw[hc ρ b hj,decide_eq_true h0]
   have hb:cEu i j ρ M= .nx ((ρ.set i (some (.int b))).set j (some (.int (a % b:Nat)))) M:=by
    have hb0: ¬ (b:Int)=0:=by omega
    have hm:(a:Int).fmod (b:Int)=((a % b:Nat):Int):=by rw[Int.fmod_eq_emod_of_nonneg _ (by omega)];rfl
    simp[cEu,ZfD,Zc,aNil,Zh,e2,dMod,Out.bind,ZaU,hi,hj,hb0,hm,h0]
   have g1:((ρ.set i (some (.int b))).set j (some (.int (a % b:Nat))))[i]?=some (some (.int b)):=by
    rw[List.getElem?_set_ne (Ne.symm hij),List.getElem?_set_self hl]
   have g2:((ρ.set i (some (.int b))).set j (some (.int (a % b:Nat))))[j]?=some (some (.int (a % b:Nat))):=by
    rw[List.getElem?_set_self (by simpa using hl2)]
   have q:=ih (a % b) (Nat.mod_lt _ (by omega)) b _ g1 g2
   rw[ZjQ ht hb (by rw[q];intro z;cases z),q]
   have eg:Nat.gcd b (a % b)=Nat.gcd a b:=by rw[Nat.gcd_comm b,<- Nat.gcd_rec,Nat.gcd_comm]
   rw[eg,List.set_comm _ _ (Ne.symm hij),List.set_set,List.set_set]
theorem ZoI {M:Sto} {a b:Int}:eqF 12 M (.int a) (.int b)=some (a == b):=rfl
theorem ne0 {j:Nat} {M:Sto} (ρ:Ro) (b:Nat) (h:ρ[j]?=some (some (.int b))):tv (e2 dNe (Zh j) (eC (.int 0))) ρ M= .ok (decide (b≠0)) M:=by
 simp[tv,e2,Zh,eC,h,Out.bind,dNe,ZoI]
 by_cases c:b=0
 ·subst c;rfl
 ·have: ¬ (b:Int)=0:=by omega
  simp[c,this]
theorem ZiK (a:Int):(if a < 0 then -a else a)=(a.natAbs:Int):=by split<;>omega
noncomputable def ZtW:Sv:=(ZC (ZfD 2 3 (Zc (Zk bAbs (Zc (Zh 0) aNil)) (Zc (Zk bAbs (Zc (Zh 1) aNil)) aNil)))
 (ZC (sWh (tv (e2 dNe (Zh 3) (eC (.int 0)))) (ZfD 2 3 (Zc (Zh 3) (Zc (e2 dMod (Zh 2) (Zh 3)) aNil))))
 (Zag (Zh 2))))
noncomputable def FGcd:List D->Sto->Out D:=fnF ZtW 2 2
theorem ZoJ (a b:Int) (M:Sto):FGcd [.int a,.int b] M= .ok (.int (Int.gcd a b:Nat)) M:=by
 refine Zmu rfl ?_
 refine (ZiH (ρ1:=[some (.int a),some (.int b),some (.int (a.natAbs:Nat)),some (.int (b.natAbs:Nat))]) (M1:=M) ?_).trans ?_
 ·simp[fnF,ZC,sNil,Zag,Zoi,Zb0,sIf,ZQ,ZfD,ZjP,ZaU,gNm,gNl,gCs,gTp,DL.e2,Zh,eC,Zap,Zbn,Zk,Zc,aNil,tv,Zdm,Zht,ZbZ,Zg8,Zn6,Zh4,eIf,Zdo,Znq,Out.bind,dAdd,dSub,dMul,dDiv,dMod,dPow,dLt,dLe,dGt,dGe,dIx,atD,at0,at1,ix0,ix1,bLen,bAbs,bMax,bMin,bInt,bList,ZfQ,ZbA,kd,Zdc,dIs,dIsNot,isP,ZiK]
 ·have q:=ZoH (c:=tv (e2 dNe (Zh 3) (eC (.int 0)))) (i:=2) (j:=3) (M:=M) (by decide) ne0 b.natAbs a.natAbs [some (.int a),some (.int b),some (.int (a.natAbs:Nat)),some (.int (b.natAbs:Nat))] rfl rfl
  refine (ZiH q).trans ?_
  rfl
end DL
end
section
end
section
namespace HD
open PySem PySem.W PyProof.Rows
noncomputable def Zqr (thr:Thread->Bool) (stp:SharedT->Thread->Option (SharedT × Thread)) (n:Nat):SharedT->Thread->Option SharedT:=
 Nat.rec (motive:=fun _=>SharedT->Thread->Option SharedT) (fun _ _=>none) (fun _ ih s t=>Bool.rec (motive:=fun _=>Option SharedT) (Option.rec (motive:=fun _=>Option SharedT) none (fun r=>ih r.1 r.2) (stp s t)) (some s) (thr t)) n
noncomputable def Zki (ok:Thread->Bool) (stp:SharedT->Thread->Option (SharedT × Thread)) (s:SharedT) (t:Thread):Option (SharedT × Thread):=Bool.rec (motive:=fun _=>Option (SharedT × Thread)) none (stp s t) (ok t)
section
variable {tb:String->Option Builtin} {p:Program} {w:World} {n₀:Nat} {ann:Option Value}
theorem Zk6: ∀ {n:Nat} {s s':SharedT} {t:Thread},Zqr through (Zki (stepOk n₀ ann) (stepT (denote tb) p w)) n s t=some s'->topRun tb p w n₀ ann n s.abs t=some s'.abs
 |0,s,s',t,h=>by cases h
 |n + 1,s,s',t,h=>by
  unfold topRun
  change Bool.rec (motive:=fun _=>Option SharedT) (Option.rec (motive:=fun _=>Option SharedT) none (fun r=>Zqr through (Zki (stepOk n₀ ann) (stepT (denote tb) p w)) n r.1 r.2) (Zki (stepOk n₀ ann) (stepT (denote tb) p w) s t)) (some s) (through t)=some s' at h
  cases ht:through t with
  |true=>
   rw[ht] at h
   have h':some s=some s':=h
   cases h'
   rfl
  |false=>
   rw[ht] at h
   cases hk:stepOk n₀ ann t with
   |false=>
    have e:Zki (stepOk n₀ ann) (stepT (denote tb) p w) s t=none:=by unfold Zki;rw[hk]
    rw[e] at h
    cases h
   |true=>
    have e:Zki (stepOk n₀ ann) (stepT (denote tb) p w) s t=stepT (denote tb) p w s t:=by unfold Zki;rw[hk]
    rw[e] at h
    cases hs:stepT (denote tb) p w s t with
    |none=>rw[hs] at h;cases h
    |some r=>
     obtain ⟨s2,t2⟩:=r
     rw[hs] at h
     have:=stepT_spec hs
     rw[this]
     exact Zk6 (n:=n) h
end
noncomputable def T0 (w:World) (os:OsState):SharedT:=
 ⟨[boot_o_0,boot_o_1,boot_o_2,boot_o_3,boot_o_4,boot_o_5,boot_o_6,boot_o_7,boot_o_8,boot_o_9,boot_o_10].foldl (fun (r:Nat × BT) o=>(r.1 + 1,r.2.ins r.1 (o w.params))) (0,.nil) |>.2,11,(boot_heap w.params).life,#[],boot_drawn,boot_toks,os⟩
theorem ZoK (w:World) (os:OsState):(T0 w os).abs=⟨boot_heap w.params,#[],boot_drawn,boot_toks,os⟩:=by kernel_rfl
theorem Zmv:Str.ofString "__annotations__"=⟨#[95,95,97,110,110,111,116,97,116,105,111,110,115,95,95]⟩:=by decide +kernel
theorem ZiL {p q:Program} {loose:List Str} {Xt:Shared->Bool} {α:Type} {Yf:Shared->α} {Ya:World->α} {N M:Nat} (e:opening p=plainProg p.main.scope.names) (hN:Nat.ble 600 N=true) (f: ∀ s,fenceModules? p s=some s) (le:Nat.ble M N=true)
  (Zq3: ∀ (w:World) (os:OsState),(Zqr through (Zki (stepOk 11 (some (.ref 6))) (stepT (denote treeTable) p w)) M (T0 w os) (topStub p)).map (fun s=>((staticsOk (importedModules p.main.body) (boot_heap w.params) s.abs.heap && namesBound p s.abs.heap && gensDone s.abs && laidKept (boot_heap w.params) s.abs.heap),
    openSeen q loose (importedModules p.main.body) Xt true s.abs,Yf s.abs))=some (true,openGood q loose,Ya w)):LeftO p q loose Xt Yf Ya N:=fun w=>by
 obtain ⟨⟨h,gs,d,k,os⟩,e1,e2⟩:=Option.map_eq_some_iff.mp (boot_open e hN f w)
 obtain ⟨rfl,rfl,rfl,rfl⟩:h=boot_heap w.params/\gs=Array.mk []/\d=boot_drawn/\k=boot_toks:=by simpa using e2
 obtain ⟨s',r1,r2⟩:=Option.map_eq_some_iff.mp (Zq3 w os)
 obtain ⟨l1,l2,l3⟩:_/\_/\_:=by simpa only[Prod.mk.injEq] using r2
 have r:=Zk6 r1
 rw[ZoK] at r
 have r:=topRun_mono (N - M) _ _ _ _ r
 rw[show M + (N - M)=N by have:=Nat.le_of_ble_eq_true le;omega] at r
 have z1:((boot_heap w.params).isNs mainGlobals && (Array.mk []:Array GenState).size == 0)=true:=by kernel_rfl
 have z2:(boot_heap w.params).objs.size=11:=rfl
 have z3:(boot_heap w.params).nsMap mainGlobals "__annotations__"=some (.ref 6):=by
  rw[Zmv]
  kernel_rfl
 have t:topFrom treeTable p w N ⟨boot_heap w.params,Array.mk [],boot_drawn,boot_toks,os⟩=some s'.abs:=by
  unfold topFrom
  dsimp only
  rw[z1,z2,z3,r]
  show (match staticsOk (importedModules p.main.body) (boot_heap w.params) s'.abs.heap && namesBound p s'.abs.heap && gensDone s'.abs && laidKept (boot_heap w.params) s'.abs.heap with | true=>_ | false=>_)=_
  rw[l1]
 unfold openEnds
 rw[e1]
 show (topFrom treeTable p w N _).map _=_
 rw[t]
 exact congrArg some (Prod.ext l2 l3)
end HD
namespace HD
open PySem PySem.W
theorem Zq4: @stepOk= @PySem.W.Fast.tw6613529449190102663:=PySem.W.Fast.te6613529449190102663
theorem Zmw: @stepT= @PySem.W.Fast.tw10156331382660048174:=PySem.W.Fast.te10156331382660048174
theorem ZoL: @denote= @PySem.W.Fast.tw11892475500146522536:=PySem.W.Fast.te11892475500146522536
theorem ZoM: @treeTable= @PySem.W.Fast.tw14364793385576792824:=PySem.W.Fast.te14364793385576792824
theorem Zmx: @openSeen= @PySem.W.Fast.tw4187177175401517315:=PySem.W.Fast.te4187177175401517315
theorem ZoN: @importedModules= @PySem.W.Fast.tw5923862056798008813:=PySem.W.Fast.te5923862056798008813
end HD
end
section
namespace DL
open PySem PySem.Spec PyProof.Rows L2
noncomputable def wO {β:Type} (o:Out β) (Q:β->Sto->Prop) (E:Str->Sto->Prop):Prop:=match o with
 | .ok a M=>Q a M
 | .exc c M=>E c M
 | .bad=>False
noncomputable def wS (f:Fl) (N:Ro->Sto->Prop) (R:D->Sto->Prop) (B C:Ro->Sto->Prop) (E:Str->Sto->Prop):Prop:=match f with
 | .nx ρ M=>N ρ M
 | .ret d M=>R d M
 | .brk ρ M=>B ρ M
 | .cnt ρ M=>C ρ M
 | .exc c M=>E c M
 | .bad=>False
noncomputable def Br (k:Bool) (A B:Prop):Prop:=(k=true->A)/\(k=false->B)
noncomputable def wG {β:Type} (o:Option β) (N:β->Prop):Prop:=match o with | some ρ=>N ρ | none=>False
noncomputable def wV (o:Option (Option D)) (Q:D->Prop):Prop:=match o with | some (some d)=>Q d | _=>False
noncomputable def wI (x:D) (Q:Int->Prop):Prop:=match x with | .int i=>Q i | _=>False
noncomputable def wB (x:D) (Q:Bool->Prop):Prop:=match x with | .bl i=>Q i | _=>False
noncomputable def wR (x:D) (Q:Nat->Prop):Prop:=match x with | .ref i=>Q i | _=>False
noncomputable def w1 (x:List D) (Q:D->Prop):Prop:=match x with | [v]=>Q v | _=>False
noncomputable def w2 (x:List D) (Q:D->D->Prop):Prop:=match x with | [v,w]=>Q v w | _=>False
noncomputable def wL (o:Option SO) (Q:List D->Prop):Prop:=match o with | some (.lst xs)=>Q xs | none=>False
section
variable {β:Type} {o o':Option (Option D)} {x x':D} {Q:D->Prop} {QI:Int->Prop} {QB:Bool->Prop} {QR:Nat->Prop} {QL:List D->Prop} {l l':Option SO} {d:D} {i:Int} {k:Bool} {n:Nat} {xs:List D} {g g':Option β} {QG:β->Prop} {y:β}
theorem ZtX:w1 [d] Q=Q d:=rfl
theorem ZtY {Q2:D->D->Prop}:w2 [d,x] Q2=Q2 d x:=rfl
theorem ZtZ:wV (some (some d)) Q=Q d:=rfl
theorem Zt0:wI (.int i) QI=QI i:=rfl
theorem Zt1:wB (.bl k) QB=QB k:=rfl
theorem Zt2:wR (.ref n) QR=QR n:=rfl
theorem Zt3:wL (some (.lst xs)) QL=QL xs:=rfl
theorem Zt4:wG (some y) QG=QG y:=rfl
end
section
variable {β:Type} {Q:β->Sto->Prop} {E:Str->Sto->Prop} {N B C:Ro->Sto->Prop} {R:D->Sto->Prop} {ρ:Ro} {M:Sto} {A A':Prop}
theorem Zu {d:β}:wO (.ok d M) Q E=Q d M:=rfl
theorem ZoO {c:Str}:wO (.exc c M:Out β) Q E=E c M:=rfl
theorem Zq5:Br true A A'=A:=by simp[Br]
theorem ZsJ:Br false A A'=A':=by simp[Br]
theorem Zes {o:Out β} {Q':β->Sto->Prop} {E':Str->Sto->Prop} (h:wO o Q E) (hq: ∀ d M,Q d M->Q' d M) (he: ∀ c M,E c M->E' c M):wO o Q' E':=by
 cases o with
 |ok d M=>exact hq d M h
 |exc c M=>exact he c M h
 |bad=>exact h
theorem ZoP {o:Out β} (h:wO o Q (fun _ _=>False)): ∃ d M',o= .ok d M'/\Q d M':=by
 cases o with
 |ok d M=>exact ⟨d,M,rfl,h⟩
 |exc c M=>exact h.elim
 |bad=>exact h.elim
theorem ZB {γ:Type} {o:Out γ} {f:γ->Sto->Out β}:wO (o.bind f) Q E=wO o (fun x M1=>wO (f x M1) Q E) E:=by cases o<;>rfl
end
section
variable {Q:D->Sto->Prop} {E:Str->Sto->Prop} {N B C:Ro->Sto->Prop} {R:D->Sto->Prop} {ρ:Ro} {M:Sto} {e f g:Ev} {fs:Av}
theorem Zq6 {op:Bo}:wO (e2 op f g ρ M) Q E=wO (f ρ M) (fun x M1=>wO (g ρ M1) (fun y M2=>wO (op x y M2) Q E) E) E:=by
 unfold e2
 rw[ZB]
 congr 1
 funext x M1
 rw[ZB]
theorem Zt5 {i:Nat}:wO (Zh i ρ M) Q E=wV ρ[i]? (fun d=>Q d M):=by
 unfold Zh
 cases ρ[i]? with
 |none=>rfl
 |some o=>cases o<;>rfl
theorem Zmy {F:List D->Sto->Out D}:wO (Zk F fs ρ M) Q E=wO (fs ρ M) (fun ds M1=>wO (F ds M1) Q E) E:=ZB
theorem Zmz {Q:List D->Sto->Prop}:wO (Zc f fs ρ M) Q E=wO (f ρ M) (fun x M1=>wO (fs ρ M1) (fun xs M2=>Q (x :: xs) M2) E) E:=by
 unfold Zc
 rw[ZB]
 congr 1
 funext x M1
 rw[ZB]
 congr 1
theorem ZoQ:wO (Zap fs ρ M) Q E=wO (fs ρ M) (fun xs M1=>xs.length<=1000/\Q (.tup xs) M1) E:=by
 unfold Zap
 rw[ZB]
 congr 1
 funext x M1
 by_cases h:x.length<=1000
 ·rw[if_pos h];simp[h,wO]
 ·rw[if_neg h];simp[h,wO]
theorem ZoR:wO (Zbn fs ρ M) Q E=wO (fs ρ M) (fun xs M1=>xs.length<=1000/\Q (.ref M1.length) (M1 ++ [.lst xs])) E:=by
 unfold Zbn
 rw[ZB]
 congr 1
 funext x M1
 by_cases h:x.length<=1000
 ·rw[if_pos h];simp[h,wO]
 ·rw[if_neg h];simp[h,wO]
variable {t u:Tv}
theorem ZoS {Q:Bool->Sto->Prop}:wO (ZbZ t ρ M) Q E=wO (t ρ M) (fun k M1=>Q (!k) M1) E:=by
 unfold ZbZ
 rw[ZB]
 congr 1
variable {a b:Sv}
theorem ZoT:wS (ZC a b ρ M) N R B C E=wS (a ρ M) (fun ρ1 M1=>wS (b ρ1 M1) N R B C E) R B C E:=by
 unfold ZC
 cases a ρ M<;>rfl
theorem Zaz {β:Type} {o:Out β} {k:β->Sto->Fl}:wS (ZaU o k) N R B C E=wO o (fun x M1=>wS (k x M1) N R B C E) E:=by cases o<;>rfl
theorem ZoU:wS (Zag f ρ M) N R B C E=wO (f ρ M) R E:=Zaz
theorem ZmA:wS (Zb0 f ρ M) N R B C E=wO (f ρ M) (fun _ M1=>N ρ M1) E:=Zaz
theorem ZoV {i:Nat}:wS (ZQ (gNm i) f ρ M) N R B C E=wO (f ρ M) (fun d M1=>N (ρ.set i (some d)) M1) E:=Zaz
theorem ZmB {gs:Tgs}:wS (ZQ (gTp gs) f ρ M) N R B C E=wO (f ρ M) (fun d M1=>wG (gTp gs d ρ) (fun r=>N r M1)) E:=by
 unfold ZQ
 rw[Zaz]
 congr 1
 funext d M1
 cases gTp gs d ρ<;>rfl
theorem ZoW {i j:Nat}:wS (ZfD i j fs ρ M) N R B C E=wO (fs ρ M) (fun ds M1=>w2 ds fun v w=>N ((ρ.set i (some v)).set j (some w)) M1) E:=by
 unfold ZfD
 rw[Zaz]
 congr 1
 funext ds M1
 rcases ds with _ | ⟨v,_ | ⟨w,_ | ⟨z,r⟩⟩⟩<;>rfl
theorem ZoX {fo fi:Ev}:wS (ZjP fo fi f ρ M) N R B C E=wO (f ρ M) (fun d M1=>wO (fo ρ M1) (fun o M2=>wO (fi ρ M2) (fun i M3=>wR o fun n=>wI i fun k=>wL M3[n]? fun xs=>wG (ixN xs.length k) fun j=>N ρ (M3.set n (.lst (xs.set j d)))) E) E) E:=by
 unfold ZjP
 rw[Zaz]
 congr 1
 funext d M1
 rw[Zaz]
 congr 1
 funext o M2
 rw[Zaz]
 congr 1
 funext i M3
 cases o<;>cases i<;>try rfl
 rename_i n k
 cases e:M3[n]? with
 |none=>simp only[e,wR,wI,wL,wS]
 |some s=>
  cases s with
  |lst xs=>
   cases e2:ixN xs.length k<;>simp only[e,e2,wR,wI,wL,wG,wS]
theorem Zkj {c:Str}:wS (ZbH c fs ρ M) N R B C E=wO (fs ρ M) (fun ds M1=>ds.length<=1000/\E c M1) E:=by
 unfold ZbH
 rw[Zaz]
 congr 1
 funext ds M1
 by_cases h:ds.length<=1000
 ·rw[if_pos h];simp[h,wS]
 ·rw[if_neg h];simp[h,wS]
theorem wF {n k:Nat} {ds:List D} (hl:ds.length=n):wO (fnF a n k ds M) Q E=wS (a (ds.map some ++ List.replicate k none) M) (fun _ M1=>Q .non M1) Q (fun _ _=>False) (fun _ _=>False) E:=by
 unfold fnF
 rw[if_pos hl]
 cases a (ds.map some ++ List.replicate k none) M<;>rfl
theorem ZiM {o:Fl} {N' B' C':Ro->Sto->Prop} {R':D->Sto->Prop} {E':Str->Sto->Prop} (h:wS o N R B C E) (hn: ∀ ρ M,N ρ M->N' ρ M) (hr: ∀ d M,R d M->R' d M) (hb: ∀ ρ M,B ρ M->B' ρ M) (hc: ∀ ρ M,C ρ M->C' ρ M) (he: ∀ c M,E c M->E' c M):wS o N' R' B' C' E':=by
 cases o with
 |nx ρ M=>exact hn _ _ h
 |ret ρ M=>exact hr _ _ h
 |brk ρ M=>exact hb _ _ h
 |cnt ρ M=>exact hc _ _ h
 |exc ρ M=>exact he _ _ h
 |bad=>exact h
variable {tg:Tg} {bd:Sv} {fi:Ro->Sto->Out Src}
theorem ZiN (I:Nat->Ro->Sto->Prop): ∀ (xs:List D) (k:Nat) (ρ:Ro) (M:Sto),I k ρ M->(∀ i ρ M (h:i < xs.length),I (k + i) ρ M->wG (tg xs[i] ρ) fun r=>wS (bd r M) (I (k + i + 1)) R N (I (k + i + 1)) E)->(∀ ρ M,I (k + xs.length) ρ M->N ρ M)->wS (Zb1 tg bd xs ρ M) N R B C E
 | [],k,ρ,M,h,_,hn=>hn ρ M h
 |x :: xs,k,ρ,M,h,st,hn=>by
  have s:=st 0 ρ M (by simp) h
  unfold Zb1
  simp only[List.getElem_cons_zero,Nat.add_zero] at s
  cases e:tg x ρ with
  |none=>rw[e] at s;exact s.elim
  |some ρ1=>
   rw[e] at s
   simp only[wG] at s
   have rc: ∀ ρ2 M2,I (k + 1) ρ2 M2->wS (Zb1 tg bd xs ρ2 M2) N R B C E:=fun ρ2 M2 h2=>ZiN I xs (k + 1) ρ2 M2 h2 (fun i ρ M hi hI=>by
    have z:=st (i + 1) ρ M (by simp;omega) (by rw[show k + (i + 1)=k + 1 + i by omega];exact hI)
    simp only[List.getElem_cons_succ] at z
    rw[show k + (i + 1) + 1=k + 1 + i + 1 by omega] at z
    exact z) (fun ρ M hI=>hn ρ M (by rw[show k + (x :: xs).length=k + 1 + xs.length by simp;omega];exact hI))
   cases eg:bd ρ1 M<;>rw[eg] at s<;>simp only[eg]
   ·exact rc _ _ s
   ·exact s
   ·exact s
   ·exact rc _ _ s
   ·exact s
   ·exact s
theorem ZmC:wS (Zb4 tg fs bd ρ M) N R B C E=wO (fs ρ M) (fun ds M1=>w1 ds fun d=>wI d fun j=>(-(2 ^ 62)<=j/\j < 2 ^ 62)/\wS (Zb1 tg bd (ZbC 0 j.toNat) ρ M1) N R B C E) E:=by
 unfold Zb4
 rw[Zaz]
 congr 1
 funext ds M1
 rcases ds with _ | ⟨v,_ | ⟨w,r⟩⟩
 ·rfl
 ·cases v<;>try rfl
  rename_i j
  by_cases h: -(2 ^ 62)<=j/\j < 2 ^ 62
  ·simp only[w1,wI,eq_true h,true_and,if_true]
  ·simp only[w1,wI,eq_false h,false_and,if_false]
   rfl
 ·cases v<;>rfl
theorem Zff (I:Nat->Ro->Sto->Prop) {n:Nat} {lo:Int} (h0:I 0 ρ M) (st: ∀ i ρ M,i < n->I i ρ M->wG (tg (.int (lo + i)) ρ) fun r=>wS (bd r M) (I (i + 1)) R N (I (i + 1)) E) (hn: ∀ ρ M,I n ρ M->N ρ M):wS (Zb1 tg bd (ZbC lo n) ρ M) N R B C E:=by
 have hl:(ZbC lo n).length=n:=by simp[ZbC]
 refine ZiN I _ 0 ρ M h0 (fun i ρ M h hI=> ?_) (fun ρ M hI=>hn ρ M (by rw[hl,Nat.zero_add] at hI;exact hI))
 have:(ZbC lo n)[i]= .int (lo + i):=by simp[ZbC]
 rw[this]
 rw[Nat.zero_add] at *
 exact st i ρ M (by rw[hl] at h;exact h) hI
theorem ZoY:wS (ZkX tg f bd ρ M) N R B C E=wO (f ρ M) (fun d M1=>wS (ZkW tg bd d ρ M1) N R B C E) E:=Zaz
theorem ZmD (I:Nat->Ro->Sto->Prop) {n:Nat} {xs:List D}: ∀ (f i:Nat) (ρ:Ro) (M:Sto),i + f=xs.length->I i ρ M->(∀ i ρ M,I i ρ M->M[n]?=some (.lst xs))->(∀ i ρ M (h:i < xs.length),I i ρ M->wG (tg xs[i] ρ) fun r=>wS (bd r M) (I (i + 1)) R N (I (i + 1)) E)->(∀ ρ M,I xs.length ρ M->N ρ M)->wS (Zhu tg bd n f i ρ M) N R B C E:=by
  intro f
  induction f with
  |zero=>
   intro i ρ M e h hm st hn
   have hx:=hm _ _ _ h
   unfold Zhu
   rw[hx]
   have:xs[i]?=none:=List.getElem?_eq_none (by omega)
   simp only[this]
   exact hn ρ M (by rw[show xs.length=i by omega];exact h)
  |succ f ih=>
   intro i ρ M e h hm st hn
   have hx:=hm _ _ _ h
   unfold Zhu
   rw[hx]
   have hi:i < xs.length:=by omega
   have:xs[i]?=some xs[i]:=List.getElem?_eq_getElem hi
   simp only[this]
   have s:=st i ρ M hi h
   cases e:tg xs[i] ρ with
   |none=>rw[e] at s;exact s.elim
   |some ρ1=>
    rw[e] at s
    simp only[wG] at s
    have rc: ∀ ρ2 M2,I (i + 1) ρ2 M2->wS (Zhu tg bd n f (i + 1) ρ2 M2) N R B C E:=fun ρ2 M2 h2=>ih (i + 1) ρ2 M2 (by omega) h2 hm st hn
    cases eg:bd ρ1 M<;>rw[eg] at s<;>simp only[eg]
    ·exact rc _ _ s
    ·exact s
    ·exact s
    ·exact rc _ _ s
    ·exact s
    ·exact s
theorem ZiO (I:Nat->Ro->Sto->Prop) {n:Nat} {xs:List D} (hM:M[n]?=some (.lst xs)) (h0:I 0 ρ M) (hm: ∀ i ρ M,I i ρ M->M[n]?=some (.lst xs)) (st: ∀ i ρ M (h:i < xs.length),I i ρ M->wG (tg xs[i] ρ) fun r=>wS (bd r M) (I (i + 1)) R N (I (i + 1)) E) (hn: ∀ ρ M,I xs.length ρ M->N ρ M):wS (ZkW tg bd (.ref n) ρ M) N R B C E:=by
 show wS (match M[n]? with | some (.lst xs)=>Zhu tg bd n xs.length 0 ρ M | none=> .bad) N R B C E
 rw[hM]
 exact ZmD I xs.length 0 ρ M (by omega) h0 hm st hn
theorem ZmE:wS (ZdO tg fi bd ρ M) N R B C E=wO (fi ρ M) (fun src M1=>wS (ZgM tg bd src (cnt src M1) 0 ρ M1) N R B C E) E:=Zaz
theorem ZoZ (I:Nat->Ro->Sto->Prop) {src:Src} {xs:List D}: ∀ (f i:Nat) (ρ:Ro) (M:Sto),i<=xs.length->xs.length<=i + f->I i ρ M->(∀ i ρ M,i<=xs.length->I i ρ M->nxt src i M=some xs[i]?)->(∀ i ρ M (h:i < xs.length),I i ρ M->wG (tg xs[i] ρ) fun r=>wS (bd r M) (I (i + 1)) R N (I (i + 1)) E)->(∀ ρ M,I xs.length ρ M->N ρ M)->wS (ZgM tg bd src f i ρ M) N R B C E:=by
  intro f
  induction f with
  |zero=>
   intro i ρ M le e h hm st hn
   have hx:=hm _ _ _ le h
   unfold ZgM
   rw[hx]
   have hi: ¬ i < xs.length:=by omega
   have:xs[i]?=none:=List.getElem?_eq_none (by omega)
   simp only[this]
   exact hn ρ M (by rw[show xs.length=i by omega];exact h)
  |succ f ih=>
   intro i ρ M le e h hm st hn
   have hx:=hm _ _ _ le h
   unfold ZgM
   rw[hx]
   by_cases hi:i < xs.length
   ·have:xs[i]?=some xs[i]:=List.getElem?_eq_getElem hi
    simp only[this]
    have s:=st i ρ M hi h
    cases e:tg xs[i] ρ with
    |none=>rw[e] at s;exact s.elim
    |some ρ1=>
     rw[e] at s
     simp only[wG] at s
     have rc: ∀ ρ2 M2,I (i + 1) ρ2 M2->wS (ZgM tg bd src f (i + 1) ρ2 M2) N R B C E:=fun ρ2 M2 h2=>ih (i + 1) ρ2 M2 (by omega) (by omega) h2 hm st hn
     cases eg:bd ρ1 M<;>rw[eg] at s<;>simp only[eg]
     ·exact rc _ _ s
     ·exact s
     ·exact s
     ·exact rc _ _ s
     ·exact s
     ·exact s
   ·have:xs[i]?=none:=List.getElem?_eq_none (by omega)
    simp only[this]
    exact hn ρ M (by rw[show xs.length=i by omega];exact h)
theorem ZmF {fi:Ro->Sto->Out Src} {k:Nat} {fr:List Nat} {c:Tv}:wO (Zay fi k fr tg c f ρ M) Q E=wO (fi ρ M) (fun src M1=>wO (Zc4 src tg c f M1.length (cnt src M1) 0 (roB k fr ρ) (M1 ++ [.lst []])) (fun _ M2=>Q (.ref M1.length) M2) (fun _ _=>False)) E:=by
 unfold Zay
 rw[ZB]
 congr 1
 funext src M1
 cases Zc4 src tg c f M1.length (cnt src M1) 0 (roB k fr ρ) (M1 ++ [.lst []])<;>rfl
theorem Zk7 (I:Nat->Ro->Sto->Prop) {src:Src} {xs:List D} {c:Tv} {m:Nat} {Q:Sto->Prop}: ∀ (fu i:Nat) (ρ:Ro) (M:Sto),i<=xs.length->xs.length<=i + fu->I i ρ M->(∀ i ρ M,i<=xs.length->I i ρ M->nxt src i M=some xs[i]?)->
  (∀ i ρ M (h:i < xs.length),I i ρ M->wG (tg xs[i] ρ) fun r=>wO (c r M) (fun k M1=>Br k (wO (f r M1) (fun y M2=>wL M2[m]? fun ys=>ys.length < 10000000/\I (i + 1) r (M2.set m (.lst (ys ++ [y])))) (fun _ _=>False)) (I (i + 1) r M1)) (fun _ _=>False))->
  (∀ ρ M,I xs.length ρ M->Q M)->wO (Zc4 src tg c f m fu i ρ M) (fun _ M2=>Q M2) (fun _ _=>False):=by
  intro fu
  induction fu with
  |zero=>
   intro i ρ M le e h hm st hn
   have hx:=hm _ _ _ le h
   unfold Zc4
   rw[hx]
   have hi: ¬ i < xs.length:=by omega
   have:xs[i]?=none:=List.getElem?_eq_none (by omega)
   simp only[this]
   exact hn ρ M (by rw[show xs.length=i by omega];exact h)
  |succ fu ih=>
   intro i ρ M le e h hm st hn
   have hx:=hm _ _ _ le h
   unfold Zc4
   rw[hx]
   by_cases hi:i < xs.length
   ·have:xs[i]?=some xs[i]:=List.getElem?_eq_getElem hi
    simp only[this]
    have s:=st i ρ M hi h
    cases e:tg xs[i] ρ with
    |none=>rw[e] at s;exact s.elim
    |some ρ1=>
     rw[e] at s
     simp only[wG] at s
     have rc: ∀ ρ2 M2,I (i + 1) ρ2 M2->wO (Zc4 src tg c f m fu (i + 1) ρ2 M2) (fun _ M2=>Q M2) (fun _ _=>False):=fun ρ2 M2 h2=>ih (i + 1) ρ2 M2 (by omega) (by omega) h2 hm st hn
     cases ec:c ρ1 M with
     |bad=>rw[ec] at s;exact s.elim
     |exc _ _=>rw[ec] at s;exact s.elim
     |ok k M1=>
      rw[ec] at s
      rw[Zu] at s
      cases k with
      |false=>
       rw[ZsJ] at s
       simp only[ec]
       exact rc _ _ s
      |true=>
       rw[Zq5] at s
       simp only[ec]
       cases ef:f ρ1 M1 with
       |bad=>rw[ef] at s;exact s.elim
       |exc _ _=>rw[ef] at s;exact s.elim
       |ok y M2=>
        rw[ef,Zu] at s
        simp only[ef]
        cases ey:M2[m]? with
        |none=>rw[ey] at s;exact s.elim
        |some o=>
         cases o with
         |lst ys=>
          rw[ey] at s
          simp only[wL,ey] at s ⊢
          rw[if_pos s.1]
          exact rc _ _ s.2
   ·have:xs[i]?=none:=List.getElem?_eq_none (by omega)
    simp only[this]
    exact hn ρ M (by rw[show xs.length=i by omega];exact h)
end
end DL
end
section
namespace DL
open PySem PySem.Spec PyProof.Rows L2
section
variable {Q:D->Sto->Prop} {E:Str->Sto->Prop} {N B C:Ro->Sto->Prop} {R:D->Sto->Prop} {ρ:Ro} {M:Sto} {f:Ev} {fs:Av} {i j:Int} {n m k:Nat} {x y d:D} {xs ys ds:List D} {lo hi:Ro->Sto->Out (Option Int)}
theorem Zfg (h: -(18446744073709551616) < i/\i < 18446744073709551616):ZO i j:=ZiJ h.1 h.2
theorem Zet (h: -(18446744073709551616) < j/\j < 18446744073709551616):ZO i j:=ZiI h.1 h.2
theorem Zfh (h:0 < j/\j < 18446744073709551616):Zbi j:=by
 refine ⟨by omega,?_⟩
 have:j.natAbs.log2 < 64:=(Nat.log2_lt (by omega)).mpr (by omega)
 omega
theorem Zq7:wO (dAdd (.int i) (.int j) M) Q E=Q (.int (i + j)) M:=rfl
theorem Zq8:wO (dSub (.int i) (.int j) M) Q E=Q (.int (i - j)) M:=rfl
theorem ZbJ (h:ZO i j):wO (dMul (.int i) (.int j) M) Q E=Q (.int (i * j)) M:=by
 show wO (if ZO i j then _ else _) Q E=_
 rw[if_pos h];rfl
theorem Zq9 (h: -(18446744073709551616) < i/\i < 18446744073709551616):wO (dMul (.int i) (.int j) M) Q E=Q (.int (i * j)) M:=ZbJ (Zfg h)
theorem Zo0 (h: -(18446744073709551616) < j/\j < 18446744073709551616):wO (dMul (.int i) (.int j) M) Q E=Q (.int (i * j)) M:=ZbJ (Zet h)
theorem Zra (h:0 < j/\j < 18446744073709551616):wO (dDiv (.int i) (.int j) M) Q E=Q (.int (i / j)) M:=by
 show wO (if Zbi j then _ else _) Q E=_
 rw[if_pos (Zfh h),Int.fdiv_eq_ediv_of_nonneg _ (by omega)];rfl
theorem Zrb (h:0 < j):wO (dMod (.int i) (.int j) M) Q E=Q (.int (i % j)) M:=by
 show wO (if j≠0 then _ else _) Q E=_
 rw[if_pos (by omega),Int.fmod_eq_emod_of_nonneg _ (by omega)];rfl
theorem Zrc (h:0<=j/\j<=1000000/\i.natAbs < 18446744073709551616):wO (dPow (.int i) (.int j) M) Q E=Q (.int (i ^ j.toNat)) M:=by
 show wO (if 0<=j/\j<=1000000/\i.natAbs < 2 ^ 64 then _ else _) Q E=_
 rw[if_pos ⟨h.1,h.2.1,by omega⟩];rfl
theorem Zt6:wO (dLt (.int i) (.int j) M) Q E=Q (.bl (decide (i < j))) M:=rfl
theorem Zt7:wO (dLe (.int i) (.int j) M) Q E=Q (.bl (decide (i<=j))) M:=rfl
theorem Zt8:wO (dGt (.int i) (.int j) M) Q E=Q (.bl (decide (j < i))) M:=rfl
theorem Zt9:wO (dGe (.int i) (.int j) M) Q E=Q (.bl (decide (j<=i))) M:=rfl
theorem Zrd:wO (dAdd (.ref n) (.ref m) M) Q E=wL M[n]? fun xs=>wL M[m]? fun ys=>xs.length + ys.length<=10000000/\Q (.ref M.length) (M ++ [.lst (xs ++ ys)]):=by
 show wO (match M[n]?,M[m]? with | some (.lst xs),some (.lst ys)=>_ | _,_=>_) Q E=_
 cases e1:M[n]? with
 |none=>rfl
 |some o=>
  cases o with
  |lst xs=>
   cases e2:M[m]? with
   |none=>rfl
   |some p=>
    cases p with
    |lst ys=>
     by_cases h:xs.length + ys.length<=10000000
     ·simp[wL,h,wO]
     ·simp[wL,h,wO]
theorem Zo1 (h:xs.length + ys.length<=100000/\xs≠[]):wO (dAdd (.tup xs) (.tup ys) M) Q E=Q (.tup (xs ++ ys)) M:=by
 show wO (if xs.length + ys.length<=100000/\xs≠[] then _ else _) Q E=_
 rw[if_pos h];rfl
theorem Zua:wO (dEq x y M) Q E=wG (eqF 12 M x y) fun b=>Q (.bl b) M:=by
 show wO (match eqF 12 M x y with | some b=>_ | none=>_) Q E=_
 cases eqF 12 M x y<;>rfl
theorem Zub:wO (dNe x y M) Q E=wG (eqF 12 M x y) fun b=>Q (.bl (!b)) M:=by
 show wO (match eqF 12 M x y with | some b=>_ | none=>_) Q E=_
 cases eqF 12 M x y<;>rfl
theorem Zuc:wO (dIs x y M) Q E=wG (isP x y) fun b=>Q (.bl b) M:=by
 show wO (match isP x y with | some b=>_ | none=>_) Q E=_
 cases isP x y<;>rfl
theorem Zre:wO (dIsNot x y M) Q E=wG (isP x y) fun b=>Q (.bl (!b)) M:=by
 show wO (match isP x y with | some b=>_ | none=>_) Q E=_
 cases isP x y<;>rfl
theorem ZmG:wO (atD xs i M) Q E=wG (atI xs i) fun d=>Q d M:=by
 unfold atD
 cases atI xs i<;>rfl
theorem Zrf:wO (dIx (.tup xs) (.int i) M) Q E=wG (atI xs i) fun d=>Q d M:=ZmG
theorem Zrg:wO (dIx (.rol xs) (.int i) M) Q E=wG (atI xs i) fun d=>Q d M:=ZmG
theorem Zrh:wO (dIx (.ref n) (.int i) M) Q E=wL M[n]? fun xs=>wG (atI xs i) fun d=>Q d M:=by
 show wO (match M[n]? with | some (.lst xs)=>atD xs i M | _=> .bad) Q E=_
 cases e1:M[n]? with
 |none=>rfl
 |some o=>cases o with | lst xs=>exact ZmG
theorem Zo2:wO (bLen [.ref n] M) Q E=wL M[n]? fun xs=>Q (.int xs.length) M:=by
 show wO (match (match M[n]? with | some (.lst xs)=>some xs | _=>none) with | some xs=>_ | none=>_) Q E=_
 cases e1:M[n]? with
 |none=>rfl
 |some o=>cases o with | lst xs=>rfl
theorem Zo3:wO (bLen [.tup xs] M) Q E=Q (.int xs.length) M:=rfl
theorem Zo4:wO (bLen [.rol xs] M) Q E=Q (.int xs.length) M:=rfl
theorem Zri:wO (bAbs [.int i] M) Q E=Q (.int (i.natAbs:Int)) M:=by rw[<- ZiK];rfl
theorem Zrj:wO (bMax [.int i,.int j] M) Q E=Q (.int (max i j)) M:=by
 have:max i j=if j > i then j else i:=by split<;>omega
 rw[this];rfl
theorem Zrk:wO (bMin [.int i,.int j] M) Q E=Q (.int (min i j)) M:=by
 have:min i j=if j < i then j else i:=by split<;>omega
 rw[this];rfl
theorem Zo5 {k:Bool}:wO (bInt [.bl k] M) Q E=Q (.int (if k then 1 else 0)) M:=rfl
theorem Zo6:wO (bInt [.int i] M) Q E=Q (.int i) M:=rfl
theorem ZmH:wO (bList [.ref n] M) Q E=wL M[n]? fun xs=>Q (.ref M.length) (M ++ [.lst xs]):=by
 show wO (match (match M[n]? with | some (.lst xs)=>some xs | _=>none) with | some xs=>_ | none=>_) Q E=_
 cases e1:M[n]? with
 |none=>rfl
 |some o=>cases o with | lst xs=>rfl
theorem ZmI:wO (bList [.tup xs] M) Q E=Q (.ref M.length) (M ++ [.lst xs]):=rfl
theorem Zrl:wO (ZsF [.ref n] M) Q E=wL M[n]? fun xs=>wG (Zab xs) fun bs=>Q (.bl (bs.all id)) M:=by
 show wO (match M[n]? with | some (.lst xs)=>(match Zab xs with | some bs=>Out.ok (.bl (bs.all id)) M | none=> .bad) | none=> .bad) Q E=_
 cases e1:M[n]? with
 |none=>rfl
 |some o=>
  cases o with
  |lst xs=>
   show wO (match Zab xs with | some bs=>Out.ok (.bl (bs.all id)) M | none=> .bad) Q E=wG (Zab xs) _
   cases Zab xs<;>rfl
theorem Zo7 {g:List Int->Option Int}:wO (ZcH g [.ref n] M) Q E=wL M[n]? fun xs=>wG (Zb2 xs) fun ns=>wG (g ns) fun i=>Q (.int i) M:=by
 show wO (match (match M[n]? with | some (.lst xs)=>some xs | _=>none) with | some xs=>(match Zb2 xs with | some ns=>(match g ns with | some i=>Out.ok (.int i) M | none=> .bad) | none=> .bad) | none=> .bad) Q E=_
 cases e1:M[n]? with
 |none=>rfl
 |some o=>
  cases o with
  |lst xs=>
   show wO (match Zb2 xs with | some ns=>(match g ns with | some i=>Out.ok (.int i) M | none=> .bad) | none=> .bad) Q E=wG (Zb2 xs) _
   cases Zb2 xs with
   |none=>rfl
   |some ns=>
    show wO (match g ns with | some i=>Out.ok (.int i) M | none=> .bad) Q E=wG (g ns) _
    cases g ns<;>rfl
theorem Zud {g:Me} {fo:Ev}:wO (Zjm g fo fs ρ M) Q E=wO (fo ρ M) (fun x M1=>Zmg x M1=true/\wO (fs ρ M1) (fun ds M2=>wO (g x ds M2) Q E) E) E:=by
 unfold Zjm
 rw[ZB]
 congr 1
 funext x M1
 by_cases h:Zmg x M1=true
 ·simp only[h,if_true,true_and];rw[ZB]
 ·simp[h,wO]
theorem Zo8:Zmg (.ref n) M=M[n]?.isSome:=rfl
theorem Zrm:wO (mApp (.ref n) [d] M) Q E=wL M[n]? fun xs=>xs.length < 10000000/\Q .non (M.set n (.lst (xs ++ [d]))):=by
 show wO (match M[n]? with | some (.lst xs)=>if xs.length < 10000000 then _ else _ | none=>_) Q E=_
 cases e1:M[n]? with
 |none=>rfl
 |some o=>
  cases o with
  |lst xs=>
   by_cases h:xs.length < 10000000
   ·simp[wL,h,wO]
   ·simp[wL,h,wO]
theorem Zrn:wO (ZsH (.ref n) [] M) Q E=wL M[n]? fun xs=>Q .non (M.set n (.lst [])):=by
 show wO (match M[n]? with | some (.lst xs)=>_ | none=>_) Q E=_
 cases e1:M[n]? with
 |none=>rfl
 |some o=>cases o with | lst xs=>rfl
theorem Zro:wO (mExt (.ref n) [.ref m] M) Q E=wL M[n]? fun xs=>wL M[m]? fun ys=>xs.length + ys.length<=10000000/\Q .non (M.set n (.lst (xs ++ ys))):=by
 show wO (match M[n]?,M[m]? with | some (.lst xs),some (.lst ys)=>if xs.length + ys.length<=10000000 then _ else _ | _,_=>_) Q E=_
 cases e1:M[n]? with
 |none=>rfl
 |some o=>
  cases o with
  |lst xs=>
   cases e2:M[m]? with
   |none=>rfl
   |some p=>
    cases p with
    |lst ys=>
     by_cases h:xs.length + ys.length<=10000000
     ·simp[wL,h,wO]
     ·simp[wL,h,wO]
noncomputable def slR (x:D) (l u:Option Int) (M3:Sto):Out D:=match x with
 | .ref n=>(match M3[n]? with | some (.lst xs)=> .ok (.ref M3.length) (M3 ++ [.lst (ZfU xs l u)]) | none=> .bad)
 | .rol xs=> .ok (.ref M3.length) (M3 ++ [.lst (ZfU xs l u)])
 | .tup xs=>if HT.sIx xs.length 0 l=0/\HT.sIx xs.length xs.length u=xs.length then .bad else .ok (.tup (ZfU xs l u)) M3
 |_=> .bad
theorem Zrp:wO (eSl f lo hi ρ M) Q E=wO (f ρ M) (fun x M1=>wO (lo ρ M1) (fun l M2=>wO (hi ρ M2) (fun u M3=>wO (slR x l u M3) Q E) E) E) E:=by
 unfold eSl
 rw[ZB]
 congr 1
 funext x M1
 rw[ZB]
 congr 1
 funext l M2
 rw[ZB]
 congr 1
theorem Zrq {l u:Option Int}:wO (slR (.ref n) l u M) Q E=wL M[n]? fun xs=>Q (.ref M.length) (M ++ [.lst (ZfU xs l u)]):=by
 unfold slR
 cases e1:M[n]? with
 |none=>simp only[e1];rfl
 |some o=>cases o with | lst xs=>simp only[e1];rfl
theorem Zrr {Q:Option Int->Sto->Prop}:wO (oSo f ρ M) Q E=wO (f ρ M) (fun x M1=>wI x fun i=>Q (some i) M1) E:=by
 unfold oSo
 rw[ZB]
 congr 1
 funext x M1
 cases x<;>rfl
theorem Zo9 (h:0<=i):ZfU xs none (some i)=xs.take i.toNat:=by
 unfold ZfU
 simp only[HT.sIx]
 rw[if_neg (by omega),List.drop_zero,Nat.sub_zero]
 by_cases c:i.toNat<=xs.length
 ·rw[Nat.min_eq_left c]
 ·rw[Nat.min_eq_right (by omega),List.take_of_length_le (Nat.le_refl _),List.take_of_length_le (by omega)]
theorem Zkk (h:0<=i):ZfU xs (some i) none=xs.drop i.toNat:=by
 unfold ZfU
 simp only[HT.sIx]
 rw[if_neg (by omega)]
 by_cases c:i.toNat<=xs.length
 ·rw[Nat.min_eq_left c,List.take_of_length_le (by simp)]
 ·rw[Nat.min_eq_right (by omega),List.drop_eq_nil_of_le (Nat.le_refl _),List.drop_eq_nil_of_le (by omega),List.take_nil]
theorem Zdx {L:Sto}:(M ++ L)[M.length]?=L[0]?:=by rw[List.getElem?_append_right (Nat.le_refl _),Nat.sub_self]
theorem Zk8 {L:Sto} {i:Nat}:(M ++ L)[M.length + i]?=L[i]?:=by rw[List.getElem?_append_right (by omega)];congr 1;omega
theorem Zbk {L:Sto} (h:n < M.length):(M ++ L)[n]?=M[n]?:=List.getElem?_append_left h
theorem Zk9 {L:Sto} {o:SO}:(M ++ L).set M.length o=M ++ L.set 0 o:=by rw[List.set_append_right _ _ (Nat.le_refl _),Nat.sub_self]
theorem Zrs {L:Sto} {o:SO} {i:Nat}:(M ++ L).set (M.length + i) o=M ++ L.set i o:=by rw[List.set_append_right _ _ (by omega)];congr 2;omega
theorem Zpa {o:SO} (h:k≠n):(M.set n o)[k]?=M[k]?:=List.getElem?_set_ne (Ne.symm h)
theorem Zpb {o:SO} (h:n < M.length):(M.set n o)[n]?=some o:=List.getElem?_set_self h
theorem ZM {o:SO} (h:M[n]?=some o):n < M.length:=(List.getElem?_eq_some_iff.mp h).1
noncomputable abbrev pr (x y:Int):D:= .tup [.int x,.int y]
noncomputable def prs (rs:List (Int × Int)):List D:=rs.map fun p=>pr p.1 p.2
noncomputable def nts (ns:List Int):List D:=ns.map D.int
theorem Zad {rs:List (Int × Int)}:(prs rs).length=rs.length:=List.length_map _
theorem Zdy {rs:List Int}:(nts rs).length=rs.length:=List.length_map _
theorem ZmJ {a b:List (Int × Int)}:prs a ++ prs b=prs (a ++ b):=(List.map_append).symm
theorem ZmK {a b:List Int}:nts a ++ nts b=nts (a ++ b):=(List.map_append).symm
theorem Zkl {a:List (Int × Int)}:(prs a).take n=prs (a.take n):=List.map_take.symm
theorem Zkm {a:List (Int × Int)}:(prs a).drop n=prs (a.drop n):=List.map_drop.symm
theorem Zkn {a:List Int}:(nts a).take n=nts (a.take n):=List.map_take.symm
theorem Zko {a:List Int}:(nts a).drop n=nts (a.drop n):=List.map_drop.symm
theorem Zkp {a b:Int} {r:List (Int × Int)}:pr a b :: prs r=prs ((a,b) :: r):=rfl
theorem ZmL {a:List (Int × Int)} {b c:Int}:(prs a).set n (pr b c)=prs (a.set n (b,c)):=by unfold prs;rw[List.map_set]
theorem ZmM {a:List Int} {b:Int}:(nts a).set n (.int b)=nts (a.set n b):=by unfold nts;rw[List.map_set]
noncomputable def cy (rs:List (Int × Int)) (i:Int):Int × Int:=rs.getD (i % rs.length).toNat (0,0)
noncomputable def cn (rs:List Int) (i:Int):Int:=rs.getD (i % rs.length).toNat 0
theorem ZiP {i:Int} {n:Nat} (h: -(n:Int)<=i/\i < n):ixN n i=some (i % n).toNat:=by
 unfold ixN
 by_cases c:0<=i
 ·rw[if_pos c,if_pos h.2,Int.emod_eq_of_lt c h.2]
 ·rw[if_neg c,if_pos h.1]
  have:i % n=i + n:=by
   rw[<- Int.add_emod_right,Int.emod_eq_of_lt (by omega) (by omega)]
  rw[this]
theorem ZgS {rs:List (Int × Int)} (h: -(rs.length:Int)<=i/\i < rs.length):atI (prs rs) i=some (pr (cy rs i).1 (cy rs i).2):=by
 unfold atI
 rw[Zad,ZiP h]
 have hp:(i % rs.length).toNat < rs.length:=by
  have:=Int.emod_lt_of_pos i (show (0:Int) < rs.length by omega)
  have:=Int.emod_nonneg i (show (rs.length:Int)≠0 by omega)
  omega
 simp[prs,cy,List.getElem?_eq_getElem hp]
theorem Zla {rs:List Int} (h: -(rs.length:Int)<=i/\i < rs.length):atI (nts rs) i=some (.int (cn rs i)):=by
 unfold atI
 rw[Zdy,ZiP h]
 have hp:(i % rs.length).toNat < rs.length:=by
  have:=Int.emod_lt_of_pos i (show (0:Int) < rs.length by omega)
  have:=Int.emod_nonneg i (show (rs.length:Int)≠0 by omega)
  omega
 simp[nts,cn,List.getElem?_eq_getElem hp]
theorem Zd3 {rs:List (Int × Int)}:cy rs (i % rs.length)=cy rs i:=by unfold cy;rw[Int.emod_emod_of_dvd _ (Int.dvd_refl _)]
theorem Zpc {rs:List Int}:cn rs (i % rs.length)=cn rs i:=by unfold cn;rw[Int.emod_emod_of_dvd _ (Int.dvd_refl _)]
theorem Zpd {rs:List (Int × Int)}:cy rs (i + rs.length)=cy rs i:=by unfold cy;rw[Int.add_emod_right]
theorem Zfi {rs:List (Int × Int)}:cy rs (i - rs.length)=cy rs i:=by unfold cy;rw[Int.sub_emod_right]
theorem Zfj {rs:List (Int × Int)} {k:Nat} (h:k < rs.length):cy rs k=rs[k]:=by
 unfold cy
 rw[Int.emod_eq_of_lt (by omega) (by omega)]
 simp[List.getElem?_eq_getElem h]
theorem Zlb {rs:List Int} {k:Nat} (h:k < rs.length):cn rs k=rs[k]:=by
 unfold cn
 rw[Int.emod_eq_of_lt (by omega) (by omega)]
 simp[List.getElem?_eq_getElem h]
theorem Zrt {a b:Int}:eqF (n + 1) M (.int a) (.int b)=some (decide (a=b)):=rfl
theorem Zue {a b:Bool}:eqF (n + 1) M (.bl a) (.bl b)=some (a == b):=rfl
theorem Zuf {a b c d:Int}:eqF (n + 2) M (pr a b) (pr c d)=some (decide ((a,b)=(c,d))):=by
 show some ((a == c) && ((b == d) && true))=_
 congr 1
 rw[Bool.eq_iff_iff]
 simp
theorem Zru {xs ys:List D} (h1:M[n]?=some (.lst xs)) (h2:M[m]?=some (.lst ys)):eqF (k + 1) M (.ref n) (.ref m)=if xs.length=ys.length then eqL (eqF k M) xs ys else some false:=by
 show (match kd M (.ref n),kd M (.ref m) with | some a,some b=>eqK (eqF k M) a b | _,_=>none)=_
 have e1:kd M (.ref n)=some (.lst xs):=by show (match M[n]? with | some (.lst xs)=>some (Kd.lst xs) | _=>none)=_;rw[h1]
 have e2:kd M (.ref m)=some (.lst ys):=by show (match M[m]? with | some (.lst xs)=>some (Kd.lst xs) | _=>none)=_;rw[h2]
 rw[e1,e2]
 rfl
theorem Zpe:ZbA M (.int i)=some "int":=rfl
theorem Zrv {b:Bool}:ZbA M (.bl b)=some "bool":=rfl
theorem Zpf:ZbA M (.tup xs)=some "tuple":=rfl
theorem Zpg:ZbA M .non=some "NoneType":=rfl
end
end DL
end
section
namespace DL
open PySem PySem.Spec PyProof.Rows L2
section
variable {Q:D->Sto->Prop} {E:Str->Sto->Prop} {N B C:Ro->Sto->Prop} {R:D->Sto->Prop} {ρ:Ro} {M:Sto} {f:Ev} {fs:Av} {i j:Int} {n m k:Nat} {x y z d:D} {xs ys ds:List D} {QS:Src->Sto->Prop} {tg:Tg} {bd:Sv} {b:Bool}
theorem ZmN:wS (Ze1 tg fs bd ρ M) N R B C E=wO (fs ρ M) (fun ds M1=>w2 ds fun x y=>wI x fun i=>wI y fun j=>(-(2 ^ 62)<=i/\i < 2 ^ 62/\ -(2 ^ 62)<=j/\j < 2 ^ 62)/\wS (Zb1 tg bd (ZbC i (j - i).toNat) ρ M1) N R B C E) E:=by
 unfold Ze1
 rw[Zaz]
 congr 1
 funext ds M1
 rcases ds with _ | ⟨v,_ | ⟨w,_ | ⟨w',r⟩⟩⟩
 ·rfl
 ·cases v<;>rfl
 ·cases v<;>try rfl
  cases w<;>try rfl
  rename_i i j
  by_cases h: -(2 ^ 62)<=i/\i < 2 ^ 62/\ -(2 ^ 62)<=j/\j < 2 ^ 62
  ·simp only[w2,wI,eq_true h,true_and,if_true]
  ·simp only[w2,wI,eq_false h,false_and,if_false]
   rfl
 ·cases v<;>cases w<;>rfl
theorem Zug:wO (iR1 fs ρ M) QS E=wO (fs ρ M) (fun ds M1=>w1 ds fun d=>wI d fun j=>(-(2 ^ 62)<=j/\j < 2 ^ 62)/\QS (.pur (ZbC 0 j.toNat)) M1) E:=by
 unfold iR1
 rw[ZB]
 congr 1
 funext ds M1
 rcases ds with _ | ⟨v,_ | ⟨w,r⟩⟩
 ·rfl
 ·cases v<;>try rfl
  rename_i j
  by_cases h: -(2 ^ 62)<=j/\j < 2 ^ 62
  ·simp only[w1,wI,eq_true h,true_and,if_true,Zu]
  ·simp only[w1,wI,eq_false h,false_and,if_false]
   rfl
 ·cases v<;>rfl
theorem Zuh:wO (iR2 fs ρ M) QS E=wO (fs ρ M) (fun ds M1=>w2 ds fun x y=>wI x fun i=>wI y fun j=>(-(2 ^ 62)<=i/\i < 2 ^ 62/\ -(2 ^ 62)<=j/\j < 2 ^ 62)/\QS (.pur (ZbC i (j - i).toNat)) M1) E:=by
 unfold iR2
 rw[ZB]
 congr 1
 funext ds M1
 rcases ds with _ | ⟨v,_ | ⟨w,_ | ⟨w',r⟩⟩⟩
 ·rfl
 ·cases v<;>rfl
 ·cases v<;>try rfl
  cases w<;>try rfl
  rename_i i j
  by_cases h: -(2 ^ 62)<=i/\i < 2 ^ 62/\ -(2 ^ 62)<=j/\j < 2 ^ 62
  ·simp only[w2,wI,eq_true h,true_and,if_true,Zu]
  ·simp only[w2,wI,eq_false h,false_and,if_false]
   rfl
 ·cases v<;>cases w<;>rfl
theorem Zui:wO (iEn fs ρ M) QS E=wO (fs ρ M) (fun ds M1=>w1 ds fun d=>wR d fun n=>QS (.enu n) M1) E:=by
 unfold iEn
 rw[ZB]
 congr 1
 funext ds M1
 rcases ds with _ | ⟨v,_ | ⟨w,r⟩⟩<;>try rfl
 ·cases v<;>rfl
 ·cases v<;>rfl
theorem Zuj:wO (iZp fs ρ M) QS E=wO (fs ρ M) (fun ds M1=>w2 ds fun x y=>wR x fun n=>wR y fun m=>QS (.zip n m) M1) E:=by
 unfold iZp
 rw[ZB]
 congr 1
 funext ds M1
 rcases ds with _ | ⟨v,_ | ⟨w,_ | ⟨w',r⟩⟩⟩<;>try rfl
 ·cases v<;>rfl
 ·cases v<;>cases w<;>rfl
 ·cases v<;>cases w<;>rfl
theorem Zuk:wO (iRv fs ρ M) QS E=wO (fs ρ M) (fun ds M1=>w1 ds fun d=>wR d fun n=>wL M1[n]? fun xs=>QS (.rev n xs.length) M1) E:=by
 unfold iRv
 rw[ZB]
 congr 1
 funext ds M1
 rcases ds with _ | ⟨v,_ | ⟨w,r⟩⟩<;>try rfl
 ·cases v<;>try rfl
  rename_i n
  cases e:M1[n]? with
  |none=>simp only[e];simp only[w1,wR,e];rfl
  |some o=>cases o with | lst xs=>simp only[e,w1,wR];rfl
 ·cases v<;>rfl
noncomputable def Zph (Q:D->Sto->Prop) (ρ:Ro) (M:Sto):Prop:=Q .non M
theorem wF1:wO (fnF bd 1 k [x] M) Q E=wS (bd (some x :: List.replicate k none) M) (Zph Q) Q (fun _ _=>False) (fun _ _=>False) E:=wF rfl
theorem wF2:wO (fnF bd 2 k [x,y] M) Q E=wS (bd (some x :: some y :: List.replicate k none) M) (Zph Q) Q (fun _ _=>False) (fun _ _=>False) E:=wF rfl
theorem wF3:wO (fnF bd 3 k [x,y,z] M) Q E=wS (bd (some x :: some y :: some z :: List.replicate k none) M) (Zph Q) Q (fun _ _=>False) (fun _ _=>False) E:=wF rfl
theorem wF4:wO (fnF bd 4 k [x,y,z,d] M) Q E=wS (bd (some x :: some y :: some z :: some d :: List.replicate k none) M) (Zph Q) Q (fun _ _=>False) (fun _ _=>False) E:=wF rfl
theorem Zkq {a:List (Int × Int)} {b c:Int}:prs a ++ [pr b c]=prs (a ++ [(b,c)]):=by simp[prs]
theorem Zkr {a:List Int} {b:Int}:nts a ++ [D.int b]=nts (a ++ [b]):=by simp[nts]
theorem Zks {b:Int} {r:List Int}:D.int b :: nts r=nts (b :: r):=rfl
theorem Zrw:isP .non .non=some true:=rfl
theorem Zrx:isP (.int i) .non=some false:=rfl
theorem Zry:isP (.tup xs) .non=some false:=rfl
theorem Zrz:isP (.ref n) .non=some false:=rfl
theorem ZmO (h:M[n]?=some (.lst xs)):cnt (.sto n) M=xs.length:=by show (match M[n]? with | some (.lst xs)=>xs.length | none=>0)=_;rw[h]
theorem ZmP (h:M[n]?=some (.lst xs)):cnt (.enu n) M=xs.length:=by show (match M[n]? with | some (.lst xs)=>xs.length | none=>0)=_;rw[h]
theorem ZmQ (h:M[n]?=some (.lst xs)):cnt (.zip n m) M=xs.length:=by show (match M[n]? with | some (.lst xs)=>xs.length | none=>0)=_;rw[h]
theorem at2 {r:List D}:atI (x :: y :: z :: r) 2=some z:=by
 show (ixN (r.length + 3) 2).bind _=_
 unfold ixN
 rw[if_pos (by decide),if_pos (by omega)]
 rfl
theorem at3 {r:List D}:atI (x :: y :: z :: d :: r) 3=some d:=by
 show (ixN (r.length + 4) 3).bind _=_
 unfold ixN
 rw[if_pos (by decide),if_pos (by omega)]
 rfl
theorem Zpi:Zdc "int" "int"=true:=rfl
theorem Zpj:Zdc "int" "bool"=false:=rfl
theorem Zpk:Zdc "bool" "int"=true:=rfl
theorem Zpl:Zdc "bool" "bool"=true:=rfl
theorem Zpm:Zdc "tuple" "tuple"=true:=rfl
theorem Zpn:Zdc "list" "list"=true:=rfl
theorem Zpo:Zdc "tuple" "int"=false:=rfl
theorem Zpp:Zdc "tuple" "list"=false:=rfl
theorem Zpq:Zdc "list" "tuple"=false:=rfl
theorem Zpr:Zdc "list" "int"=false:=rfl
theorem Zps:Zdc "NoneType" "tuple"=false:=rfl
theorem Zpt:Zdc "NoneType" "list"=false:=rfl
theorem Zpu (h:M[n]?=some (.lst xs)):nxt (.enu n) k M=some ((xs[k]?).map fun d=>D.tup [.int k,d]):=by
 show (match M[n]? with | some (.lst xs)=>(match xs[k]? with | some x=>some (some (D.tup [.int k,x])) | none=>some none) | none=>none)=_
 rw[h]
 simp only[]
 cases xs[k]?<;>rfl
theorem Zpv (h:M[n]?=some (.lst xs)):nxt (.sto n) k M=some xs[k]?:=by
 show (match M[n]? with | some (.lst xs)=>some xs[k]? | none=>none)=_
 rw[h]
section
variable {g:Jv} {bb:Nat}
theorem Zlc (h:bb<=100000): ∀ acc:Str,acc.length<=bb->wO (jNil acc ρ M) (fun _ M'=>M'=M) E:=by
 intro acc ha
 unfold jNil
 rw[if_pos (by omega)]
 exact rfl
theorem Zpw {a:Str} (hl:a.length<=1000) (hb:bb + 1000<=100000) (h: ∀ acc:Str,acc.length<=bb + 1000->wO (g acc ρ M) (fun _ M'=>M'=M) E): ∀ acc:Str,acc.length<=bb->wO (Zb9 (eC (.str a)) g acc ρ M) (fun _ M'=>M'=M) E:=by
 intro acc ha
 have e:(acc ++ a).length<=bb + 1000:=by rw[strLen_append];omega
 show wO (if (acc ++ a).length<=100000 then g (acc ++ a) ρ M else .bad) _ _
 rw[if_pos (by omega)]
 exact h _ e
theorem ZrA {f:Ev} {i:Int} (hf:f ρ M= .ok (.int i) M) (hi: -(18446744073709551616) < i/\i < 18446744073709551616) (hb:bb + 100<=100000) (h: ∀ acc:Str,acc.length<=bb + 100->wO (g acc ρ M) (fun _ M'=>M'=M) E): ∀ acc:Str,acc.length<=bb->wO (Zb9 (eFm f) g acc ρ M) (fun _ M'=>M'=M) E:=by
 intro acc ha
 have l:i.natAbs.log2 < 65:=by
  by_cases z:i.natAbs=0
  ·rw[z];decide
  ·exact (Nat.log2_lt z).mpr (by omega)
 have tl:(Str.ofString (toString i)).length<=66:=by rw[PySem.ofString_length];exact int_text_length_le (by decide) l
 have e:(acc ++ Str.ofString (toString i)).length<=bb + 100:=by rw[strLen_append];omega
 unfold Zb9 eFm
 rw[hf]
 simp only[Out.bind]
 rw[if_pos (by omega)]
 simp only[]
 rw[if_pos (by omega)]
 exact h _ e
theorem ZsK (h: ∀ acc:Str,acc.length<=0->wO (g acc ρ M) (fun _ M'=>M'=M) E) (q: ∀ x,Q (.str x) M):wO (eFs g ρ M) Q E:=by
 unfold eFs
 rw[ZB]
 refine Zes (h _ (by decide)) (fun x M' e=> ?_) (fun _ _ z=>z)
 subst e
 exact q x
end
theorem ZiQ (I:Nat->Ro->Sto->Prop) (hM:M[n]?=some (.lst xs)) (h0:I 0 ρ M) (hm: ∀ i ρ M,I i ρ M->M[n]?=some (.lst xs)) (st: ∀ (i:Nat) ρ M (h:i < xs.length),I i ρ M->wG (tg (.tup [.int i,xs[i]]) ρ) fun r=>wS (bd r M) (I (i + 1)) R N (I (i + 1)) E) (hn: ∀ ρ M,I xs.length ρ M->N ρ M):wS (ZgM tg bd (.enu n) (cnt (.enu n) M) 0 ρ M) N R B C E:=by
 rw[ZmP hM]
 have hl:(xs.mapIdx fun (k:Nat) d=>D.tup [.int k,d]).length=xs.length:=by simp
 refine ZoZ I (xs:=xs.mapIdx fun (k:Nat) d=>D.tup [.int k,d]) _ 0 ρ M (by simp) (by simp) h0 (fun i ρ M _ hI=> ?_) (fun i ρ M h hI=> ?_) (fun ρ M hI=>hn ρ M (by rw[hl] at hI;exact hI))
 ·rw[Zpu (hm _ _ _ hI),List.getElem?_mapIdx]
 ·rw[List.getElem_mapIdx]
  exact st i ρ M (by rw[hl] at h;exact h) hI
theorem Zpx (h:M[n]?=some (.lst xs)) (h':M[m]?=some (.lst ys)):nxt (.zip n m) k M=some ((List.zipWith (fun a b=>D.tup [a,b]) xs ys)[k]?):=by
 show (match M[n]?,M[m]? with | some (.lst xs),some (.lst ys)=>(match xs[k]?,ys[k]? with | some x,some y=>some (some (D.tup [x,y])) | _,_=>some none) | _,_=>none)=_
 rw[h,h',List.getElem?_zipWith]
 simp only[]
 cases xs[k]?<;>cases ys[k]?<;>rfl
theorem ZmR {src:Src} (Inv:Ro->Prop) (F:Nat->D) {Q:Sto->Prop} (hl:xs.length < 10000000) (hcnt:xs.length<=cnt src M) (h0:Inv ρ) (hs: ∀ (L:Sto) (i:Nat),i<=xs.length->nxt src i (M ++ L)=some xs[i]?)
  (st: ∀ (i:Nat) (h:i < xs.length) (ρ:Ro) (L:Sto),Inv ρ->wG (tg xs[i] ρ) fun r=>Inv r/\wO (f r (M ++ L)) (fun y M2=>y=F i/\M2=M ++ L) (fun _ _=>False)) (hq:Q (M ++ [.lst ((List.range xs.length).map F)])):
  wO (Zc4 src tg (fun _ M=> .ok true M) f M.length (cnt src M) 0 ρ (M ++ [.lst []])) (fun _ M2=>Q M2) (fun _ _=>False):=by
 refine Zk7 (fun i ρ M'=>Inv ρ/\M'=M ++ [.lst ((List.range i).map F)]) (xs:=xs) _ 0 ρ _ (by simp) (by omega) ⟨h0,rfl⟩ (fun i ρ M' hi hI=>by rw[hI.2];exact hs _ i hi) (fun i ρ M' h hI=> ?_) (fun ρ M' hI=>by rw[hI.2];exact hq)
 obtain ⟨hI,rfl⟩:=hI
 have s:=st i h ρ [.lst ((List.range i).map F)] hI
 cases e:tg xs[i] ρ with
 |none=>rw[e] at s;exact s.elim
 |some r=>
  rw[e] at s
  obtain ⟨hr,s⟩:=s
  show Br true _ _
  rw[Zq5]
  refine Zes s (fun y M2 ⟨h1,h2⟩=> ?_) (fun _ _ z=>z)
  subst h1 h2
  rw[Zdx]
  refine ⟨by simp;omega,hr,?_⟩
  rw[Zk9,List.range_succ,List.map_append]
  rfl
theorem Zf0 {lo:Int}:(ZbC lo n).length=n:=by simp[ZbC]
theorem ZmS {lo:Int} (h:k < (ZbC lo n).length):(ZbC lo n)[k]= .int (lo + k):=by simp[ZbC]
theorem ZiR {F:Nat->Int}:(List.range n).map (fun i=>D.int (F i))=nts ((List.range n).map F):=by simp[nts]
end
end DL
end
section
namespace DL
open PySem PySem.Spec PyProof.Rows L2
section
variable {Q:D->Sto->Prop} {E:Str->Sto->Prop} {N B C:Ro->Sto->Prop} {R:D->Sto->Prop} {ρ:Ro} {M:Sto} {f g:Ev} {fs:Av} {i j:Int} {n m k:Nat} {x y z d:D} {xs ys ds:List D} {QL:List D->Sto->Prop} {QB:Bool->Sto->Prop} {QS:Src->Sto->Prop} {tg:Tg} {a bd:Sv} {b:Bool} {t u:Tv}
noncomputable def kU {β γ:Type} (u:β->Sto->Out γ) (Q:γ->Sto->Prop) (E:Str->Sto->Prop) (x:β) (M:Sto):Prop:=wO (u x M) Q E
noncomputable def kQ {β γ:Type} (Q:γ->Sto->Prop) (c:β->γ) (M:Sto) (x:β):Prop:=Q (c x) M
noncomputable def kB2 (op:Bo) (x:D) (Q:D->Sto->Prop) (E:Str->Sto->Prop) (y:D) (M:Sto):Prop:=wO (op x y M) Q E
noncomputable def kB1 (op:Bo) (g:Ev) (ρ:Ro) (Q:D->Sto->Prop) (E:Str->Sto->Prop) (x:D) (M:Sto):Prop:=wO (g ρ M) (kB2 op x Q E) E
theorem Zul {op:Bo}:wO (e2 op f g ρ M) Q E=wO (f ρ M) (kB1 op g ρ Q E) E:=Zq6
theorem y_c:wO (eC d ρ M) Q E=Q d M:=rfl
theorem y_v:wO (Zh k ρ M) Q E=wV ρ[k]? (kQ Q id M):=Zt5
theorem Zpy {F:List D->Sto->Out D}:wO (Zk F fs ρ M) Q E=wO (fs ρ M) (kU F Q E) E:=Zmy
noncomputable def kA2 (x:D) (Q:List D->Sto->Prop) (xs:List D) (M:Sto):Prop:=Q (x :: xs) M
noncomputable def kA1 (fs:Av) (ρ:Ro) (Q:List D->Sto->Prop) (E:Str->Sto->Prop) (x:D) (M:Sto):Prop:=wO (fs ρ M) (kA2 x Q) E
theorem ZrB:wO (aNil ρ M) QL E=QL [] M:=rfl
theorem Zpz:wO (Zc f fs ρ M) QL E=wO (f ρ M) (kA1 fs ρ QL E) E:=Zmz
noncomputable def kTu (Q:D->Sto->Prop) (xs:List D) (M:Sto):Prop:=xs.length<=1000/\Q (.tup xs) M
noncomputable def kLs (Q:D->Sto->Prop) (xs:List D) (M:Sto):Prop:=xs.length<=1000/\Q (.ref M.length) (M ++ [.lst xs])
theorem ZrC:wO (Zap fs ρ M) Q E=wO (fs ρ M) (kTu Q) E:=ZoQ
theorem ZrD:wO (Zbn fs ρ M) Q E=wO (fs ρ M) (kLs Q) E:=ZoR
noncomputable def ZsL (x:D) (M:Sto):Out D:=match x with | .int i=> .ok (.int (-i)) M | _=> .bad
theorem ZrE:wO (Zdo f ρ M) Q E=wO (f ρ M) (kU ZsL Q E) E:=by unfold Zdo;exact ZB
theorem ZpA:wO (ZsL (.int i) M) Q E=Q (.int (-i)) M:=rfl
noncomputable def ZrF (T:String) (x:D) (M:Sto):Out D:=match ZbA M x with | some t=> .ok (.bl (Zdc t T)) M | none=> .bad
theorem ZrG {T:String}:wO (Znq T f ρ M) Q E=wO (f ρ M) (kU (ZrF T) Q E) E:=by unfold Znq;exact ZB
noncomputable def kTy (T:String) (Q:D->Sto->Prop) (M:Sto) (t:String):Prop:=Q (.bl (Zdc t T)) M
theorem ZpB {T:String}:wO (ZrF T x M) Q E=wG (ZbA M x) (kTy T Q M):=by unfold ZrF;cases ZbA M x<;>rfl
noncomputable def tC (b:Bool):Tv:=fun _ M=> .ok b M
noncomputable def BrO {β:Type} (k:Bool) (f g:Ro->Sto->Out β) (ρ:Ro) (M:Sto) (Q:β->Sto->Prop) (E:Str->Sto->Prop):Prop:=wO ((if k=true then f else g) ρ M) Q E
theorem Zum {β:Type} {fO gO:Ro->Sto->Out β} {QO:β->Sto->Prop}:BrO true fO gO ρ M QO E=wO (fO ρ M) QO E:=rfl
theorem Zun {β:Type} {fO gO:Ro->Sto->Out β} {QO:β->Sto->Prop}:BrO false fO gO ρ M QO E=wO (gO ρ M) QO E:=rfl
theorem brO {β:Type} {fO gO:Ro->Sto->Out β} {QO:β->Sto->Prop} {p:Prop} [Decidable p] (h1:p->wO (fO ρ M) QO E) (h2: ¬ p->wO (gO ρ M) QO E):BrO (decide p) fO gO ρ M QO E:=by
 by_cases h:p
 ·rw[decide_eq_true h];exact h1 h
 ·rw[decide_eq_false h];exact h2 h
theorem ZrH {β:Type} {fO gO:Ro->Sto->Out β} {QO:β->Sto->Prop} (P:β->Sto->Prop) (h:BrO b fO gO ρ M P E) (hn: ∀ x M,P x M->QO x M):BrO b fO gO ρ M QO E:=by
 cases b
 ·exact Zes h hn (fun _ _ z=>z)
 ·exact Zes h hn (fun _ _ z=>z)
noncomputable def kIf (f g:Ev) (ρ:Ro) (Q:D->Sto->Prop) (E:Str->Sto->Prop) (k:Bool) (M:Sto):Prop:=BrO k f g ρ M Q E
theorem Zuo:wO (eIf t f g ρ M) Q E=wO (t ρ M) (kIf f g ρ Q E) E:=by unfold eIf;rw[ZB];congr 1;funext k M1;cases k<;>rfl
noncomputable def ZsM (g:Ev) (ρ:Ro) (x:D) (M:Sto):Out D:=match x with | .bl k=>if k=true then g ρ M else .ok (.bl false) M | _=> .bad
noncomputable def oOr (g:Ev) (ρ:Ro) (x:D) (M:Sto):Out D:=match x with | .bl k=>if k=true then .ok (.bl true) M else g ρ M | _=> .bad
noncomputable def ZsN (x:D) (M:Sto):Out D:=match x with | .bl k=> .ok (.bl (!k)) M | _=> .bad
noncomputable def oTv (x:D) (M:Sto):Out Bool:=match x with | .bl k=> .ok k M | _=> .bad
theorem ZrI:wO (Zg8 f g ρ M) Q E=wO (f ρ M) (kU (ZsM g ρ) Q E) E:=by unfold Zg8;exact ZB
theorem Zup:wO (Zn6 f g ρ M) Q E=wO (f ρ M) (kU (oOr g ρ) Q E) E:=by unfold Zn6;exact ZB
theorem ZrJ:wO (Zh4 f ρ M) Q E=wO (f ρ M) (kU ZsN Q E) E:=by unfold Zh4;exact ZB
theorem ZpC:wO (ZsM g ρ (.bl b) M) Q E=BrO b g (eC (.bl false)) ρ M Q E:=by cases b<;>rfl
theorem ZrK:wO (oOr g ρ (.bl b) M) Q E=BrO b (eC (.bl true)) g ρ M Q E:=by cases b<;>rfl
theorem ZpD:wO (ZsN (.bl b) M) Q E=Q (.bl (!b)) M:=rfl
theorem Zuq:wO (tv f ρ M) QB E=wO (f ρ M) (kU oTv QB E) E:=by unfold tv;exact ZB
theorem ZrL:wO (oTv (.bl b) M) QB E=QB b M:=rfl
noncomputable def kTA (u:Tv) (ρ:Ro) (Q:Bool->Sto->Prop) (E:Str->Sto->Prop) (k:Bool) (M:Sto):Prop:=BrO k u (tC false) ρ M Q E
noncomputable def kTO (u:Tv) (ρ:Ro) (Q:Bool->Sto->Prop) (E:Str->Sto->Prop) (k:Bool) (M:Sto):Prop:=BrO k (tC true) u ρ M Q E
noncomputable def kTN (Q:Bool->Sto->Prop) (k:Bool) (M:Sto):Prop:=Q (!k) M
theorem Zur:wO (tC b ρ M) QB E=QB b M:=rfl
theorem ZpE:wO (Zdm t u ρ M) QB E=wO (t ρ M) (kTA u ρ QB E) E:=by unfold Zdm;rw[ZB];congr 1;funext k M1;cases k<;>rfl
theorem ZrM:wO (Zht t u ρ M) QB E=wO (t ρ M) (kTO u ρ QB E) E:=by unfold Zht;rw[ZB];congr 1;funext k M1;cases k<;>rfl
theorem ZpF:wO (ZbZ t ρ M) QB E=wO (t ρ M) (kTN QB) E:=ZoS
noncomputable def kSq (b:Sv) (N:Ro->Sto->Prop) (R:D->Sto->Prop) (B C:Ro->Sto->Prop) (E:Str->Sto->Prop) (ρ:Ro) (M:Sto):Prop:=wS (b ρ M) N R B C E
theorem ZrN:wS (ZC a bd ρ M) N R B C E=wS (a ρ M) (kSq bd N R B C E) R B C E:=ZoT
theorem ZpG:wS (sNil ρ M) N R B C E=N ρ M:=rfl
theorem ZrO:wS (sBrk ρ M) N R B C E=B ρ M:=rfl
theorem ZrP:wS (ZtO ρ M) N R B C E=C ρ M:=rfl
theorem ZrQ:wS (Zag f ρ M) N R B C E=wO (f ρ M) R E:=ZoU
theorem ZpH:wS (Zoi ρ M) N R B C E=R .non M:=rfl
noncomputable def kDr (ρ:Ro) (N:Ro->Sto->Prop) (d:D) (M:Sto):Prop:=N ρ M
theorem ZpI:wS (Zb0 f ρ M) N R B C E=wO (f ρ M) (kDr ρ N) E:=ZmA
noncomputable def BrS (k:Bool) (a b:Sv) (ρ:Ro) (M:Sto) (N:Ro->Sto->Prop) (R:D->Sto->Prop) (B C:Ro->Sto->Prop) (E:Str->Sto->Prop):Prop:=wS ((if k=true then a else b) ρ M) N R B C E
theorem Zus:BrS true a bd ρ M N R B C E=wS (a ρ M) N R B C E:=rfl
theorem Zut:BrS false a bd ρ M N R B C E=wS (bd ρ M) N R B C E:=rfl
theorem brS {p:Prop} [Decidable p] (h1:p->wS (a ρ M) N R B C E) (h2: ¬ p->wS (bd ρ M) N R B C E):BrS (decide p) a bd ρ M N R B C E:=by
 by_cases h:p
 ·rw[decide_eq_true h];exact h1 h
 ·rw[decide_eq_false h];exact h2 h
theorem Zuu {p:Prop} [Decidable p] (h1: ¬ p->wS (a ρ M) N R B C E) (h2:p->wS (bd ρ M) N R B C E):BrS (!decide p) a bd ρ M N R B C E:=by
 by_cases h:p
 ·rw[decide_eq_true h];exact h2 h
 ·rw[decide_eq_false h];exact h1 h
theorem Zuv (h1:b=true->wS (a ρ M) N R B C E) (h2:b=false->wS (bd ρ M) N R B C E):BrS b a bd ρ M N R B C E:=by
 cases b
 ·exact h2 rfl
 ·exact h1 rfl
theorem ZsO (P:Ro->Sto->Prop) (h:BrS b a bd ρ M P R B C E) (hn: ∀ ρ M,P ρ M->N ρ M):BrS b a bd ρ M N R B C E:=by
 cases b
 ·exact ZiM h hn (fun _ _ z=>z) (fun _ _ z=>z) (fun _ _ z=>z) (fun _ _ z=>z)
 ·exact ZiM h hn (fun _ _ z=>z) (fun _ _ z=>z) (fun _ _ z=>z) (fun _ _ z=>z)
noncomputable def kSi (a b:Sv) (ρ:Ro) (N:Ro->Sto->Prop) (R:D->Sto->Prop) (B C:Ro->Sto->Prop) (E:Str->Sto->Prop) (k:Bool) (M:Sto):Prop:=BrS k a b ρ M N R B C E
theorem ZrR:wS (sIf t a bd ρ M) N R B C E=wO (t ρ M) (kSi a bd ρ N R B C E) E:=by unfold sIf;rw[Zaz];congr 1;funext k M1;cases k<;>rfl
noncomputable def kAs (i:Nat) (ρ:Ro) (N:Ro->Sto->Prop) (d:D) (M:Sto):Prop:=N (ρ.set i (some d)) M
theorem ZrS:wS (ZQ (gNm k) f ρ M) N R B C E=wO (f ρ M) (kAs k ρ N) E:=ZoV
noncomputable def kAt (gs:Tgs) (ρ:Ro) (N:Ro->Sto->Prop) (d:D) (M:Sto):Prop:=wG (gTp gs d ρ) (kQ N id M)
theorem ZpJ {gs:Tgs}:wS (ZQ (gTp gs) f ρ M) N R B C E=wO (f ρ M) (kAt gs ρ N) E:=ZmB
noncomputable def ZsP (i j:Nat) (ρ:Ro) (N:Ro->Sto->Prop) (M:Sto) (v w:D):Prop:=N ((ρ.set i (some v)).set j (some w)) M
noncomputable def kPa (i j:Nat) (ρ:Ro) (N:Ro->Sto->Prop) (ds:List D) (M:Sto):Prop:=w2 ds (ZsP i j ρ N M)
theorem ZrT:wS (ZfD k m fs ρ M) N R B C E=wO (fs ρ M) (kPa k m ρ N) E:=ZoW
noncomputable def ZsQ (n:Nat) (d:D) (xs:List D) (ρ:Ro) (N:Ro->Sto->Prop) (M:Sto) (j:Nat):Prop:=N ρ (M.set n (.lst (xs.set j d)))
noncomputable def ZsR (n:Nat) (k:Int) (d:D) (ρ:Ro) (N:Ro->Sto->Prop) (M:Sto) (xs:List D):Prop:=wG (ixN xs.length k) (ZsQ n d xs ρ N M)
noncomputable def ZsS (n:Nat) (d:D) (ρ:Ro) (N:Ro->Sto->Prop) (M:Sto) (k:Int):Prop:=wL M[n]? (ZsR n k d ρ N M)
noncomputable def ZsT (i:D) (d:D) (ρ:Ro) (N:Ro->Sto->Prop) (M:Sto) (n:Nat):Prop:=wI i (ZsS n d ρ N M)
noncomputable def ZsU (o:D) (d:D) (ρ:Ro) (N:Ro->Sto->Prop) (i:D) (M:Sto):Prop:=wR o (ZsT i d ρ N M)
noncomputable def ZsV (fi:Ev) (d:D) (ρ:Ro) (N:Ro->Sto->Prop) (E:Str->Sto->Prop) (o:D) (M:Sto):Prop:=wO (fi ρ M) (ZsU o d ρ N) E
noncomputable def kPu (fo fi:Ev) (ρ:Ro) (N:Ro->Sto->Prop) (E:Str->Sto->Prop) (d:D) (M:Sto):Prop:=wO (fo ρ M) (ZsV fi d ρ N E) E
theorem ZrU {fo fi:Ev}:wS (ZjP fo fi f ρ M) N R B C E=wO (f ρ M) (kPu fo fi ρ N E) E:=ZoX
noncomputable def kRa (c:Str) (E:Str->Sto->Prop) (ds:List D) (M:Sto):Prop:=ds.length<=1000/\E c M
theorem ZmT {c:Str}:wS (ZbH c fs ρ M) N R B C E=wO (fs ρ M) (kRa c E) E:=Zkj
noncomputable def ZsW (tg:Tg) (bd:Sv) (ρ:Ro) (N:Ro->Sto->Prop) (R:D->Sto->Prop) (B C:Ro->Sto->Prop) (E:Str->Sto->Prop) (M:Sto) (j:Int):Prop:=(-(2 ^ 62)<=j/\j < 2 ^ 62)/\wS (Zb1 tg bd (ZbC 0 j.toNat) ρ M) N R B C E
noncomputable def ZsX (tg:Tg) (bd:Sv) (ρ:Ro) (N:Ro->Sto->Prop) (R:D->Sto->Prop) (B C:Ro->Sto->Prop) (E:Str->Sto->Prop) (M:Sto) (d:D):Prop:=wI d (ZsW tg bd ρ N R B C E M)
noncomputable def kR1 (tg:Tg) (bd:Sv) (ρ:Ro) (N:Ro->Sto->Prop) (R:D->Sto->Prop) (B C:Ro->Sto->Prop) (E:Str->Sto->Prop) (ds:List D) (M:Sto):Prop:=w1 ds (ZsX tg bd ρ N R B C E M)
theorem ZpK:wS (Zb4 tg fs bd ρ M) N R B C E=wO (fs ρ M) (kR1 tg bd ρ N R B C E) E:=ZmC
noncomputable def ZsY (tg:Tg) (bd:Sv) (ρ:Ro) (N:Ro->Sto->Prop) (R:D->Sto->Prop) (B C:Ro->Sto->Prop) (E:Str->Sto->Prop) (M:Sto) (i:Int) (j:Int):Prop:=(-(2 ^ 62)<=i/\i < 2 ^ 62/\ -(2 ^ 62)<=j/\j < 2 ^ 62)/\wS (Zb1 tg bd (ZbC i (j - i).toNat) ρ M) N R B C E
noncomputable def ZsZ (tg:Tg) (bd:Sv) (ρ:Ro) (N:Ro->Sto->Prop) (R:D->Sto->Prop) (B C:Ro->Sto->Prop) (E:Str->Sto->Prop) (M:Sto) (y:D) (i:Int):Prop:=wI y (ZsY tg bd ρ N R B C E M i)
noncomputable def Zs0 (tg:Tg) (bd:Sv) (ρ:Ro) (N:Ro->Sto->Prop) (R:D->Sto->Prop) (B C:Ro->Sto->Prop) (E:Str->Sto->Prop) (M:Sto) (x y:D):Prop:=wI x (ZsZ tg bd ρ N R B C E M y)
noncomputable def kR2 (tg:Tg) (bd:Sv) (ρ:Ro) (N:Ro->Sto->Prop) (R:D->Sto->Prop) (B C:Ro->Sto->Prop) (E:Str->Sto->Prop) (ds:List D) (M:Sto):Prop:=w2 ds (Zs0 tg bd ρ N R B C E M)
theorem ZpL:wS (Ze1 tg fs bd ρ M) N R B C E=wO (fs ρ M) (kR2 tg bd ρ N R B C E) E:=ZmN
noncomputable def kFo (tg:Tg) (bd:Sv) (ρ:Ro) (N:Ro->Sto->Prop) (R:D->Sto->Prop) (B C:Ro->Sto->Prop) (E:Str->Sto->Prop) (d:D) (M:Sto):Prop:=wS (ZkW tg bd d ρ M) N R B C E
theorem ZrV:wS (ZkX tg f bd ρ M) N R B C E=wO (f ρ M) (kFo tg bd ρ N R B C E) E:=ZoY
theorem ZpM:wS (ZkW tg bd (.tup xs) ρ M) N R B C E=wS (Zb1 tg bd xs ρ M) N R B C E:=rfl
theorem ZpN:wS (ZkW tg bd (.rol xs) ρ M) N R B C E=wS (Zb1 tg bd xs ρ M) N R B C E:=rfl
noncomputable def kFs (tg:Tg) (bd:Sv) (ρ:Ro) (N:Ro->Sto->Prop) (R:D->Sto->Prop) (B C:Ro->Sto->Prop) (E:Str->Sto->Prop) (src:Src) (M:Sto):Prop:=wS (ZgM tg bd src (cnt src M) 0 ρ M) N R B C E
theorem ZpO {fi:Ro->Sto->Out Src}:wS (ZdO tg fi bd ρ M) N R B C E=wO (fi ρ M) (kFs tg bd ρ N R B C E) E:=ZmE
noncomputable def hT (cs:List Str) (gh:Sv) (W:List Bool) (i:Nat) (ρ:Ro) (c:Str) (M:Sto):Fl:=if cs.contains c=true then (match gh ((kpR W ρ).set i (some (.err c []))) M with | .ret d M2=> .ret d M2 | .nx _ M2=> .nx (List.replicate ρ.length none) M2 | _=> .bad) else .bad
noncomputable def kTr (cs:List Str) (gh:Sv) (W:List Bool) (i:Nat) (ρ:Ro) (N:Ro->Sto->Prop) (R:D->Sto->Prop) (B C:Ro->Sto->Prop) (E:Str->Sto->Prop) (c:Str) (M:Sto):Prop:=cs.contains c=true/\wS (gh ((kpR W ρ).set i (some (.err c []))) M) (fun _ M2=>N (List.replicate ρ.length none) M2) R (fun _ _=>False) (fun _ _=>False) (fun _ _=>False)
theorem ZrW {cs:List Str} {W:List Bool} {gh:Sv}:wS (Zme a cs W k gh ρ M) N R B C E=wS (a ρ M) N R B C (kTr cs gh W k ρ N R B C E):=by
 unfold Zme
 cases e:a ρ M<;>try rfl
 rename_i c M1
 show wS (if cs.contains c=true then _ else _) N R B C E=kTr cs gh W k ρ N R B C E c M1
 unfold kTr
 by_cases h:cs.contains c=true
 ·rw[if_pos h]
  simp only[h,true_and]
  cases gh ((kpR W ρ).set k (some (.err c []))) M1<;>rfl
 ·rw[if_neg h]
  simp only[h,Bool.false_eq_true,false_and]
  rfl
noncomputable def Zuw (Q:D->Sto->Prop) (M1:Sto) (u:Unit) (M:Sto):Prop:=Q (.ref M1.length) M
noncomputable def kCo (tg:Tg) (c:Tv) (f:Ev) (k:Nat) (fr:List Nat) (ρ:Ro) (Q:D->Sto->Prop) (src:Src) (M:Sto):Prop:=wO (Zc4 src tg c f M.length (cnt src M) 0 (roB k fr ρ) (M ++ [.lst []])) (Zuw Q M) (fun _ _=>False)
theorem ZpP {fi:Ro->Sto->Out Src} {fr:List Nat}:wO (Zay fi k fr tg t f ρ M) Q E=wO (fi ρ M) (kCo tg t f k fr ρ Q) E:=ZmF
noncomputable def Zs1 (QS:Src->Sto->Prop) (M:Sto) (j:Int):Prop:=(-(2 ^ 62)<=j/\j < 2 ^ 62)/\QS (.pur (ZbC 0 j.toNat)) M
noncomputable def Zs2 (QS:Src->Sto->Prop) (M:Sto) (d:D):Prop:=wI d (Zs1 QS M)
noncomputable def kS1 (QS:Src->Sto->Prop) (ds:List D) (M:Sto):Prop:=w1 ds (Zs2 QS M)
theorem Zux:wO (iR1 fs ρ M) QS E=wO (fs ρ M) (kS1 QS) E:=Zug
noncomputable def Zs3 (QS:Src->Sto->Prop) (M:Sto) (i:Int) (j:Int):Prop:=(-(2 ^ 62)<=i/\i < 2 ^ 62/\ -(2 ^ 62)<=j/\j < 2 ^ 62)/\QS (.pur (ZbC i (j - i).toNat)) M
noncomputable def Zs4 (QS:Src->Sto->Prop) (M:Sto) (y:D) (i:Int):Prop:=wI y (Zs3 QS M i)
noncomputable def Zs5 (QS:Src->Sto->Prop) (M:Sto) (x y:D):Prop:=wI x (Zs4 QS M y)
noncomputable def kS2 (QS:Src->Sto->Prop) (ds:List D) (M:Sto):Prop:=w2 ds (Zs5 QS M)
theorem Zuy:wO (iR2 fs ρ M) QS E=wO (fs ρ M) (kS2 QS) E:=Zuh
noncomputable def oSq (d:D) (M:Sto):Out Src:=match d with | .tup ds=> .ok (.pur ds) M | .rol ds=> .ok (.pur ds) M | .con ds=> .ok (.pur ds) M | .ref n=> .ok (.sto n) M | _=> .bad
theorem Zuz:wO (iSq f ρ M) QS E=wO (f ρ M) (kU oSq QS E) E:=by unfold iSq;exact ZB
theorem ZrX:wO (oSq (.tup xs) M) QS E=QS (.pur xs) M:=rfl
theorem ZrY:wO (oSq (.rol xs) M) QS E=QS (.pur xs) M:=rfl
theorem ZrZ:wO (oSq (.ref n) M) QS E=QS (.sto n) M:=rfl
noncomputable def Zs6 (QS:Src->Sto->Prop) (M:Sto) (d:D):Prop:=wR d (kQ QS .enu M)
noncomputable def kEn (QS:Src->Sto->Prop) (ds:List D) (M:Sto):Prop:=w1 ds (Zs6 QS M)
theorem ZuA:wO (iEn fs ρ M) QS E=wO (fs ρ M) (kEn QS) E:=Zui
noncomputable def Zs7 (QS:Src->Sto->Prop) (M:Sto) (y:D) (n:Nat):Prop:=wR y (kQ QS (.zip n) M)
noncomputable def Zs8 (QS:Src->Sto->Prop) (M:Sto) (x y:D):Prop:=wR x (Zs7 QS M y)
noncomputable def kZp (QS:Src->Sto->Prop) (ds:List D) (M:Sto):Prop:=w2 ds (Zs8 QS M)
theorem ZuB:wO (iZp fs ρ M) QS E=wO (fs ρ M) (kZp QS) E:=Zuj
noncomputable def Zs9 (QS:Src->Sto->Prop) (n:Nat) (M:Sto) (xs:List D):Prop:=QS (.rev n xs.length) M
noncomputable def Zta (QS:Src->Sto->Prop) (M:Sto) (n:Nat):Prop:=wL M[n]? (Zs9 QS n M)
noncomputable def Ztb (QS:Src->Sto->Prop) (M:Sto) (d:D):Prop:=wR d (Zta QS M)
noncomputable def kRv (QS:Src->Sto->Prop) (ds:List D) (M:Sto):Prop:=w1 ds (Ztb QS M)
theorem ZuC:wO (iRv fs ρ M) QS E=wO (fs ρ M) (kRv QS) E:=Zuk
noncomputable def ZpQ (xs:List D) (M:Sto) (Q:D->Sto->Prop) (ys:List D):Prop:=xs.length + ys.length<=10000000/\Q (.ref M.length) (M ++ [.lst (xs ++ ys)])
noncomputable def Ztc (m:Nat) (M:Sto) (Q:D->Sto->Prop) (xs:List D):Prop:=wL M[m]? (ZpQ xs M Q)
theorem Zr0:wO (dAdd (.ref n) (.ref m) M) Q E=wL M[n]? (Ztc m M Q):=Zrd
noncomputable def Zqs (i:Int) (M:Sto) (Q:D->Sto->Prop) (xs:List D):Prop:=((-9223372036854775808<=i/\i < 9223372036854775808)/\xs.length * i.toNat<=100000)/\Q (.ref M.length) (M ++ [.lst (List.replicate i.toNat xs).flatten])
theorem Zr1:wO (dRep (.ref n) (.int i) M) Q E=wL M[n]? (Zqs i M Q):=by
 show wO (match M[n]? with | some (.lst xs)=>if (-9223372036854775808<=i/\i < 9223372036854775808)/\xs.length * i.toNat<=100000 then Out.ok (.ref M.length) (M ++ [.lst (List.replicate i.toNat xs).flatten]) else .bad | none=> .bad) Q E=_
 cases e1:M[n]? with
 |none=>rfl
 |some o=>
  cases o with
  |lst xs=>
   show wO (if (-9223372036854775808<=i/\i < 9223372036854775808)/\xs.length * i.toNat<=100000 then Out.ok (.ref M.length) (M ++ [.lst (List.replicate i.toNat xs).flatten]) else .bad) Q E=Zqs i M Q xs
   unfold Zqs
   by_cases h:(-9223372036854775808<=i/\i < 9223372036854775808)/\xs.length * i.toNat<=100000
   ·rw[if_pos h];simp only[eq_true h,true_and];rfl
   ·rw[if_neg h];simp only[eq_false h,false_and];rfl
noncomputable def kEq (Q:D->Sto->Prop) (M:Sto) (b:Bool):Prop:=Q (.bl b) M
noncomputable def kNe (Q:D->Sto->Prop) (M:Sto) (b:Bool):Prop:=Q (.bl (!b)) M
theorem ZuD:wO (dEq x y M) Q E=wG (eqF 12 M x y) (kEq Q M):=Zua
theorem ZuE:wO (dNe x y M) Q E=wG (eqF 12 M x y) (kNe Q M):=Zub
theorem ZuF:wO (dIs x y M) Q E=wG (isP x y) (kEq Q M):=Zuc
theorem Zr2:wO (dIsNot x y M) Q E=wG (isP x y) (kNe Q M):=Zre
theorem Zr3:wO (ZsI x y M) Q E=wG (inE x y M) (kEq Q M):=by unfold ZsI;cases inE x y M<;>rfl
theorem Zkt:wO (Ziz x y M) Q E=wG (inE x y M) (kNe Q M):=by unfold Ziz;cases inE x y M<;>rfl
theorem Zr4:wO (dIx (.tup xs) (.int i) M) Q E=wG (atI xs i) (kQ Q id M):=Zrf
theorem Zr5:wO (dIx (.rol xs) (.int i) M) Q E=wG (atI xs i) (kQ Q id M):=Zrg
noncomputable def kIx (i:Int) (Q:D->Sto->Prop) (M:Sto) (xs:List D):Prop:=wG (atI xs i) (kQ Q id M)
theorem Zr6:wO (dIx (.ref n) (.int i) M) Q E=wL M[n]? (kIx i Q M):=Zrh
noncomputable def Ztd (Q:D->Sto->Prop) (M:Sto) (xs:List D):Prop:=Q (.int xs.length) M
theorem ZpR:wO (bLen [.ref n] M) Q E=wL M[n]? (Ztd Q M):=Zo2
noncomputable def kLi (Q:D->Sto->Prop) (M:Sto) (xs:List D):Prop:=Q (.ref M.length) (M ++ [.lst xs])
theorem ZmU:wO (bList [.ref n] M) Q E=wL M[n]? (kLi Q M):=ZmH
noncomputable def Zte (Q:D->Sto->Prop) (M:Sto) (bs:List Bool):Prop:=Q (.bl (bs.all id)) M
noncomputable def kAl (Q:D->Sto->Prop) (M:Sto) (xs:List D):Prop:=wG (Zab xs) (Zte Q M)
theorem Zr7:wO (ZsF [.ref n] M) Q E=wL M[n]? (kAl Q M):=Zrl
noncomputable def Ztf (g:List Int->Option Int) (Q:D->Sto->Prop) (M:Sto) (ns:List Int):Prop:=wG (g ns) (kQ Q .int M)
noncomputable def Ztg (g:List Int->Option Int) (Q:D->Sto->Prop) (M:Sto) (xs:List D):Prop:=wG (Zb2 xs) (Ztf g Q M)
theorem ZpS {gi:List Int->Option Int}:wO (ZcH gi [.ref n] M) Q E=wL M[n]? (Ztg gi Q M):=Zo7
noncomputable def kMt (g:Me) (fs:Av) (ρ:Ro) (Q:D->Sto->Prop) (E:Str->Sto->Prop) (x:D) (M:Sto):Prop:=Zmg x M=true/\wO (fs ρ M) (kU (g x) Q E) E
theorem ZuG {me:Me} {fo:Ev}:wO (Zjm me fo fs ρ M) Q E=wO (fo ρ M) (kMt me fs ρ Q E) E:=Zud
noncomputable def Zth (n:Nat) (d:D) (Q:D->Sto->Prop) (M:Sto) (xs:List D):Prop:=xs.length < 10000000/\Q .non (M.set n (.lst (xs ++ [d])))
theorem Zr8:wO (mApp (.ref n) [d] M) Q E=wL M[n]? (Zth n d Q M):=Zrm
noncomputable def Zti (n:Nat) (Q:D->Sto->Prop) (M:Sto) (xs:List D):Prop:=Q .non (M.set n (.lst []))
theorem Zr9:wO (ZsH (.ref n) [] M) Q E=wL M[n]? (Zti n Q M):=Zrn
noncomputable def ZpT (n:Nat) (xs:List D) (Q:D->Sto->Prop) (M:Sto) (ys:List D):Prop:=xs.length + ys.length<=10000000/\Q .non (M.set n (.lst (xs ++ ys)))
noncomputable def Ztj (n m:Nat) (Q:D->Sto->Prop) (M:Sto) (xs:List D):Prop:=wL M[m]? (ZpT n xs Q M)
theorem Zsa:wO (mExt (.ref n) [.ref m] M) Q E=wL M[n]? (Ztj n m Q M):=Zro
noncomputable def ZmV (Q:D->Sto->Prop) (M:Sto) (bs:List Bool):Prop:=wG (bs.findIdx? id) (kQ Q (fun (j:Nat)=> .int j) M)
noncomputable def Ztk (d:D) (Q:D->Sto->Prop) (M:Sto) (xs:List D):Prop:=wG (eqs M d xs) (ZmV Q M)
theorem Zsb:wO (ZtT (.ref n) [d] M) Q E=wL M[n]? (Ztk d Q M):=by
 show wO (match M[n]? with | some (.lst xs)=>(match eqs M d xs with | some bs=>(match bs.findIdx? id with | some j=>Out.ok (.int (j:Nat)) M | none=> .bad) | none=> .bad) | none=> .bad) Q E=_
 cases e1:M[n]? with
 |none=>rfl
 |some o=>
  cases o with
  |lst xs=>
   show wO (match eqs M d xs with | some bs=>(match bs.findIdx? id with | some j=>Out.ok (.int (j:Nat)) M | none=> .bad) | none=> .bad) Q E=wG (eqs M d xs) (ZmV Q M)
   cases eqs M d xs with
   |none=>rfl
   |some bs=>
    show wO (match bs.findIdx? id with | some j=>Out.ok (.int (j:Nat)) M | none=> .bad) Q E=wG (bs.findIdx? id) _
    cases bs.findIdx? id<;>rfl
noncomputable def kCn (Q:D->Sto->Prop) (M:Sto) (bs:List Bool):Prop:=Q (.int (bs.countP id:Nat)) M
noncomputable def Ztl (d:D) (Q:D->Sto->Prop) (M:Sto) (xs:List D):Prop:=wG (eqs M d xs) (kCn Q M)
theorem ZpU:wO (ZtU (.ref n) [d] M) Q E=wL M[n]? (Ztl d Q M):=by
 show wO (match M[n]? with | some (.lst xs)=>(match eqs M d xs with | some bs=>Out.ok (.int (bs.countP id:Nat)) M | none=> .bad) | none=> .bad) Q E=_
 cases e1:M[n]? with
 |none=>rfl
 |some o=>
  cases o with
  |lst xs=>
   show wO (match eqs M d xs with | some bs=>Out.ok (.int (bs.countP id:Nat)) M | none=> .bad) Q E=wG (eqs M d xs) (kCn Q M)
   cases eqs M d xs<;>rfl
noncomputable def Ztm (l u:Option Int) (Q:D->Sto->Prop) (M:Sto) (xs:List D):Prop:=Q (.ref M.length) (M ++ [.lst (ZfU xs l u)])
noncomputable def Ztn (x:D) (l:Option Int) (Q:D->Sto->Prop) (E:Str->Sto->Prop) (u:Option Int) (M:Sto):Prop:=wO (slR x l u M) Q E
noncomputable def Zto (x:D) (hi:Ro->Sto->Out (Option Int)) (ρ:Ro) (Q:D->Sto->Prop) (E:Str->Sto->Prop) (l:Option Int) (M:Sto):Prop:=wO (hi ρ M) (Ztn x l Q E) E
noncomputable def Ztp (lo hi:Ro->Sto->Out (Option Int)) (ρ:Ro) (Q:D->Sto->Prop) (E:Str->Sto->Prop) (x:D) (M:Sto):Prop:=wO (lo ρ M) (Zto x hi ρ Q E) E
theorem ZuH {lo hi:Ro->Sto->Out (Option Int)}:wO (eSl f lo hi ρ M) Q E=wO (f ρ M) (Ztp lo hi ρ Q E) E:=Zrp
theorem Zsc {l u':Option Int}:wO (slR (.ref n) l u' M) Q E=wL M[n]? (Ztm l u' Q M):=Zrq
theorem Zsd {QI:Option Int->Sto->Prop}:wO (oNo ρ M) QI E=QI none M:=rfl
noncomputable def Ztq (Q:Option Int->Sto->Prop) (x:D) (M:Sto):Prop:=wI x (kQ Q some M)
theorem Zse {QI:Option Int->Sto->Prop}:wO (oSo f ρ M) QI E=wO (f ρ M) (Ztq QI) E:=Zrr
noncomputable def oRv (x:D) (M1:Sto):Out D:=match x with | .tup xs=> .ok (.tup xs.reverse) M1 | .ref n=>(match M1[n]? with | some (.lst xs)=> .ok (.ref M1.length) (M1 ++ [.lst xs.reverse]) | none=> .bad) | .rol xs=> .ok (.ref M1.length) (M1 ++ [.lst xs.reverse]) | _=> .bad
theorem ZuI:wO (eRv f ρ M) Q E=wO (f ρ M) (kU oRv Q E) E:=by unfold eRv;exact ZB
noncomputable def Zsf (Q:D->Sto->Prop) (M:Sto) (xs:List D):Prop:=Q (.ref M.length) (M ++ [.lst xs.reverse])
theorem Zsg:wO (oRv (.ref n) M) Q E=wL M[n]? (Zsf Q M):=by show wO (match M[n]? with | some (.lst xs)=>Out.ok (.ref M.length) (M ++ [.lst xs.reverse]) | none=> .bad) Q E=_;cases M[n]? with | none=>rfl | some o=>cases o with | lst xs=>rfl
theorem Zsh:wO (oRv (.tup xs) M) Q E=Q (.tup xs.reverse) M:=rfl
noncomputable def Ztr (tab:List (Str × Bool)) (x:D) (M:Sto):Out D:=match x with | .err c _=>(match tab.lookup c with | some b=> .ok (.bl b) M | none=> .bad) | _=> .bad
theorem Zsi {tab:List (Str × Bool)}:wO (ZcF tab f ρ M) Q E=wO (f ρ M) (kU (Ztr tab) Q E) E:=by unfold ZcF;exact ZB
theorem ZpV {tab:List (Str × Bool)} {c:Str}:wO (Ztr tab (.err c xs) M) Q E=wG (tab.lookup c) (kEq Q M):=by show wO (match tab.lookup c with | some b=>Out.ok (.bl b) M | none=> .bad) Q E=_;cases tab.lookup c<;>rfl
theorem ZmW (h:k < n):ixN n (k:Int)=some k:=by
 unfold ixN
 rw[if_pos (by omega),if_pos (by omega)]
 simp
theorem Zsj {src:Src} {fr:List Nat} (Inv:Ro->Prop) (F:Nat->D) (hl:xs.length < 10000000) (hcnt:xs.length<=cnt src M) (h0:Inv (roB k fr ρ)) (hs: ∀ (L:Sto) (i:Nat),i<=xs.length->nxt src i (M ++ L)=some xs[i]?)
  (st: ∀ (i:Nat) (h:i < xs.length) (ρ:Ro) (L:Sto),Inv ρ->wG (tg xs[i] ρ) fun r=>Inv r/\wO (f r (M ++ L)) (fun y M2=>y=F i/\M2=M ++ L) (fun _ _=>False)) (hq:Q (.ref M.length) (M ++ [.lst ((List.range xs.length).map F)])):
  kCo tg (fun _ M=> .ok true M) f k fr ρ Q src M:=ZmR (Q:=fun M2=>Q (.ref M.length) M2) Inv F hl hcnt h0 hs st hq
theorem ZuJ {fr:List Nat} (Inv:Ro->Prop) (F:Nat->D) (hl:n < 10000000) (h0:Inv (roB k fr ρ))
  (st: ∀ (i:Nat) (h:i < n) (ρ:Ro) (L:Sto),Inv ρ->wG (tg (.int i) ρ) fun r=>Inv r/\wO (f r (M ++ L)) (fun y M2=>y=F i/\M2=M ++ L) (fun _ _=>False)) (hq:Q (.ref M.length) (M ++ [.lst ((List.range n).map F)])):
  kCo tg (fun _ M=> .ok true M) f k fr ρ Q (.pur (ZbC 0 n)) M:=by
 refine Zsj (xs:=ZbC 0 n) Inv F (by rw[Zf0];exact hl) (by simp[cnt]) h0 (fun L i hi=>rfl) (fun i hi ρ L hI=> ?_) (by rw[Zf0];exact hq)
 rw[ZmS]
 have:=st i (by rw[Zf0] at hi;exact hi) ρ L hI
 rw[show (0:Int) + (i:Nat)=i by omega]
 exact this
theorem Znr {fr:List Nat} (Inv:Ro->Prop) (F:Nat->D) (hM:M[n]?=some (.lst xs)) (hl:xs.length < 10000000) (h0:Inv (roB k fr ρ))
  (st: ∀ (i:Nat) (h:i < xs.length) (ρ:Ro) (L:Sto),Inv ρ->wG (tg xs[i] ρ) fun r=>Inv r/\wO (f r (M ++ L)) (fun y M2=>y=F i/\M2=M ++ L) (fun _ _=>False)) (hq:Q (.ref M.length) (M ++ [.lst ((List.range xs.length).map F)])):
  kCo tg (fun _ M=> .ok true M) f k fr ρ Q (.sto n) M:=
 Zsj (xs:=xs) Inv F hl (by rw[ZmO hM];exact Nat.le_refl _) h0 (fun L i hi=>by rw[Zpv];rw[List.getElem?_append_left (ZM hM)];exact hM) st hq
end
end DL
end
namespace DL
open PySem PySem.Spec L2
section
variable {Q:D->Sto->Prop} {E:Str->Sto->Prop} {M:Sto} {n:Nat}
theorem Zsk:wO (bLR [.ref n] M) Q E=wL M[n]? (Zsf Q M):=by
 show wO (match M[n]? with | some (.lst xs)=>Out.ok (.ref M.length) (M ++ [.lst xs.reverse]) | none=> .bad) Q E=_
 cases M[n]? with
 |none=>rfl
 |some o=>cases o with | lst xs=>rfl
end
end DL
section
namespace DL
noncomputable abbrev Pt:=Int × Int
noncomputable def X (p q:Pt):Int:=p.1 * q.2 - p.2 * q.1
section
variable {rs:List Pt} {i j:Int} {k n:Nat} {p:Pt}
theorem Zct {α:Type} {l:List α} {n:Nat} {d:α} (h:n < l.length):l.getD n d=l[n]:=by simp[List.getElem?_eq_getElem h]
theorem Zca (h:0<=i/\i < rs.length):cy rs i=rs.getD i.toNat (0,0):=by
 unfold cy
 rw[Int.emod_eq_of_lt h.1 h.2]
theorem ZaA {m:Nat} (h:m≠0):(i % m).toNat < m/\0<=i % m:=by
 have:=Int.emod_lt_of_pos i (show (0:Int) < m by omega)
 have:=Int.emod_nonneg i (show (m:Int)≠0 by omega)
 omega
theorem Zfk (h:rs≠[]):cy rs i∈rs:=by
 have hl:rs.length≠0:=by simpa using h
 unfold cy
 rw[Zct (ZaA hl).1]
 exact List.getElem_mem _
theorem ZgT {f:Pt->Pt} (h:rs≠[]):cy (rs.map f) i=f (cy rs i):=by
 have hl:rs.length≠0:=by simpa using h
 unfold cy
 rw[List.length_map,Zct (by rw[List.length_map];exact (ZaA hl).1),Zct (ZaA hl).1,List.getElem_map]
theorem Zld (hk:k<=rs.length):cy (rs.drop k ++ rs.take k) i=cy rs (i + k):=by
 by_cases h:rs.length=0
 ·have:rs=[]:=by simpa using h
  subst this
  simp[cy]
 have hL:(rs.drop k ++ rs.take k).length=rs.length:=by simp;omega
 have e1:cy (rs.drop k ++ rs.take k) i=cy (rs.drop k ++ rs.take k) (i % rs.length):=by
  conv=>rhs;rw[<- hL,Zd3]
 have e2:cy rs (i + k)=cy rs (i % rs.length + k):=by
  unfold cy
  rw[Int.emod_add_emod]
 rw[e1,e2]
 obtain ⟨a,b⟩:=ZaA (i:=i) h
 generalize hm:i % (rs.length:Int)=m at *
 have hm2:m < rs.length:=by omega
 rw[Zca (by rw[hL];omega)]
 by_cases c:m + k < rs.length
 ·rw[Zca (by omega)]
  rw[List.getD_eq_getElem?_getD,List.getD_eq_getElem?_getD,List.getElem?_append_left (by simp;omega),List.getElem?_drop]
  congr 2
  omega
 ·rw[<- Zfi,Zca (by omega)]
  rw[List.getD_eq_getElem?_getD,List.getD_eq_getElem?_getD,List.getElem?_append_right (by simp;omega),List.getElem?_take_of_lt (by simp;omega)]
  congr 2
  simp
  omega
noncomputable def ins (rs:List Pt) (k:Nat) (p:Pt):List Pt:=rs.take (k + 1) ++ p :: rs.drop (k + 1)
theorem Zf1 (hk:k < rs.length):(ins rs k p).length=rs.length + 1:=by simp[ins];omega
theorem Zle (hk:k < rs.length) (h0:0<=j) (h1:j<=rs.length + 1):cy (ins rs k p) j=if j<=k then cy rs j else if j=k + 1 then p else cy rs (j - 1):=by
 have hL:=Zf1 (p:=p) hk
 by_cases e:j=rs.length + 1
 ·subst e
  rw[if_neg (by omega),if_neg (by omega)]
  have e1:cy (ins rs k p) (rs.length + 1)=cy (ins rs k p) 0:=by
   have:=Zfi (rs:=ins rs k p) (i:=(rs.length:Int) + 1)
   rw[hL] at this
   rw[<- this]
   congr 1
   omega
  have e2:cy rs ((rs.length:Int) + 1 - 1)=cy rs 0:=by
   rw[<- Zfi]
   congr 1
   omega
  rw[e1,e2,Zca (by rw[hL];omega),Zca (by omega)]
  unfold ins
  rw[List.getD_eq_getElem?_getD,List.getD_eq_getElem?_getD,List.getElem?_append_left (by simp;omega),List.getElem?_take_of_lt (by simp)]
 ·have hj:j < rs.length + 1:=by omega
  rw[Zca (by rw[hL];omega)]
  unfold ins
  rw[List.getD_eq_getElem?_getD]
  by_cases c1:j<=k
  ·rw[if_pos c1,Zca (by omega),List.getD_eq_getElem?_getD,List.getElem?_append_left (by simp;omega),List.getElem?_take_of_lt (by omega)]
  ·rw[if_neg c1,List.getElem?_append_right (by simp;omega)]
   have hl:(rs.take (k + 1)).length=k + 1:=by simp;omega
   rw[hl]
   by_cases c2:j=k + 1
   ·rw[if_pos c2]
    have:j.toNat - (k + 1)=0:=by omega
    rw[this]
    rfl
   ·rw[if_neg c2,Zca (by omega),List.getD_eq_getElem?_getD]
    obtain ⟨z,hz⟩: ∃ z,j.toNat - (k + 1)=z + 1:=⟨j.toNat - (k + 1) - 1,by omega⟩
    rw[hz,List.getElem?_cons_succ,List.getElem?_drop]
    congr 2
    omega
theorem Zeu {P:Pt->Pt->Prop} (hn:rs.length≠0) (h: ∀ i:Int,0<=i->i < rs.length->P (cy rs i) (cy rs (i + 1))) (i:Int):P (cy rs i) (cy rs (i + 1)):=by
 have e1:cy rs i=cy rs (i % rs.length):=Zd3.symm
 have e2:cy rs (i + 1)=cy rs (i % rs.length + 1):=by
  unfold cy
  rw[Int.emod_add_emod]
 rw[e1,e2]
 obtain ⟨a,b⟩:=ZaA (i:=i) hn
 exact h _ b (by omega)
noncomputable def cc (f:Pt->Pt->Nat):List Pt->Nat
 |a :: b :: r=>f a b + cc f (b :: r)
 |_=>0
noncomputable def cyc (f:Pt->Pt->Nat) (rs:List Pt):Nat:=cc f (rs ++ rs.take 1)
theorem Zd4 {f:Pt->Pt->Nat}: ∀ (L:List Pt) (a:Pt) (R:List Pt),cc f (L ++ a :: R)=cc f (L ++ [a]) + cc f (a :: R)
 | [],a,R=>by simp[cc]
 | [b],a,R=>by simp[cc]
 |b :: c :: L,a,R=>by
  have:=Zd4 (f:=f) (c :: L) a R
  simp only[List.cons_append,cc] at this ⊢
  omega
theorem Zlf {f:Pt->Pt->Nat} {g:Pt->Pt}: ∀ (L:List Pt),cc f (L.map g)=cc (fun a b=>f (g a) (g b)) L
 | []=>rfl
 | [_]=>rfl
 |a :: b :: L=>by
  have:=Zlf (f:=f) (g:=g) (b :: L)
  simp only[List.map_cons,cc] at this ⊢
  omega
theorem Zlg {f:Pt->Pt->Nat}: ∀ (L:List Pt),cc f L.reverse=cc (fun a b=>f b a) L
 | []=>rfl
 | [_]=>rfl
 |a :: b :: L=>by
  have:=Zlg (f:=f) (b :: L)
  rw[List.reverse_cons,List.reverse_cons,List.append_assoc,List.singleton_append,Zd4]
  rw[List.reverse_cons] at this
  simp only[cc] at this ⊢
  omega
theorem ZbW {f:Pt->Pt->Nat} {a:Pt} {r:List Pt}:cyc f (a :: r)=cc f (a :: (r ++ [a])):=by simp[cyc]
theorem Zdz {f:Pt->Pt->Nat} (A B:List Pt):cyc f (A ++ B)=cyc f (B ++ A):=by
 cases A with
 |nil=>simp
 |cons a A=>
  cases B with
  |nil=>simp
  |cons b B=>
   rw[List.cons_append,ZbW,List.cons_append,ZbW]
   have e1:a :: (A ++ b :: B ++ [a])=(a :: A) ++ b :: (B ++ [a]):=by simp
   have e2:b :: (B ++ a :: A ++ [b])=(b :: B) ++ a :: (A ++ [b]):=by simp
   rw[e1,e2,Zd4 (a :: A) b,Zd4 (b :: B) a]
   simp only[List.cons_append]
   omega
theorem Zev {f:Pt->Pt->Nat} {g:Pt->Pt} (L:List Pt):cyc f (L.map g)=cyc (fun a b=>f (g a) (g b)) L:=by
 unfold cyc
 rw[<- List.map_take,<- List.map_append,Zlf]
theorem ZiS {f:Pt->Pt->Nat} (L:List Pt):cyc f L.reverse=cyc (fun a b=>f b a) L:=by
 cases L with
 |nil=>rfl
 |cons a L=>
  rw[List.reverse_cons,Zdz,List.singleton_append,ZbW,ZbW,<- Zlg]
  congr 1
  simp
noncomputable def in1 (w a b:Pt):Nat:=if 0<=X a w/\0 < X w b then 1 else 0
noncomputable def in2 (w a b:Pt):Nat:=if 0 < X a w/\0<=X w b then 1 else 0
noncomputable def Fan (rs:List Pt):Prop:= ∀ w:Pt,w≠(0,0)->cyc (in1 w) rs=1/\cyc (in2 w) rs=1
theorem ZpW {a b w:Pt}:X w (a.1 + b.1,a.2 + b.2)=X w a + X w b/\X (a.1 + b.1,a.2 + b.2) w=X a w + X b w:=by unfold X;constructor<;>grind
theorem Zhv {p q:Pt}:X p q=0 - X q p:=by unfold X;grind
theorem ZmX {a b w:Pt}:in1 w a b=in1 w a (a.1 + b.1,a.2 + b.2) + in1 w (a.1 + b.1,a.2 + b.2) b:=by
 have s:=ZpW (a:=a) (b:=b) (w:=w)
 have e1:=Zhv (p:=w) (q:=a)
 have e2:=Zhv (p:=b) (q:=w)
 unfold in1
 rw[s.1,s.2,e1,e2]
 generalize X a w=p
 generalize X w b=q
 repeat' split
 all_goals omega
theorem ZmY {a b w:Pt}:in2 w a b=in2 w a (a.1 + b.1,a.2 + b.2) + in2 w (a.1 + b.1,a.2 + b.2) b:=by
 have s:=ZpW (a:=a) (b:=b) (w:=w)
 have e1:=Zhv (p:=w) (q:=a)
 have e2:=Zhv (p:=b) (q:=w)
 unfold in2
 rw[s.1,s.2,e1,e2]
 generalize X a w=p
 generalize X w b=q
 repeat' split
 all_goals omega
theorem Zsl {L R:List Pt} {a:Pt}:cy (L ++ a :: R) L.length=a:=by
 rw[Zca (by simp;omega)]
 simp
theorem Zsm {L R:List Pt} {a b:Pt}:cy (L ++ a :: b :: R) (L.length + 1)=b:=by
 rw[Zca (by simp;omega)]
 rw[show ((L.length:Int) + 1).toNat=L.length + 1 by omega]
 simp
theorem ZiT {r:List Pt} {a:Pt}:cy (a :: r) (r.length + 1)=a:=by
 have:=Zfi (rs:=a :: r) (i:=(r.length:Int) + 1)
 rw[<- this,List.length_cons,show (r.length:Int) + 1 - ((r.length + 1:Nat):Int)=0 by omega,Zca (by simp)]
 rfl
theorem ZiU {f:Pt->Pt->Nat} (hk:k < rs.length) (hf:f (cy rs k) (cy rs (k + 1))=f (cy rs k) p + f p (cy rs (k + 1))):cyc f (ins rs k p)=cyc f rs:=by
 obtain ⟨L,a,R,e,hl⟩: ∃ L a R,rs=L ++ a :: R/\L.length=k:=⟨rs.take k,rs[k],rs.drop (k + 1),by rw[List.getElem_cons_drop,List.take_append_drop],by simp;omega⟩
 have ei:ins rs k p=L ++ a :: p :: R:=by
  unfold ins
  rw[e,<- hl,List.take_append,List.drop_append,List.take_of_length_le (by omega),List.drop_eq_nil_of_le (by omega)]
  simp
 have ca:cy rs k=a:=by rw[e,<- hl];exact Zsl
 cases R with
 |cons b R=>
  have cb:cy rs (k + 1)=b:=by rw[e,<- hl];exact Zsm
  rw[ca,cb] at hf
  rw[ei,e,Zdz,Zdz L]
  simp only[List.cons_append,ZbW,cc]
  omega
 |nil=>
  cases L with
  |nil=>
   have cb:cy rs (k + 1)=a:=by
    rw[e,<- hl]
    exact ZiT (r:=[]) (a:=a)
   rw[ca,cb] at hf
   rw[ei,e]
   simp[cyc,cc]
   omega
  |cons b L=>
   have cb:cy rs (k + 1)=b:=by
    rw[e,<- hl]
    have:=ZiT (r:=L ++ [a]) (a:=b)
    simp only[List.length_append,List.length_cons,List.length_nil] at this ⊢
    exact this
   rw[ca,cb] at hf
   rw[ei,e]
   simp only[List.cons_append,ZbW]
   have e1:b :: (L ++ [a,p] ++ [b])=(b :: L) ++ a :: [p,b]:=by simp
   have e2:b :: (L ++ [a] ++ [b])=(b :: L) ++ a :: [b]:=by simp
   rw[e1,e2,Zd4,Zd4 (b :: L) a [b]]
   simp only[cc]
   omega
theorem Fan.rot (h:Fan rs):Fan (rs.drop k ++ rs.take k):=fun w hw=>by
 rw[Zdz,Zdz (rs.drop k),List.take_append_drop]
 exact h w hw
theorem Fan.ins (h:Fan rs) (hk:k < rs.length):Fan (ins rs k ((cy rs k).1 + (cy rs (k + 1)).1,(cy rs k).2 + (cy rs (k + 1)).2)):=fun w hw=>by
 rw[ZiU hk ZmX,ZiU hk ZmY]
 exact h w hw
theorem Zlh {f:Pt->Pt} {s:Int} (hs:s=1\/s= -1) (hf: ∀ p q,X (f p) (f q)=s * X p q) (w:Pt) (hw:w≠(0,0)): ∃ w':Pt,w'≠(0,0)/\ ∀ a,X (f a) w=s * X a w':=by
 have d:=hf (1,0) (0,1)
 have d1:X (f (1,0)) (f (0,1))=s:=by rw[d];simp[X]
 have lin: ∀ a,(f a).1=a.1 * (f (1,0)).1 + a.2 * (f (0,1)).1/\(f a).2=a.1 * (f (1,0)).2 + a.2 * (f (0,1)).2:=by
  intro a
  have h1:=hf a (1,0)
  have h2:=hf a (0,1)
  generalize f a=u at *
  generalize f (1,0)=e1 at *
  generalize f (0,1)=e2 at *
  unfold X at *
  rcases hs with rfl | rfl<;>constructor<;>grind
 refine ⟨(X w (f (0,1)) * s,X (f (1,0)) w * s),?_,?_⟩
 ·intro z
  apply hw
  have z1:=congrArg Prod.fst z
  have z2:=congrArg Prod.snd z
  simp only at z1 z2
  generalize f (1,0)=e1 at *
  generalize f (0,1)=e2 at *
  unfold X at *
  apply Prod.ext
  ·rcases hs with rfl | rfl<;>simp only[]<;>grind
  ·rcases hs with rfl | rfl<;>simp only[]<;>grind
 ·intro a
  obtain ⟨l1,l2⟩:=lin a
  unfold X
  rw[l1,l2]
  rcases hs with rfl | rfl<;>simp only[]<;>grind
theorem Fan.map (h:Fan rs) {f:Pt->Pt} (hf: ∀ p q,X (f p) (f q)=X p q):Fan (rs.map f):=fun w hw=>by
 obtain ⟨w',hw',e⟩:=Zlh (s:=1) (.inl rfl) (fun p q=>by rw[hf,Int.one_mul]) w hw
 have e2: ∀ a,X w (f a)=X w' a:=fun a=>by rw[Zhv,e,Zhv (p:=w')];omega
 have c1: ∀ a b,in1 w (f a) (f b)=in1 w' a b:=fun a b=>by unfold in1;rw[e,e2,Int.one_mul]
 have c2: ∀ a b,in2 w (f a) (f b)=in2 w' a b:=fun a b=>by unfold in2;rw[e,e2,Int.one_mul]
 rw[Zev,Zev,show (fun a b=>in1 w (f a) (f b))=in1 w' from funext fun a=>funext fun b=>c1 a b,show (fun a b=>in2 w (f a) (f b))=in2 w' from funext fun a=>funext fun b=>c2 a b]
 exact h w' hw'
theorem Fan.flip (h:Fan rs) {f:Pt->Pt} (hf: ∀ p q,X (f p) (f q)= -1 * X p q):Fan (rs.map f).reverse:=fun w hw=>by
 obtain ⟨w',hw',e⟩:=Zlh (s:= -1) (.inr rfl) hf w hw
 have e2: ∀ a,X w (f a)= -1 * X w' a:=fun a=>by rw[Zhv,e,Zhv (p:=w')];omega
 have c1: ∀ a b,in1 w (f b) (f a)=in2 w' a b:=fun a b=>by
  unfold in1 in2
  rw[e,e2,Zhv (p:=b)]
  have:=Zhv (p:=a) (q:=w')
  simp only[show (0<= -1 * (0 - X w' b)/\0 < -1 * X w' a)=(0 < X a w'/\0<=X w' b) from propext ⟨fun _=>by omega,fun _=>by omega⟩]
 have c2: ∀ a b,in2 w (f b) (f a)=in1 w' a b:=fun a b=>by
  unfold in1 in2
  rw[e,e2,Zhv (p:=b)]
  have:=Zhv (p:=a) (q:=w')
  simp only[show (0 < -1 * (0 - X w' b)/\0<= -1 * X w' a)=(0<=X a w'/\0 < X w' b) from propext ⟨fun _=>by omega,fun _=>by omega⟩]
 rw[ZiS,ZiS,Zev,Zev,show (fun a b=>in1 w (f b) (f a))=in2 w' from funext fun a=>funext fun b=>c1 a b,show (fun a b=>in2 w (f b) (f a))=in1 w' from funext fun a=>funext fun b=>c2 a b]
 exact ⟨(h w' hw').2,(h w' hw').1⟩
structure Smo (rs:List Pt):Prop where
 len:3<=rs.length
 one: ∀ i:Int,X (cy rs i) (cy rs (i + 1))=1
 fan:Fan rs
noncomputable def Nr (b:Int) (rs:List Pt):Prop:= ∀ p∈rs,(-b<=p.1/\p.1<=b)/\ -b<=p.2/\p.2<=b
theorem Smo.ne (h:Smo rs):rs≠[]:=by
 intro z
 have:=h.len
 rw[z] at this
 simp at this
theorem Nr.cy {b:Int} (h:Nr b rs) (hn:rs≠[]) (i:Int):(-b<=(cy rs i).1/\(cy rs i).1<=b)/\ -b<=(cy rs i).2/\(cy rs i).2<=b:=h _ (Zfk hn)
theorem Smo.ins (h:Smo rs) (hk:k < rs.length):Smo (ins rs k ((cy rs k).1 + (cy rs (k + 1)).1,(cy rs k).2 + (cy rs (k + 1)).2)):=by
 have hL:=Zf1 (p:=((cy rs k).1 + (cy rs (k + 1)).1,(cy rs k).2 + (cy rs (k + 1)).2)) hk
 refine ⟨by rw[hL];have:=h.len;omega,?_,h.fan.ins hk⟩
 refine Zeu (P:=fun a b=>X a b=1) (by omega) ?_
 intro i h0 h1
 rw[hL] at h1
 rw[Zle hk h0 (by omega),Zle hk (by omega) (by omega)]
 have ok:=h.one k
 by_cases c1:i + 1<=k
 ·rw[if_pos (by omega),if_pos c1];exact h.one i
 ·rw[if_neg c1]
  by_cases c2:i=k
  ·subst c2
   rw[if_pos (by omega),if_pos rfl]
   unfold X at *
   grind
  ·rw[if_neg (by omega: ¬ i<=(k:Int)),if_neg (by omega: ¬ i + 1=(k:Int) + 1)]
   by_cases c3:i=k + 1
   ·subst c3
    rw[if_pos rfl]
    have:(k:Int) + 1 + 1 - 1=k + 1:=by omega
    rw[this]
    unfold X at *
    grind
   ·rw[if_neg c3]
    have:=h.one (i - 1)
    have e:i - 1 + 1=i + 1 - 1:=by omega
    rw[e] at this
    exact this
theorem Smo.rot (h:Smo rs) (hk:k<=rs.length):Smo (rs.drop k ++ rs.take k):=by
 refine ⟨by have:=h.len;simp;omega,fun i=> ?_,h.fan.rot⟩
 rw[Zld hk,Zld hk]
 have:=h.one (i + k)
 have e:i + (k:Int) + 1=i + 1 + k:=by omega
 rw[e] at this
 exact this
theorem Smo.map (h:Smo rs) {f:Pt->Pt} (hf: ∀ p q,X (f p) (f q)=X p q):Smo (rs.map f):=by
 refine ⟨by have:=h.len;simp;omega,fun i=> ?_,h.fan.map hf⟩
 rw[ZgT h.ne,ZgT h.ne,hf]
 exact h.one i
end
end DL
end
section
namespace CC
open PySem PySem.Spec L2 DL
noncomputable def ZbK:Sv:=(Zag (e2 dSub (e2 dMul (e2 dIx (Zh 0) (eC (.int 0))) (e2 dIx (Zh 1) (eC (.int 1)))) (e2 dMul (e2 dIx (Zh 0) (eC (.int 1))) (e2 dIx (Zh 1) (eC (.int 0))))))
noncomputable def F_crossed:List D->Sto->Out D:=fnF ZbK 2 0
noncomputable def ZaE:Sv:=(Zag (e2 dIx (Zh 0) (e2 dMod (e2 dAdd (Zh 1) (eC (.int 1))) (Zk bLen (Zc (Zh 0) aNil)))))
noncomputable def F_following:List D->Sto->Out D:=fnF ZaE 2 0
noncomputable def Z3:Sv:=(sIf (tv (e2 dNe (Zk F_crossed (Zc (Zh 2) (Zc (Zk F_following (Zc (Zh 0) (Zc (Zh 1) aNil))) aNil))) (eC (.int 1)))) (Zag (Zh 1)) sNil)
noncomputable def ZaF:Sv:=(ZC (ZdO (gTp (gCs (gNm 1) (gCs (gNm 2) gNl))) (iEn (Zc (Zh 0) aNil)) Z3)
 (Zag (eC .non)))
noncomputable def F_unspanned:List D->Sto->Out D:=fnF ZaF 1 2
noncomputable def Zas:Sv:=(ZC (ZQ (gNm 1) (Zk F_unspanned (Zc (Zh 0) aNil)))
 (sIf (tv (e2 dIsNot (Zh 1) (eC .non))) (ZbH (PySem.Str.ofString "NotSmooth") (Zc (eFs (Zb9 (eC (.str (PySem.Str.ofString "ray "))) (Zb9 (eFm (Zh 1)) (Zb9 (eC (.str (PySem.Str.ofString " does not cross the next one in 1"))) jNil)))) aNil)) sNil))
noncomputable def F_ask_smooth:List D->Sto->Out D:=fnF Zas 1 1
end CC
end
open PySem PySem.Spec L2 DL
set_option hygiene false
set_option compiler.extract_closed false
local macro_rules | `(tactic| simp! [$ls,*]) => `(tactic| simp (implicitDefEqProofs := false) (disch := omega) only [Zul, y_c, y_v, Zpy, ZrB, Zpz, ZrC, ZrD, ZrE, ZpA, ZrG, ZpB, Zum, Zun, Zuo, ZrI, Zup, ZrJ, ZpC, ZrK, ZpD, Zuq, ZrL, Zur, ZpE, ZrM, ZpF, ZrN, ZpG, ZrO, ZrP, ZrQ, ZpH, ZpI, Zus, Zut, ZrR, ZrS, ZpJ, ZrT, ZrU, ZmT, ZpK, ZpL, ZrV, ZpM, ZpN, ZpO, ZrW, ZpP, Zux, Zuy, Zuz, ZrX, ZrY, ZrZ, ZuA, ZuB, ZuC, Zr0, Zr1, ZuD, ZuE, ZuF, Zr2, Zr3, Zkt, Zr4, Zr5, Zr6, ZpR, ZmU, Zr7, ZpS, ZuG, Zr8, Zr9, Zsa, Zsb, ZpU, ZuH, Zsc, Zsd, Zse, ZuI, Zsg, Zsh, Zsi, ZpV, kU, kQ, kB2, kB1, kA2, kA1, kTu, kLs, kTy, kIf, kTA, kTO, kTN, kSq, kDr, kSi, kAs, kAt, ZsP, kPa, ZsQ, ZsR, ZsS, ZsT, ZsU, ZsV, kPu, kRa, ZsW, ZsX, kR1, ZsY, ZsZ, Zs0, kR2, kFo, kFs, kTr, Zs1, Zs2, kS1, Zs3, Zs4, Zs5, kS2, Zs6, kEn, Zs7, Zs8, kZp, Zs9, Zta, Ztb, kRv, ZpQ, Ztc, Zqs, kEq, kNe, kIx, Ztd, kLi, Zte, kAl, Ztf, Ztg, kMt, Zth, Zti, ZpT, Ztj, ZmV, Ztk, kCn, Ztl, Ztm, Ztn, Zto, Ztp, Ztq, Zsf, Zkl, Zkm, ZmJ, Zkp, Zkq, Zkn, Zko, ZmK, Zks, Zkr, ZmM, ZmL, Zph, decide_eq_true, decide_eq_false, wF1, wF2, wF3, wF4, Zu, ZoO, ZtZ, Zt0, Zt1, Zt2, Zt3, Zt4, ZtX, ZtY, Zq7, Zq8, Zq9, Zo0, Zra, Zrb, Zrc, Zt6, Zt7, Zt8, Zt9, Zo1, Zo3, Zo4, Zri, Zrj, Zrk, Zo5, Zo6, ZmI, Zo8, Zo9, Zkk, Zrw, Zrx, Zry, Zrz, id, roB, kpR, cond_true, cond_false, at0, at1, at2, at3, gTp, gCs, gNl, gNm, List.set_cons_zero, List.set_cons_succ, List.getElem?_cons_zero, List.getElem?_cons_succ, List.length_cons, List.length_nil, List.length_append, List.length_map, List.map_cons, List.map_nil, List.cons_append, List.nil_append, List.append_assoc, List.append_nil, List.replicate_succ, List.replicate_zero, Option.join_some, Option.isSome_some, Zdx, Zk8, Zbk, Zk9, Zrs, Zpa, Zpb, Zad, Zdy, Zrt, Zue, Zuf, Zpe, Zrv, Zpf, Zpg, Zpi, Zpj, Zpk, Zpl, Zpm, Zpn, Zpo, Zpp, Zpq, Zpr, Zps, Zpt, true_and, and_true, Bool.not_true, Bool.not_false, decide_true, decide_false, Nat.reduceAdd, Nat.reduceLeDiff, Nat.reduceLT, Nat.add_zero, Nat.zero_add, Int.reducePow, Int.reduceToNat, Int.reduceNeg, Int.reduceMod, Int.reduceDiv, Int.reduceAdd, Int.reduceSub, Int.reduceMul, Int.cast_ofNat_Int, Int.reduceEq, Int.reduceLT, Int.reduceLE, $ls,*])
set_option hygiene true
section
namespace CC
open PySem PySem.Spec L2 DL
section
variable {Q:D->Sto->Prop} {E:Str->Sto->Prop} {M:Sto} {a b c d i:Int} {n:Nat} {rs:List Pt}
theorem ZdA (ha: -(18446744073709551616) < a/\a < 18446744073709551616) (hb: -(18446744073709551616) < b/\b < 18446744073709551616):wO (F_crossed [pr a b,pr c d] M) Q E=Q (.int (a * d - b * c)) M:=by
 simp![F_crossed,ZbK]
theorem Zcb (h:M[n]?=some (.lst (prs rs))) (hi:0<=i/\i < rs.length):wO (F_following [.ref n,.int i] M) Q E=Q (pr (cy rs (i + 1)).1 (cy rs (i + 1)).2) M:=by
 have e:=ZaA (i:=i + 1) (m:=rs.length) (by omega)
 simp![F_following,ZaE,h,ZgS,Zd3]
theorem Zew {rs:List Pt} {i:Nat} (h:i < (prs rs).length):(prs rs)[i]=pr (cy rs i).1 (cy rs i).2:=by
 have h':i < rs.length:=by rw[Zad] at h;exact h
 rw[Zfj h']
 simp[prs]
theorem Nr.big {b:Int} {rs:List Pt} (h:Nr b rs) (hb:b<=18446744073709551615) (hn:rs≠[]) (i:Int):(-(18446744073709551616) < (cy rs i).1/\(cy rs i).1 < 18446744073709551616)/\(-(18446744073709551616) < (cy rs i).2/\(cy rs i).2 < 18446744073709551616):=by
 have:=Nr.cy h hn i
 omega
theorem Zf2 (h:M[n]?=some (.lst (prs rs))) (hs:Smo rs) (hb:Nr 18446744073709551615 rs) (k:Q .non M):wO (F_unspanned [.ref n] M) Q E:=by
 simp![F_unspanned,ZaF]
 refine ZiQ (fun i ρ M'=>M'=M/\ ∃ x y,ρ=[some (.ref n),x,y]) h ⟨rfl,_,_,rfl⟩ (fun i ρ M' hI=>by rw[hI.1];exact h) ?_ ?_
 ·rintro i ρ M' hi ⟨rfl,x,y,rfl⟩
  have b1:=Nr.big hb (by decide) hs.ne i
  have o1:=hs.one i
  have hi':i < rs.length:=by rw[Zad] at hi;exact hi
  rw[Zew]
  simp![Z3,Zcb h,ZdA]
  unfold X at o1
  rw[o1]
  simp![Zu]
  exact ⟨_,_,rfl⟩
 ·rintro ρ M' ⟨rfl,x,y,rfl⟩
  simp![Zu]
  exact k
theorem ZcW (h:M[n]?=some (.lst (prs rs))) (hs:Smo rs) (hb:Nr 18446744073709551615 rs) (k:Q .non M):wO (F_ask_smooth [.ref n] M) Q E:=by
 simp![F_ask_smooth,Zas]
 refine Zf2 h hs hb ?_
 simp![Zu]
 exact k
theorem ZdB {w a b:Pt} {p q:Int} (h1:X a w=p) (h2:X w b=q):in1 w a b=if 0<=p/\0 < q then 1 else 0:=by unfold in1;rw[h1,h2]
theorem ZdC {w a b:Pt} {p q:Int} (h1:X a w=p) (h2:X w b=q):in2 w a b=if 0 < p/\0<=q then 1 else 0:=by unfold in2;rw[h1,h2]
theorem ZuK:Fan [(1,0),(0,1),(-1,-1)]:=by
 rintro ⟨x,y⟩ hw
 have hw': ¬ (x=0/\y=0):=fun z=>hw (by rw[z.1,z.2])
 have a1:X (1,0) (x,y)=y:=by simp[X]
 have a2:X (0,1) (x,y)= -x:=by simp[X]
 have a3:X (-1,-1) (x,y)=x - y:=by simp[X];omega
 have b1:X (x,y) (0,1)=x:=by simp[X]
 have b2:X (x,y) (-1,-1)=y - x:=by simp[X];omega
 have b3:X (x,y) (1,0)= -y:=by simp[X]
 simp only[cyc,List.take_succ_cons,List.take_zero,List.cons_append,List.nil_append,cc]
 rw[ZdB a1 b1,ZdB a2 b2,ZdB a3 b3,ZdC a1 b1,ZdC a2 b2,ZdC a3 b3]
 clear a1 a2 a3 b1 b2 b3 hw
 constructor
 all_goals
  repeat' split
  all_goals omega
theorem ZuL (f:Int):Fan [(1,0),(0,1),(-1,f),(0,-1)]:=by
 rintro ⟨x,y⟩ hw
 have hw': ¬ (x=0/\y=0):=fun z=>hw (by rw[z.1,z.2])
 have h0:x=0->x * f=0:=fun z=>by rw[z,Int.zero_mul]
 have a1:X (1,0) (x,y)=y:=by simp[X]
 have a2:X (0,1) (x,y)= -x:=by simp[X]
 have a3:X (-1,f) (x,y)= -y - x * f:=by unfold X;simp only;grind
 have a4:X (0,-1) (x,y)=x:=by simp[X]
 have b1:X (x,y) (0,1)=x:=by simp[X]
 have b2:X (x,y) (-1,f)=x * f + y:=by unfold X;simp only;grind
 have b3:X (x,y) (0,-1)= -x:=by simp[X]
 have b4:X (x,y) (1,0)= -y:=by simp[X]
 simp only[cyc,List.take_succ_cons,List.take_zero,List.cons_append,List.nil_append,cc]
 rw[ZdB a1 b1,ZdB a2 b2,ZdB a3 b3,ZdB a4 b4,ZdC a1 b1,ZdC a2 b2,ZdC a3 b3,ZdC a4 b4]
 clear a1 a2 a3 a4 b1 b2 b3 b4 hw
 generalize x * f=z at *
 constructor
 all_goals
  repeat' split
  all_goals omega
theorem ZuM:Smo [(1,0),(0,1),(-1,-1)]:=by
 refine ⟨by decide,Zeu (P:=fun a b=>X a b=1) (by decide) ?_,ZuK⟩
 intro i h0 h1
 have:i=0\/i=1\/i=2:=by simp at h1;omega
 rcases this with rfl | rfl | rfl<;>rfl
theorem ZuN (f:Int):Smo [(1,0),(0,1),(-1,f),(0,-1)]:=by
 refine ⟨by simp,Zeu (P:=fun a b=>X a b=1) (by simp) ?_,ZuL f⟩
 intro i h0 h1
 have:i=0\/i=1\/i=2\/i=3:=by simp at h1;omega
 rcases this with rfl | rfl | rfl | rfl<;>simp[X,cy]
end
end CC
end
section
namespace DL
noncomputable def T (rs:List Pt) (i:Int):Int:=0 - X (cy rs (i - 1)) (cy rs (i + 1))
noncomputable def Zcc (rs:List Pt):List Int:=(List.range rs.length).map fun (i:Nat)=>T rs i
section
variable {rs:List Pt} {k:Nat} {p:Pt} {j:Int}
theorem Zfl:(Zcc rs).length=rs.length:=by simp[Zcc]
end
end DL
namespace CC
open PySem PySem.Spec L2 DL
section
variable {Q:D->Sto->Prop} {E:Str->Sto->Prop} {M:Sto} {a b c d i:Int} {n:Nat} {rs:List Pt}
end
end CC
end
section
namespace DL
section
variable {rs:List Pt} {k:Nat} {p:Pt} {j:Int}
theorem Zli (p q:Pt):X p q=0 - X q p:=by unfold X;grind
end
end DL
end
section
namespace DL
noncomputable def nm (p:Pt):Int:=p.1 * p.1 + p.2 * p.2
end DL
namespace DL
section
variable {rs:List Pt} {k:Nat}
end
end DL
end
section
namespace CE
open PySem PySem.Spec L2 DL
noncomputable def ZbK:Sv:=(Zag (e2 dSub (e2 dMul (e2 dIx (Zh 0) (eC (.int 0))) (e2 dIx (Zh 1) (eC (.int 1)))) (e2 dMul (e2 dIx (Zh 0) (eC (.int 1))) (e2 dIx (Zh 1) (eC (.int 0))))))
noncomputable def F_crossed:List D->Sto->Out D:=fnF ZbK 2 0
noncomputable def ZaE:Sv:=(Zag (e2 dIx (Zh 0) (e2 dMod (e2 dAdd (Zh 1) (eC (.int 1))) (Zk bLen (Zc (Zh 0) aNil)))))
noncomputable def F_following:List D->Sto->Out D:=fnF ZaE 2 0
noncomputable def Z3:Sv:=(sIf (tv (e2 dNe (Zk F_crossed (Zc (Zh 2) (Zc (Zk F_following (Zc (Zh 0) (Zc (Zh 1) aNil))) aNil))) (eC (.int 1)))) (Zag (Zh 1)) sNil)
noncomputable def ZaF:Sv:=(ZC (ZdO (gTp (gCs (gNm 1) (gCs (gNm 2) gNl))) (iEn (Zc (Zh 0) aNil)) Z3)
 (Zag (eC .non)))
noncomputable def F_unspanned:List D->Sto->Out D:=fnF ZaF 1 2
noncomputable def Zas:Sv:=(ZC (ZQ (gNm 1) (Zk F_unspanned (Zc (Zh 0) aNil)))
 (sIf (tv (e2 dIsNot (Zh 1) (eC .non))) (ZbH (PySem.Str.ofString "NotSmooth") (Zc (eFs (Zb9 (eC (.str (PySem.Str.ofString "ray "))) (Zb9 (eFm (Zh 1)) (Zb9 (eC (.str (PySem.Str.ofString " does not cross the next one in 1"))) jNil)))) aNil)) sNil))
noncomputable def F_ask_smooth:List D->Sto->Out D:=fnF Zas 1 1
noncomputable def Zcu:Sv:=(ZC (Zb0 (Zk F_ask_smooth (Zc (Zh 0) aNil)))
 (Zag (Zay (iR1 (Zc (Zk bLen (Zc (Zh 0) aNil)) aNil)) 1 [0] (gNm 0) (fun _ M=> .ok true M) (Zk F_crossed (Zc (Zk F_following (Zc (Zh 1) (Zc (Zh 0) aNil))) (Zc (e2 dIx (Zh 1) (e2 dSub (Zh 0) (eC (.int 1)))) aNil))))))
noncomputable def F_numbers:List D->Sto->Out D:=fnF Zcu 1 0
end CE
end
section
namespace CE
open PySem PySem.Spec L2 DL
theorem ZiV:F_crossed=CC.F_crossed:=rfl
theorem Zf3:F_following=CC.F_following:=rfl
theorem ZcX:F_ask_smooth=CC.F_ask_smooth:=rfl
section
variable {Q:D->Sto->Prop} {E:Str->Sto->Prop} {M:Sto} {a b c d i:Int} {n:Nat} {rs:List Pt}
theorem Zfm (h:M[n]?=some (.lst (prs rs))) (hs:Smo rs) (hl:rs.length<=1000000) (hb:Nr 18446744073709551615 rs) (q:Q (.ref M.length) (M ++ [.lst (nts (Zcc rs))])):wO (F_numbers [.ref n] M) Q E:=by
 have hm:=ZM h
 have hn:=hs.len
 simp![F_numbers,Zcu,ZcX]
 refine CC.ZcW h hs hb ?_
 simp![h]
 refine ⟨by omega,?_⟩
 rw[show ((rs.length:Int)).toNat=rs.length by omega]
 refine ZuJ (fun ρ=> ∃ x,ρ=[x,some (.ref n)]) (fun (i:Nat)=> .int (T rs i)) (by omega) ⟨_,rfl⟩ ?_ (by rw[ZiR];exact q)
 rintro i hi ρ L ⟨x,rfl⟩
 have b1:=CC.Nr.big hb (by decide) hs.ne (i + 1)
 have hL:(M ++ L)[n]?=some (.lst (prs rs)):=by rw[Zbk hm];exact h
 simp![Zf3,ZiV,CC.Zcb hL,h,ZgS,CC.ZdA]
 refine ⟨⟨_,rfl⟩,?_⟩
 unfold T
 rw[<- Zli]
 rfl
end
end CE
end
section
namespace CF
open PySem PySem.Spec L2 DL CC
end CF
end
section
namespace CF
open PySem PySem.Spec L2 DL
noncomputable abbrev ZgU:Str:=PySem.Str.ofString "NotSmooth"
section
variable {Q:D->Sto->Prop} {E:Str->Sto->Prop} {M:Sto} {a b c d i:Int} {n:Nat} {rs:List Pt}
noncomputable def Rgh (rs:List Pt):Prop:= ∃ i:Nat,i < rs.length/\X (cy rs i) (cy rs (i + 1))≠1
theorem Rgh.ne (h:Rgh rs):rs≠[]:=by
 obtain ⟨i,hi,_⟩:=h
 intro z
 rw[z] at hi
 simp at hi
theorem Zf4 (h:M[n]?=some (.lst (prs rs))) (hs:Rgh rs) (hb:Nr 18446744073709551615 rs) (k: ∀ j:Nat,j < rs.length->Q (.int j) M):wO (CC.F_unspanned [.ref n] M) Q E:=by
 simp![CC.F_unspanned,CC.ZaF]
 refine ZiQ (fun i ρ M'=>M'=M/\(∃ x y,ρ=[some (.ref n),x,y])/\ ∀ j:Nat,j < i->X (cy rs j) (cy rs (j + 1))=1) h ⟨rfl,⟨_,_,rfl⟩,by intro j hj;omega⟩ (fun i ρ M' hI=>by rw[hI.1];exact h) ?_ ?_
 ·rintro i ρ M hi ⟨rfl,⟨x,y,rfl⟩,hj⟩
  have b1:=CC.Nr.big hb (by decide) hs.ne i
  have hi':i < rs.length:=by rw[Zad] at hi;exact hi
  rw[CC.Zew]
  simp![CC.Z3,CC.Zcb h,CC.ZdA]
  refine Zuu (fun z=> ?_) (fun z=> ?_)
  ·simp![Zu]
   exact k i hi'
  ·simp![Zu]
   refine ⟨⟨_,_,rfl⟩,fun j hj'=> ?_⟩
   by_cases c:j=i
   ·subst c;exact z
   ·exact hj j (by omega)
 ·rintro ρ M ⟨rfl,⟨x,y,rfl⟩,hj⟩
  obtain ⟨i,hi,hx⟩:=hs
  exact absurd (hj i (by rw[Zad];exact hi)) hx
theorem ZmZ:(PySem.Str.ofString "ray ").length<=1000:=by rw[PySem.ofString_length];exact (by decide:(4:Nat)<=1000)
theorem Zm0:(PySem.Str.ofString " does not cross the next one in 1").length<=1000:=by rw[PySem.ofString_length];exact (by decide:(33:Nat)<=1000)
theorem ZbL (h:M[n]?=some (.lst (prs rs))) (hs:Rgh rs) (hb:Nr 18446744073709551615 rs) (hl:rs.length<=1000) (k:E ZgU M):wO (CC.F_ask_smooth [.ref n] M) Q E:=by
 simp![CC.F_ask_smooth,CC.Zas]
 refine Zf4 h hs hb fun j hj=> ?_
 simp![Zu]
 refine ZsK ?_ ?_
 ·refine Zpw ?_ ?_ ?_
  ·exact ZmZ
  ·omega
  refine ZrA (i:=j) ?_ ?_ ?_ ?_
  ·rfl
  ·omega
  ·omega
  refine Zpw ?_ ?_ ?_
  ·exact Zm0
  ·omega
  exact Zlc (by omega)
 intro x
 simp![Zu]
 exact k
theorem ZiW (h:M[n]?=some (.lst (prs rs))) (hs:Rgh rs) (hb:Nr 18446744073709551615 rs) (hl:rs.length<=1000) (k:E ZgU M):wO (CE.F_numbers [.ref n] M) Q E:=by
 simp![CE.F_numbers,CE.Zcu,CE.ZcX]
 exact ZbL h hs hb hl k
end
end CF
end
section
namespace DL
open PySem PySem.Spec L2 DL
section
variable {M:Sto}
theorem Zsn {k:Nat} {a b:Str}:eqF (k + 1) M (.str a) (.str b)=some (a == b):=rfl
end
end DL
end
section
namespace CB
open PySem PySem.Spec L2 DL
noncomputable def Zcd:Sv:=(ZC (ZQ (gNm 2) (eC (.int 0)))
 (ZC (sIf (tv (e2 dLt (Zh 1) (Zk bLen (Zc (Zh 0) aNil)))) (ZQ (gNm 2) (e2 dIx (Zh 0) (Zh 1))) sNil)
 (ZC (ZQ (gNm 3) (e2 dMod (Zh 2) (e2 dMul (e2 dPow (eC (.int 10)) (eC (.int 60))) (e2 dPow (eC (.int 10)) (eC (.int 30))))))
 (Zag (Zbn (Zc (e2 dMul (Zh 3) (Zk bInt (Zc (e2 dGe (Zh 3) (e2 dPow (eC (.int 10)) (eC (.int 18)))) aNil))) (Zc (e2 dAdd (e2 dAdd (e2 dMod (Zh 2) (eC (.int 2147483647))) (e2 dMul (eC (.int 7919)) (Zh 1))) (eC (.int 1))) aNil)))))))
noncomputable def F_law_purse:List D->Sto->Out D:=fnF Zcd 2 2
noncomputable def ZcJ:Sv:=(ZC (sIf (tv (e2 dGt (e2 dIx (Zh 0) (eC (.int 0))) (eC (.int 0)))) (ZC (ZQ (gNm 2) (e2 dMod (e2 dIx (Zh 0) (eC (.int 0))) (Zh 1)))
 (ZC (ZjP (Zh 0) (eC (.int 0)) (e2 dDiv (e2 dIx (Zh 0) (eC (.int 0))) (Zh 1)))
 (Zag (Zh 2)))) sNil)
 (ZC (ZjP (Zh 0) (eC (.int 1)) (e2 dMod (e2 dAdd (e2 dMul (e2 dIx (Zh 0) (eC (.int 1))) (eC (.int 48271))) (eC (.int 12345))) (eC (.int 2147483647))))
 (Zag (e2 dMod (e2 dDiv (e2 dMod (e2 dMul (e2 dIx (Zh 0) (eC (.int 1))) (eC (.int 69621))) (eC (.int 2147483629))) (eC (.int 5))) (Zh 1)))))
noncomputable def F_law_take:List D->Sto->Out D:=fnF ZcJ 2 1
end CB
end
section
namespace DL
noncomputable def hj (t b:Int):List Int:=if h:0 < b then -((-t) / b) :: hj b (-((-t) / b) * b - t) else []
termination_by b.toNat
decreasing_by
 have h1:=Int.emod_nonneg (-t) (show b≠0 by omega)
 have h2:=Int.emod_lt_of_pos (-t) h
 have h3:=Int.emod_add_mul_ediv (-t) b
 rw[Int.neg_mul,Int.mul_comm]
 omega
end DL
namespace CB
open PySem PySem.Spec L2 DL
section
variable {Q:D->Sto->Prop} {E:Str->Sto->Prop} {M:Sto} {a b c d i:Int} {n m:Nat} {u v w:Pt}
structure Fb (u v w:Pt):Prop where
 one:X u w=1
 lo:0<=X w v
 hi:X w v < X u v
theorem Fb.uniq {w w':Pt} (h:Fb u v w) (k:Fb u v w'):w=w':=by
 obtain ⟨h1,a1,a2⟩:=h
 obtain ⟨h2,b1,b2⟩:=k
 have e1:w'.1=X w' w * u.1 + w.1/\w'.2=X w' w * u.2 + w.2:=by unfold X at *;constructor<;>grind
 have e2:X w' v=X w' w * X u v + X w v:=by
  have:X w' v=X (X w' w * u.1 + w.1,X w' w * u.2 + w.2) v:=by rw[<- e1.1,<- e1.2]
  rw[this]
  unfold X
  simp only
  grind
 generalize X w' w=k at *
 have k0:k=0:=by
  apply Classical.byContradiction
  intro c
  by_cases p:1<=k
  ·have:1 * X u v<=k * X u v:=Int.mul_le_mul_of_nonneg_right p (by omega)
   omega
  ·have:k * X u v<=(-1) * X u v:=Int.mul_le_mul_of_nonneg_right (by omega) (by omega)
   omega
 rw[k0] at e1
 apply Prod.ext<;>omega
noncomputable def btw:Pt->Pt->List Int->List Pt
 |_,_,[]=>[]
 |a,r,k :: ks=>r :: btw r (k * r.1 - a.1,k * r.2 - a.2) ks
end
end CB
end
section
namespace CB
open PySem PySem.Spec L2 DL
section
variable {Q:D->Sto->Prop} {E:Str->Sto->Prop} {M:Sto} {a b c d i:Int} {n m:Nat} {u v w:Pt}
theorem ZiX {ns:List Int} {k:Nat} (hk:k < 1000) (q: ∀ a b:Int,0<=a->Q (.ref M.length) (M ++ [.lst [.int a,.int b]])):wO (F_law_purse [.rol (ns.map D.int),.int k] M) Q E:=by
 have big:ZO 1000000000000000000000000000000000000000000000000000000000000 1000000000000000000000000000000:=Zaq 300 300 (by decide +kernel) (by decide +kernel) (by decide) (by decide)
 simp![F_law_purse,Zcd]
 refine brS (fun h1=> ?_) (fun h1=> ?_)
 ·have h2:k < ns.length:=by simpa using h1
  simp![Zkh h2,ZbJ big]
  obtain ⟨l,hl,l0⟩: ∃ l:Int,ns[k] % 1000000000000000000000000000000000000000000000000000000000000000000000000000000000000000000=l/\0<=l:=⟨_,rfl,by omega⟩
  rw[hl]
  refine q _ _ ?_
  split<;>omega
 ·simp![ZbJ big]
  exact q _ _ (by omega)
theorem ZaB {t:Int} (hb:Bag n M) (ht:0 < t/\t < 18446744073709551616) (q: ∀ r M',0<=r->r < t->Gr n M M'->Q (.int r) M'):wO (F_law_take [.ref n,.int t] M) Q E:=by
 obtain ⟨a,b,ha,e⟩:=hb
 have hl:n < M.length:=ZM e
 have hs: ∀ x,(M.set n x)[n]?=some x:=fun x=>List.getElem?_set_self hl
 have gr: ∀ a' b',0<=a'->Gr n M (M.set n (.lst [.int a',.int b'])):=fun a' b' h=>⟨by simp,⟨a',b',h,hs _⟩,fun k hk _=>by rw[List.getElem?_set_ne (Ne.symm hk)]⟩
 have m1:=Int.emod_nonneg a (show t≠0 by omega)
 have m2:=Int.emod_lt_of_pos a ht.1
 simp![F_law_take,ZcJ,e]
 refine brS (fun h1=> ?_) (fun h1=> ?_)
 ·simp![e,ix0]
  exact q _ _ m1 m2 (gr _ _ (Int.ediv_nonneg ha (by omega)))
 ·simp![e,ix1]
  exact q _ _ (Int.emod_nonneg _ (by omega)) (Int.emod_lt_of_pos _ ht.1) (gr _ _ ha)
noncomputable def Ch:List Pt->Prop
 |a :: b :: r=>X a b=1/\Ch (b :: r)
 |_=>True
noncomputable def Tr (a b d:Pt):Prop:= ∃ k:Int,2<=k/\a.1 + d.1=k * b.1/\a.2 + d.2=k * b.2
noncomputable def Cv:List Pt->Prop
 |a :: b :: d :: r=>Tr a b d/\Cv (b :: d :: r)
 |_=>True
end
section
variable {u v w:Pt}
end
end CB
end
section
namespace CA
open PySem PySem.Spec L2 DL
end CA
end
section
namespace CA
open PySem PySem.Spec L2 DL
structure Tn (B a b c d:Int):Prop where
 fa: -B<=a/\a<=B
 fb: -B<=b/\b<=B
 fc: -B<=c/\c<=B
 fd: -B<=d/\d<=B
 det:a * d - b * c=1\/a * d - b * c= -1
theorem Zjn {B C x y:Int} (hx: -B<=x/\x<=B) (hy: -C<=y/\y<=C): -(B * C)<=x * y/\x * y<=B * C:=by
 have h:(x * y).natAbs<=(B * C).natAbs:=by
  rw[Int.natAbs_mul,Int.natAbs_mul]
  exact Nat.mul_le_mul (by omega) (by omega)
 have:0<=B * C:=Int.mul_nonneg (by omega) (by omega)
 omega
section
variable {Q:D->Sto->Prop} {E:Str->Sto->Prop} {M:Sto} {a b c d i:Int} {n m:Nat} {rs:List Pt}
theorem Zlj (h:rs≠[]) (i:Int):cy rs.reverse i=cy rs (-1 - i):=by
 have hl:rs.length≠0:=by simpa using h
 have e1:cy rs.reverse i=cy rs.reverse (i % rs.length):=by
  conv=>rhs;rw[<- List.length_reverse (as:=rs),Zd3]
 have e2:cy rs (-1 - i)=cy rs (-1 - i % rs.length):=by
  unfold cy
  congr 2
  rw[Int.sub_emod,Int.sub_emod (-1) (i % rs.length),Int.emod_emod_of_dvd _ (Int.dvd_refl _)]
 rw[e1,e2]
 obtain ⟨a,b⟩:=ZaA (i:=i) hl
 generalize i % (rs.length:Int)=m at *
 rw[Zca (by rw[List.length_reverse];omega),<- Zpd (rs:=rs),Zca (by omega)]
 rw[List.getD_eq_getElem?_getD,List.getD_eq_getElem?_getD,List.getElem?_reverse (by omega)]
 congr 2
 omega
theorem Zm1 (hl:3<=rs.length) (h: ∀ i:Int,X (cy rs i) (cy rs (i + 1))= -1) (hf:Fan rs.reverse):Smo rs.reverse:=by
 have ne:rs≠[]:=by intro z;rw[z] at hl;simp at hl
 refine ⟨by rw[List.length_reverse];exact hl,fun i=> ?_,hf⟩
 rw[Zlj ne,Zlj ne,Zli]
 have:=h (-1 - (i + 1))
 rw[show -1 - (i + 1) + 1= -1 - i by omega] at this
 omega
theorem Gr.up {k:Nat} {M M1:Sto} {o:SO} (h:M[k]?=some o) (g:Gr n M M1) (hk:k≠n):M1[k]?=some o:=by
 rw[g.keep k hk (ZM h)]
 exact h
end
end CA
end
section
namespace CY
open PySem PySem.Spec L2 DL CA
end CY
end
section
namespace CY
open PySem PySem.Spec L2 DL
section
variable {Q:D->Sto->Prop} {E:Str->Sto->Prop} {M:Sto} {n m:Nat} {rs:List Pt}
theorem Gr.of {M M':Sto} (hb:Bag n M) (l:M.length<=M'.length) (g: ∀ k,k < M.length->M'[k]?=M[k]?):Gr n M M':=by
 refine ⟨l,?_,fun k _ hk=>g k hk⟩
 obtain ⟨a,b,h,e⟩:=id hb
 exact ⟨a,b,h,(g n hb.lt).trans e⟩
end
end CY
end
section
namespace CR
open PySem PySem.Spec L2 DL
noncomputable def ZcK:Sv:=(Zag (Zg8 (Znq "int" (Zh 0)) (Zh4 (Znq "bool" (Zh 0)))))
noncomputable def F_is_whole:List D->Sto->Out D:=fnF ZcK 1 0
noncomputable def ZaS:Sv:=(ZfD 2 3 (Zc (Zh 3) (Zc (e2 dMod (Zh 2) (Zh 3)) aNil)))
noncomputable def Zbf:Sv:=(ZC (ZfD 2 3 (Zc (Zk bAbs (Zc (Zh 0) aNil)) (Zc (Zk bAbs (Zc (Zh 1) aNil)) aNil)))
 (ZC (sWh (tv (e2 dNe (Zh 3) (eC (.int 0)))) ZaS)
 (Zag (Zh 2))))
noncomputable def F_greatest_divisor:List D->Sto->Out D:=fnF Zbf 2 2
noncomputable def Zf5:Sv:=(ZC (sIf (Zht (ZbZ (tv (Zk F_is_whole (Zc (Zh 0) aNil)))) (ZbZ (tv (Zk F_is_whole (Zc (Zh 1) aNil))))) (ZbH (PySem.Str.ofString "NoRatio") (Zc (eC (.str (PySem.Str.ofString "a ratio is made of two whole numbers"))) aNil)) sNil)
 (ZC (sIf (tv (e2 dEq (Zh 1) (eC (.int 0)))) (ZbH (PySem.Str.ofString "NoRatio") (Zc (eC (.str (PySem.Str.ofString "the bottom of a ratio is not 0"))) aNil)) sNil)
 (ZC (ZQ (gNm 2) (Zk F_greatest_divisor (Zc (Zh 0) (Zc (Zh 1) aNil))))
 (ZC (sIf (tv (e2 dLt (Zh 1) (eC (.int 0)))) (ZQ (gNm 2) (Zdo (Zh 2))) sNil)
 (Zag (Zap (Zc (e2 dDiv (Zh 0) (Zh 2)) (Zc (e2 dDiv (Zh 1) (Zh 2)) aNil))))))))
noncomputable def F_ratio:List D->Sto->Out D:=fnF Zf5 2 1
noncomputable def ZiY:Sv:=(Zag (Zk F_ratio (Zc (e2 dAdd (e2 dMul (e2 dIx (Zh 0) (eC (.int 0))) (e2 dIx (Zh 1) (eC (.int 1)))) (e2 dMul (e2 dIx (Zh 1) (eC (.int 0))) (e2 dIx (Zh 0) (eC (.int 1))))) (Zc (e2 dMul (e2 dIx (Zh 0) (eC (.int 1))) (e2 dIx (Zh 1) (eC (.int 1)))) aNil))))
noncomputable def F_plus:List D->Sto->Out D:=fnF ZiY 2 0
noncomputable def Zf6:Sv:=(Zag (Zk F_ratio (Zc (e2 dMul (e2 dIx (Zh 0) (eC (.int 0))) (e2 dIx (Zh 1) (eC (.int 0)))) (Zc (e2 dMul (e2 dIx (Zh 0) (eC (.int 1))) (e2 dIx (Zh 1) (eC (.int 1)))) aNil))))
noncomputable def F_times:List D->Sto->Out D:=fnF Zf6 2 0
end CR
end
section
namespace CR
open PySem PySem.Spec L2 DL
noncomputable abbrev rt (q:Rat):D:=pr q.num (q.den:Int)
noncomputable def Sz (k:Nat) (q:Rat):Prop:=q.num.natAbs < 2 ^ k/\q.den < 2 ^ k
theorem Zso:F_greatest_divisor=FGcd:=rfl
section
variable {Q:D->Sto->Prop} {E:Str->Sto->Prop} {M:Sto} {k l:Nat} {p q:Rat}
theorem Zlk {i j:Int} (h:0 < j) (hk:j.natAbs < 2 ^ k) (hk2:k<=8000):wO (dDiv (.int i) (.int j) M) Q E=Q (.int (i / j)) M:=by
 have:Zbi j:=⟨by omega,by
  have:j.natAbs.log2 < k:=(Nat.log2_lt (by omega)).mpr hk
  omega⟩
 show wO (if Zbi j then _ else _) Q E=_
 rw[if_pos this,Int.fdiv_eq_ediv_of_nonneg _ (by omega)];rfl
theorem Zm2 {t:Int} {b:Nat} (hb:b≠0):rt (Rat.normalize t b hb)=pr (t / (Int.gcd t b:Nat)) ((b:Int) / (Int.gcd t b:Nat)):=by
 unfold rt
 rw[Rat.num_normalize,Rat.den_normalize,Int.natCast_ediv]
 rfl
theorem ZpX {t:Int} {b:Nat} (hb:b≠0) (h:b < 2 ^ k):0 < Int.gcd t b/\Int.gcd t b < 2 ^ k:=by
 have h1:Int.gcd t b ∣ b:=Int.gcd_dvd_natAbs_right t b
 have h2:=Nat.le_of_dvd (by omega) h1
 have h3:Int.gcd t b≠0:=fun z=>by
  rw[z] at h1
  exact hb (Nat.eq_zero_of_zero_dvd h1)
 omega
theorem ZiZ {t:Int} {b:Nat} (hb:b≠0) (h:b < 2 ^ k) (hk:k<=8000):wO (F_ratio [.int t,.int b] M) Q E=Q (rt (Rat.normalize t b hb)) M:=by
 obtain ⟨g0,g1⟩:=ZpX (t:=t) hb h
 have gw: ∀ {Q:D->Sto->Prop},wO (FGcd [.int t,.int b] M) Q E=Q (.int (Int.gcd t b:Nat)) M:=by
  intro Q
  rw[ZoJ]
  rfl
 rw[Zm2 hb]
 generalize Int.gcd t b=g at *
 simp![F_ratio,Zf5,F_is_whole,ZcK,Zso,gw]
 rw[Zlk (k:=k) (by omega) (by simpa using g1) hk]
 simp![Zu]
 rw[Zlk (k:=k) (by omega) (by simpa using g1) hk]
 simp![Zu]
theorem Zi0 {t:Int} {b:Nat} (hb:b≠0) (ht:t.natAbs < 2 ^ k) (h:b < 2 ^ k):Sz k (Rat.normalize t b hb):=by
 refine ⟨?_,?_⟩
 ·rw[Rat.num_normalize]
  exact Nat.lt_of_le_of_lt (Int.natAbs_ediv_le_natAbs _ _) ht
 ·rw[Rat.den_normalize]
  exact Nat.lt_of_le_of_lt (Nat.div_le_self _ _) h
theorem ZdD {x y:Nat} (hx:x < 2 ^ k) (hy:y < 2 ^ l):x * y < 2 ^ (k + l):=by
 rw[Nat.pow_add]
 exact Nat.mul_lt_mul'' hx hy
theorem Zll (hp:Sz k p) (hq:Sz l q) (hk:k + l<=8000):wO (F_plus [rt p,rt q] M) Q E=Q (rt (p + q)) M:=by
 have nz:p.den * q.den≠0:=Nat.mul_ne_zero p.den_nz q.den_nz
 have f1:ZO p.num (q.den:Int):=Zaq k l hp.1 (by simpa using hq.2) (by omega) (by omega)
 have f2:ZO q.num (p.den:Int):=Zaq l k hq.1 (by simpa using hp.2) (by omega) (by omega)
 have f3:ZO (p.den:Int) (q.den:Int):=Zaq k l (by simpa using hp.2) (by simpa using hq.2) (by omega) (by omega)
 simp![F_plus,ZiY,ZbJ f1,ZbJ f2,ZbJ f3]
 rw[show (p.den:Int) * (q.den:Int)=((p.den * q.den:Nat):Int) by simp,ZiZ nz (ZdD hp.2 hq.2) hk,<- Rat.add_def]
theorem Zm3 (hp:Sz k p) (hq:Sz l q) (hk:k + l<=8000):wO (F_times [rt p,rt q] M) Q E=Q (rt (p * q)) M:=by
 have nz:p.den * q.den≠0:=Nat.mul_ne_zero p.den_nz q.den_nz
 have f1:ZO p.num q.num:=Zaq k l hp.1 hq.1 (by omega) (by omega)
 have f3:ZO (p.den:Int) (q.den:Int):=Zaq k l (by simpa using hp.2) (by simpa using hq.2) (by omega) (by omega)
 simp![F_times,Zf6,ZbJ f1,ZbJ f3]
 rw[show (p.den:Int) * (q.den:Int)=((p.den * q.den:Nat):Int) by simp,ZiZ nz (ZdD hp.2 hq.2) hk,<- Rat.mul_def]
theorem Zlm (hp:Sz k p) (hq:Sz l q):Sz (k + l) (p * q):=by
 rw[Rat.mul_def]
 exact Zi0 _ (by rw[Int.natAbs_mul];exact ZdD hp.1 hq.1) (ZdD hp.2 hq.2)
theorem Zi1 (hp:Sz k p) (hq:Sz l q):Sz (k + l + 1) (p + q):=by
 rw[Rat.add_def]
 have h1:=ZdD hp.1 hq.2
 have h2:=ZdD hq.1 hp.2
 have h3:=ZdD hp.2 hq.2
 rw[Nat.add_comm l k] at h2
 refine Zi0 _ ?_ ?_
 ·have e1:(p.num * (q.den:Int)).natAbs=p.num.natAbs * q.den:=by rw[Int.natAbs_mul];rfl
  have e2:(q.num * (p.den:Int)).natAbs=q.num.natAbs * p.den:=by rw[Int.natAbs_mul];rfl
  have:=Int.natAbs_add_le (p.num * (q.den:Int)) (q.num * (p.den:Int))
  rw[Nat.pow_succ]
  omega
 ·rw[Nat.pow_succ]
  omega
end
end CR
end
section
namespace CH
open PySem PySem.Spec L2 DL CA CR
end CH
end
section
namespace CH
open PySem PySem.Spec L2 DL
open CR (rt Sz)
noncomputable def rts (hs:List Rat):List D:=hs.map rt
theorem ZF {hs:List Rat}:(rts hs).length=hs.length:=List.length_map _
theorem ZaC {hs:List Rat} {q:Rat}:rts hs ++ [rt q]=rts (hs ++ [q]):=by simp[rts]
section
variable {Q:D->Sto->Prop} {E:Str->Sto->Prop} {M:Sto} {n:Nat}
end
end CH
end
section
namespace CS
open PySem PySem.Spec L2 DL CC CR
noncomputable def Zi2:Sv:=(Zag (Zk F_ratio (Zc (e2 dSub (e2 dMul (e2 dIx (Zh 0) (eC (.int 0))) (e2 dIx (Zh 1) (eC (.int 1)))) (e2 dMul (e2 dIx (Zh 1) (eC (.int 0))) (e2 dIx (Zh 0) (eC (.int 1))))) (Zc (e2 dMul (e2 dIx (Zh 0) (eC (.int 1))) (e2 dIx (Zh 1) (eC (.int 1)))) aNil))))
noncomputable def F_minus:List D->Sto->Out D:=fnF Zi2 2 0
noncomputable def ZgV:Sv:=(Zag (Zk F_plus (Zc (Zk F_times (Zc (e2 dIx (Zh 0) (eC (.int 0))) (Zc (Zap (Zc (e2 dIx (Zh 1) (eC (.int 0))) (Zc (eC (.int 1)) aNil))) aNil))) (Zc (Zk F_times (Zc (e2 dIx (Zh 0) (eC (.int 1))) (Zc (Zap (Zc (e2 dIx (Zh 1) (eC (.int 1))) (Zc (eC (.int 1)) aNil))) aNil))) aNil))))
noncomputable def F_sloped:List D->Sto->Out D:=fnF ZgV 2 0
noncomputable def ZbM:Sv:=(ZC (ZQ (gTp (gCs (gTp (gCs (gNm 2) (gCs (gNm 3) gNl))) (gCs (gTp (gCs (gNm 4) (gCs (gNm 5) gNl))) gNl))) (Zap (Zc (e2 dIx (Zh 0) (eC (.int 0))) (Zc (e2 dIx (Zh 0) (eC (.int 1))) aNil))))
 (ZC (ZfD 6 7 (Zc (e2 dIx (Zh 1) (eC (.int 0))) (Zc (e2 dIx (Zh 1) (eC (.int 1))) aNil)))
 (Zag (Zap (Zc (Zk F_minus (Zc (Zk F_times (Zc (Zh 6) (Zc (Zap (Zc (Zh 5) (Zc (eC (.int 1)) aNil))) aNil))) (Zc (Zk F_times (Zc (Zh 7) (Zc (Zap (Zc (Zh 3) (Zc (eC (.int 1)) aNil))) aNil))) aNil))) (Zc (Zk F_minus (Zc (Zk F_times (Zc (Zh 7) (Zc (Zap (Zc (Zh 2) (Zc (eC (.int 1)) aNil))) aNil))) (Zc (Zk F_times (Zc (Zh 6) (Zc (Zap (Zc (Zh 4) (Zc (eC (.int 1)) aNil))) aNil))) aNil))) aNil))))))
noncomputable def F_slope_through:List D->Sto->Out D:=fnF ZbM 2 6
noncomputable def Zbg:Sv:=(sIf (tv (e2 dNe (Zk bLen (Zc (Zh 1) aNil)) (Zk bLen (Zc (Zh 0) aNil)))) (ZbH (PySem.Str.ofString "NoHeight") (Zc (eFs (Zb9 (eC (.str (PySem.Str.ofString "a height of "))) (Zb9 (eFm (Zk bLen (Zc (Zh 0) aNil))) (Zb9 (eC (.str (PySem.Str.ofString " rays has not "))) (Zb9 (eFm (Zk bLen (Zc (Zh 1) aNil))) (Zb9 (eC (.str (PySem.Str.ofString " ratios"))) jNil)))))) aNil)) sNil)
noncomputable def F_ask_height:List D->Sto->Out D:=fnF Zbg 2 0
end CS
end
section
namespace CS
open PySem PySem.Spec L2 DL
open CR (rt Sz)
section
variable {Q:D->Sto->Prop} {E:Str->Sto->Prop} {M:Sto} {k l:Nat} {p q:Rat}
theorem Zi3 (z:Int):pr z 1=rt (z:Rat):=by
 unfold rt
 rw[Rat.num_intCast,Rat.den_intCast]
 rfl
theorem Zfn {z:Int} (h:z.natAbs < 2 ^ k) (hk:1<=k):Sz k (z:Rat):=by
 refine ⟨by rw[Rat.num_intCast];exact h,by rw[Rat.den_intCast];exact Nat.one_lt_two_pow (by omega)⟩
end
end CS
end
section
namespace CN
open PySem PySem.Spec L2 DL
open CE (F_numbers)
open CC (F_following)
open CR (F_plus F_times)
open CS (F_ask_height)
noncomputable def ZcL:Sv:=(ZC (ZQ (gNm 6) (Zk F_plus (Zc (e2 dIx (Zh 1) (e2 dSub (Zh 4) (eC (.int 1)))) (Zc (Zk F_following (Zc (Zh 1) (Zc (Zh 4) aNil))) aNil))))
 (Zb0 (Zjm mApp (Zh 3) (Zc (Zk F_plus (Zc (Zh 6) (Zc (Zk F_times (Zc (Zap (Zc (e2 dIx (Zh 2) (Zh 4)) (Zc (eC (.int 1)) aNil))) (Zc (Zh 5) aNil))) aNil))) aNil))))
noncomputable def ZdE:Sv:=(ZC (ZQ (gNm 2) (Zk F_numbers (Zc (Zh 0) aNil)))
 (ZC (Zb0 (Zk F_ask_height (Zc (Zh 0) (Zc (Zh 1) aNil))))
 (ZC (ZQ (gNm 3) (Zbn aNil))
 (ZC (ZdO (gTp (gCs (gNm 4) (gCs (gNm 5) gNl))) (iEn (Zc (Zh 1) aNil)) ZcL)
 (Zag (Zh 3))))))
noncomputable def F_bends:List D->Sto->Out D:=fnF ZdE 2 5
noncomputable def Zcv:Sv:=(ZQ (gNm 4) (Zk F_plus (Zc (Zh 4) (Zc (Zk F_times (Zc (Zh 5) (Zc (Zh 6) aNil))) aNil))))
noncomputable def Zd5:Sv:=(ZC (ZQ (gNm 3) (Zk F_bends (Zc (Zh 0) (Zc (Zh 2) aNil))))
 (ZC (Zb0 (Zk F_ask_height (Zc (Zh 0) (Zc (Zh 1) aNil))))
 (ZC (ZQ (gNm 4) (Zap (Zc (eC (.int 0)) (Zc (eC (.int 1)) aNil))))
 (ZC (ZdO (gTp (gCs (gNm 5) (gCs (gNm 6) gNl))) (iZp (Zc (Zh 1) (Zc (Zh 3) aNil))) Zcv)
 (Zag (Zh 4))))))
noncomputable def F_crossing:List D->Sto->Out D:=fnF Zd5 3 4
end CN
end
section
namespace CN
open PySem PySem.Spec L2 DL
open CR (rt Sz)
open CH (rts ZF ZaC)
noncomputable def cq (hs:List Rat) (i:Int):Rat:=hs.getD (i % hs.length).toNat 0
theorem Zln {hs:List Rat} {i:Int} (h: -(hs.length:Int)<=i/\i < hs.length):atI (rts hs) i=some (rt (cq hs i)):=by
 unfold atI
 rw[ZF,ZiP h]
 have hp:(i % hs.length).toNat < hs.length:=by
  have:=Int.emod_lt_of_pos i (show (0:Int) < hs.length by omega)
  have:=Int.emod_nonneg i (show (hs.length:Int)≠0 by omega)
  omega
 simp[rts,cq,List.getElem?_eq_getElem hp]
theorem Zlo {hs:List Rat} {i:Int}:cq hs (i % hs.length)=cq hs i:=by unfold cq;rw[Int.emod_emod_of_dvd _ (Int.dvd_refl _)]
theorem Zi4 {hs:List Rat} {k:Nat} (h:k < hs.length):cq hs k=hs[k]:=by
 unfold cq
 rw[Int.emod_eq_of_lt (by omega) (by omega)]
 simp[List.getElem?_eq_getElem h]
theorem Zi5 {hs:List Rat} {k:Nat} {i:Int} (h: ∀ x∈hs,Sz k x) (hn:hs.length≠0):Sz k (cq hs i):=by
 unfold cq
 have:=(ZaA (i:=i) hn).1
 rw[List.getD_eq_getElem?_getD,List.getElem?_eq_getElem this]
 exact h _ (List.getElem_mem this)
theorem Zf7 {hs:List Rat} {i:Nat} (h:i < (rts hs).length):(rts hs)[i]=rt (cq hs i):=by
 rw[ZF] at h
 rw[Zi4 h]
 simp[rts]
noncomputable def bnd (rs:List Pt) (hs:List Rat) (i:Int):Rat:=cq hs (i - 1) + cq hs (i + 1) + (T rs i:Rat) * cq hs i
noncomputable def bds (rs:List Pt) (hs:List Rat) (n:Nat):List Rat:=(List.range n).map fun (i:Nat)=>bnd rs hs i
theorem ZcM {rs:List Pt} {hs:List Rat} {n:Nat}:(bds rs hs n).length=n:=by simp[bds]
theorem Zku {rs:List Pt} {hs:List Rat} {n:Nat}:bds rs hs (n + 1)=bds rs hs n ++ [bnd rs hs n]:=by simp[bds,List.range_succ]
section
variable {Q:D->Sto->Prop} {E:Str->Sto->Prop} {M:Sto} {k l:Nat} {p q:Rat} {n m:Nat} {rs:List Pt} {hs:List Rat} {i:Int}
theorem Zsp (hb:Nr 200 rs) (hn:rs≠[]):(T rs i).natAbs < 2 ^ 17:=by
 have a:=hb _ (Zfk (i:=i - 1) hn)
 have b:=hb _ (Zfk (i:=i + 1) hn)
 unfold T X
 have h (x y:Int) (hx: -200<=x/\x<=200) (hy: -200<=y/\y<=200): -40000<=x * y/\x * y<=40000:=by
  have:(x * y).natAbs<=200 * 200:=by rw[Int.natAbs_mul];exact Nat.mul_le_mul (by omega) (by omega)
  omega
 have h1:=h _ _ a.1 b.2
 have h2:=h _ _ a.2 b.1
 have h3:=h _ _ b.1 a.2
 have h4:=h _ _ b.2 a.1
 omega
theorem ZpY (hb:Nr 200 rs) (hn:rs≠[]) (hh:hs.length≠0) (hz: ∀ x∈hs,Sz k x):Sz (3 * k + 19) (bnd rs hs i):=by
 have:=CR.Zi1 (CR.Zi1 (Zi5 (i:=i - 1) hz hh) (Zi5 (i:=i + 1) hz hh)) (CR.Zlm (CS.Zfn (Zsp (i:=i) hb hn) (by decide)) (Zi5 (i:=i) hz hh))
 rw[show k + k + 1 + (17 + k) + 1=3 * k + 19 by omega] at this
 exact this
theorem ZpZ (h:M[n]?=some (.lst (rts hs))) (hi:0<=i/\i < hs.length):wO (CC.F_following [.ref n,.int i] M) Q E=Q (rt (cq hs (i + 1))) M:=by
 have e:=ZaA (i:=i + 1) (m:=hs.length) (by omega)
 simp![CC.F_following,CC.ZaE,h,Zln,Zlo,ZF]
theorem Zfo (h:M[n]?=some (.lst (prs rs))) (h':M[m]?=some (.lst (rts hs))) (e:hs.length=rs.length) (q:Q .non M):wO (CS.F_ask_height [.ref n,.ref m] M) Q E:=by
 simp![CS.F_ask_height,CS.Zbg,h,h',ZF,e]
 exact q
theorem Zm4 (h:M[n]?=some (.lst (prs rs))) (hs':Smo rs) (hl:rs.length<=1000) (hb:Nr 200 rs) (h':M[m]?=some (.lst (rts hs))) (e:hs.length=rs.length) (hz: ∀ x∈hs,Sz k x) (hk:k<=2000) (q: ∀ m' M',M.length<=m'->M'[m']?=some (.lst (rts (bds rs hs rs.length)))->M.length<=M'.length->(∀ j < M.length,M'[j]?=M[j]?)->Q (.ref m') M'):wO (F_bends [.ref n,.ref m] M) Q E:=by
 have hn:=ZM h
 have hm:=ZM h'
 have hne:=hs'.ne
 have h3:=hs'.len
 simp![F_bends,ZdE]
 refine CE.Zfm h hs' (by omega) (fun p hp=>by have:=hb p hp;omega) ?_
 have g1:(M ++ [SO.lst (nts (Zcc rs))])[n]?=some (.lst (prs rs)):=by rw[Zbk hn];exact h
 have g2:(M ++ [SO.lst (nts (Zcc rs))])[m]?=some (.lst (rts hs)):=by rw[Zbk hm];exact h'
 simp![Zu]
 refine Zfo g1 g2 e ?_
 simp![Zu]
 have r0:(M ++ [SO.lst (nts (Zcc rs)),SO.lst []])[M.length + 1]?=some (.lst (rts (bds rs hs 0))):=by simp[rts,bds]
 have G0:M.length + 2<=(M ++ [SO.lst (nts (Zcc rs)),SO.lst []]).length/\(M ++ [SO.lst (nts (Zcc rs)),SO.lst []])[M.length]?=some (.lst (nts (Zcc rs)))/\ ∀ j < M.length,(M ++ [SO.lst (nts (Zcc rs)),SO.lst []])[j]?=M[j]?:=⟨by simp,by simp,fun j hj=>Zbk hj⟩
 generalize M ++ [SO.lst (nts (Zcc rs)),SO.lst []]=M1 at r0 G0 ⊢
 have hm1:=(G0.2.2 m hm).trans h'
 refine ZiQ (fun i ρ M'=>(∃ x4 x5 x6,ρ=[some (.ref n),some (.ref m),some (.ref M.length),some (.ref (M.length + 1)),x4,x5,x6])/\M'[M.length + 1]?=some (.lst (rts (bds rs hs i)))/\M.length + 2<=M'.length/\M'[M.length]?=some (.lst (nts (Zcc rs)))/\ ∀ j < M.length,M'[j]?=M[j]?) hm1 ⟨⟨_,_,_,rfl⟩,r0,G0⟩ (fun i ρ M' hI=>(hI.2.2.2.2 m hm).trans h') ?_ ?_
 ·rintro i ρ M2 hi ⟨⟨x4,x5,x6,rfl⟩,r2,l2,t2,o2⟩
  have hm2:=(o2 m hm).trans h'
  rw[Zf7 hi]
  rw[ZF] at hi
  have hi':i < rs.length:=by omega
  have hh:hs.length≠0:=by omega
  have ct:cn (Zcc rs) i=T rs i:=by rw[Zlb (by rw[Zfl];exact hi')];simp[Zcc]
  have tl:=Zfl (rs:=rs)
  have z (i):=Zi5 (i:=i) hz hh
  simp![ZcL,Zln,ZpZ hm2,hm2,ZF]
  rw[CR.Zll (z _) (z _) (by omega)]
  simp![t2,Zla,ct]
  rw[show D.tup [D.int (T rs i),D.int 1]=rt (T rs i:Rat) from CS.Zi3 _,CR.Zm3 (CS.Zfn (Zsp (i:=i) hb hne) (by decide)) (z _) (by omega)]
  simp![Zu]
  rw[CR.Zll (CR.Zi1 (z _) (z _)) (CR.Zlm (CS.Zfn (Zsp (i:=i) hb hne) (by decide)) (z _)) (by omega)]
  simp![r2]
  exact ⟨by rw[ZF,ZcM];omega,⟨_,_,_,rfl⟩,by rw[ZaC,Zku];rfl,by rw[List.length_set];exact l2,t2,fun j hj=>by rw[List.getElem?_set_ne (by omega)];exact o2 j hj⟩
 ·rintro ρ M2 ⟨⟨x4,x5,x6,rfl⟩,r2,l2,t2,o2⟩
  simp![Zu]
  rw[ZF,e] at r2
  exact q _ _ (by omega) r2 (by omega) o2
theorem Zp0 (hb:Nr 200 rs) (hn:rs≠[]) (hh:hs.length≠0) (hz: ∀ x∈hs,Sz k x): ∀ x∈bds rs hs l,Sz (3 * k + 19) x:=by
 intro x hx
 obtain ⟨j,-,rfl⟩:=List.mem_map.mp hx
 exact ZpY hb hn hh hz
end
end CN
end
section
namespace CN
open PySem PySem.Spec L2 DL
open CR (rt Sz)
open CH (rts ZF ZaC)
section
variable {Q:D->Sto->Prop} {E:Str->Sto->Prop} {M:Sto} {k l:Nat} {p q:Rat} {n m:Nat} {rs:List Pt} {hs:List Rat} {i:Int}
theorem Zm5 {ts:List Int} {i:Nat} (h:i < (nts ts).length):(nts ts)[i]= .int (cn ts i):=by
 rw[Zdy] at h
 rw[Zlb h]
 simp[nts]
end
end CN
end
section
namespace CN
open PySem PySem.Spec L2 DL
open CR (rt Sz)
open CH (rts ZF ZaC)
end CN
end
section
namespace CU
open PySem PySem.Spec L2 DL
open CC (F_ask_smooth)
open CS (F_ask_height F_minus F_slope_through F_sloped)
end CU
end
section
namespace CU
open PySem PySem.Spec L2 DL
open CR (rt Sz)
open CH (rts ZF ZaC)
open CN CS
noncomputable def thr (rs:List Pt) (hs:List Rat):Rat × Rat:=(cq hs 0 * (cy rs 1).2 - cq hs 1 * (cy rs 0).2,cq hs 1 * (cy rs 0).1 - cq hs 0 * (cy rs 1).1)
section
variable {Q:D->Sto->Prop} {E:Str->Sto->Prop} {M:Sto} {k l:Nat} {p q:Rat} {n m o:Nat} {rs:List Pt} {hs xs ys:List Rat} {i:Int}
theorem Zm6 {F:Nat->Rat} (h1:xs.length=n) (h: ∀ i < n,F i=cq xs i):(List.range n).map (fun (i:Nat)=>rt (F i))=rts xs:=by
 apply List.ext_getElem
 ·rw[ZF,h1];simp
 ·intro i hi hi'
  simp at hi
  rw[Zf7]
  simp[h i hi]
end
end CU
end
section
namespace CV
open PySem PySem.Spec L2 DL
open CR (rt Sz)
open CH (rts ZF ZaC)
open CN CU CS
noncomputable def Kp (M M':Sto):Prop:=M.length<=M'.length/\ ∀ j < M.length,M'[j]?=M[j]?
section
variable {M M' M1 M2:Sto} {o:SO} {j:Nat}
theorem Kp.of (l:M.length<=M'.length) (g: ∀ j < M.length,M'[j]?=M[j]?):Kp M M':=⟨l,g⟩
theorem Kp.get (k:Kp M M') (h:M[j]?=some o):M'[j]?=some o:=(k.2 _ (ZM h)).trans h
theorem Kp.refl:Kp M M:=⟨Nat.le_refl _,fun _ _=>rfl⟩
theorem Kp.trans (a:Kp M M1) (b:Kp M1 M2):Kp M M2:=⟨Nat.le_trans a.1 b.1,fun j h=>(b.2 j (Nat.lt_of_lt_of_le h a.1)).trans (a.2 j h)⟩
theorem Kp.app {L:Sto}:Kp M (M ++ L):=⟨by simp,fun j h=>Zbk h⟩
theorem Kp.bag {n:Nat} (k:Kp M M') (b:Bag n M):Bag n M':=(CY.Gr.of b k.1 k.2).bag
theorem Kp.gr {n:Nat} (k:Kp M M') (b:Bag n M):Gr n M M':=CY.Gr.of b k.1 k.2
end
section
variable {Q:D->Sto->Prop} {E:Str->Sto->Prop} {M:Sto} {k l:Nat} {p q:Rat} {n m o:Nat} {rs:List Pt} {hs xs ys zs u v:List Rat} {i:Int} {f:Ev} {ρ:Ro} {mu mv N:Nat}
end
end CV
end
section
namespace CW
open PySem PySem.Spec L2 DL
open CE (F_numbers)
end CW
end
section
namespace CW
open PySem PySem.Spec L2 DL
open CV
section
variable {Q:D->Sto->Prop} {E:Str->Sto->Prop} {M:Sto} {n m:Nat} {rs:List Pt}
end
end CW
end
section
namespace CB
open PySem PySem.Spec L2 DL
end CB
end
section
namespace CL
open PySem PySem.Spec L2 DL
open CC (F_following)
end CL
end
section
namespace CL
open PySem PySem.Spec L2 DL
open CV CB
section
variable {Q:D->Sto->Prop} {E:Str->Sto->Prop} {M:Sto} {n:Nat}
end
end CL
end
section
namespace TW
open DL
noncomputable def nx (b:Int) (p q:Pt):Pt:=(0 - b * q.1 - p.1,0 - b * q.2 - p.2)
noncomputable def run (p q:Pt):List Int->Pt × Pt
 | []=>(p,q)
 |b :: bs=>run q (nx b p q) bs
noncomputable def ew (p q:Pt):Nat:=in1 (1,0) p q + in1 (-1,0) p q
noncomputable def st (a:Pt):Int:=if 0 < a.2\/(a.2=0/\a.1 < 0) then 1 else 0
end TW
end
section
namespace TW
open DL
section
variable {rs:List Pt}
noncomputable def ZuO (rs:List Pt):Int->Nat->List Int
 |_,0=>[]
 |i,k + 1=>T rs (i + 1) :: ZuO rs (i + 1) k
noncomputable def sf (f:Pt->Pt->Nat) (rs:List Pt):Int->Nat->Nat
 |_,0=>0
 |i,k + 1=>f (cy rs i) (cy rs (i + 1)) + sf f rs (i + 1) k
theorem Zsq {f:Pt->Pt->Nat} (hn:rs≠[]): ∀ (k i:Nat),i + k=rs.length->cc f ((rs ++ rs.take 1).drop i)=sf f rs i k:=by
 have l0:0 < rs.length:=List.length_pos_iff.mpr hn
 have ga: ∀ i:Nat,i<=rs.length->(rs ++ rs.take 1)[i]?=some (cy rs i):=by
  intro i hi
  by_cases c:i < rs.length
  ·rw[List.getElem?_append_left c,Zca (by omega),Zct (by omega),List.getElem?_eq_getElem c]
   simp
  ·have:i=rs.length:=by omega
   subst this
   rw[List.getElem?_append_right (Nat.le_refl _),Nat.sub_self,<- Zfi,Int.sub_self,Zca (by omega),Zct (by omega)]
   rw[List.getElem?_take_of_lt (by decide),List.getElem?_eq_getElem (by omega)]
   simp
 have lch:(rs ++ rs.take 1).length=rs.length + 1:=by simp;omega
 have dr: ∀ i:Nat,i<=rs.length->(rs ++ rs.take 1).drop i=cy rs i :: (rs ++ rs.take 1).drop (i + 1):=by
  intro i hi
  rw[List.drop_eq_getElem_cons (by omega)]
  have:=ga i hi
  rw[List.getElem?_eq_getElem (by omega)] at this
  rw[Option.some.inj this]
 intro k
 induction k with
 |zero=>
  intro i hi
  rw[dr i (by omega),List.drop_eq_nil_of_le (by omega)]
  rfl
 |succ k ih=>
  intro i hi
  have:=ih (i + 1) (by omega)
  rw[dr i (by omega)]
  rw[dr (i + 1) (by omega)] at this ⊢
  rw[cc,this,sf]
  rfl
theorem Zp1 {f:Pt->Pt->Nat} (hn:rs≠[]):cyc f rs=sf f rs 0 rs.length:=by
 have:=Zsq (f:=f) hn rs.length 0 (by omega)
 exact this
end
end TW
end
section
end
section
namespace CT
open PySem PySem.Spec L2 DL
end CT
end
section
namespace CT
open PySem PySem.Spec L2 DL
open CV TW
section
variable {Q:D->Sto->Prop} {E:Str->Sto->Prop} {M:Sto} {n m:Nat} {L:List Int}
noncomputable def Cl (L:List Int):Prop:=run (1,0) (0,1) L=((1,0),(0,1))
noncomputable instance (L:List Int):Decidable (Cl L):=by unfold Cl;infer_instance
end
end CT
end
section
namespace CT
open PySem PySem.Spec L2 DL
open CV
open TW (nx)
section
variable {Q:D->Sto->Prop} {E:Str->Sto->Prop} {M:Sto} {n m:Nat} {L:List Int}
end
end CT
end
section
namespace DL
section
variable {rs:List Pt} {k:Nat}
theorem Zkv {f:Pt->Pt->Nat} (hl:rs≠[]) (h:cyc f rs=0) (i:Int):f (cy rs i) (cy rs (i + 1))=0:=by
 have l0:rs.length≠0:=fun z=>hl (List.length_eq_zero_iff.mp z)
 refine Zeu (P:=fun a b=>f a b=0) l0 ?_ i
 intro i h0 h1
 rw[TW.Zp1 hl] at h
 have: ∀ (k:Nat) (j:Int),TW.sf f rs j k=0-> ∀ m:Nat,m < k->f (cy rs (j + m)) (cy rs (j + m + 1))=0:=by
  intro k
  induction k with
  |zero=>intro j _ m hm;omega
  |succ k ih=>
   intro j h m hm
   rw[TW.sf] at h
   cases m with
   |zero=>
    rw[show j + ((0:Nat):Int)=j by omega]
    omega
   |succ m=>
    have:=ih (j + 1) (by omega) m (by omega)
    rw[show j + ((m + 1:Nat):Int)=j + 1 + m by omega]
    exact this
 have:=this rs.length 0 h i.toNat (by omega)
 rw[show (0:Int) + (i.toNat:Nat)=i by omega] at this
 exact this
noncomputable def nxp (a b:Pt):Nat:=if 0 < X a b then 0 else 1
theorem Zsr {a b:Pt} (h:nxp a b=0):0 < X a b:=by
 unfold nxp at h
 split at h
 ·assumption
 ·omega
structure Rn (rs:List Pt):Prop where
 len:3<=rs.length
 ps:cyc nxp rs=0
 gc: ∀ p∈rs,Int.gcd p.1 p.2=1
 fan:Fan rs
theorem Rn.ne (h:Rn rs):rs≠[]:=by
 intro z
 have:=h.len
 rw[z] at this
 simp at this
theorem Rn.pos (h:Rn rs) (i:Int):0 < X (cy rs i) (cy rs (i + 1)):=Zsr (Zkv h.ne h.ps i)
end
end DL
end
section
end
section
namespace DL
open TW
open CT (Cl)
section
variable {rs us:List Pt}
theorem Zm7:(List.range us.length).map (fun (j:Nat)=>cy us j)=us:=by
 apply List.ext_getElem
 ·simp
 ·intro i h1 h2
  simp[Zfj h2]
end
end DL
end
section
namespace CB
open DL
section
variable {u v w:Pt}
noncomputable def kl:List Pt->List Int
 |a :: b :: d :: r=>X a d :: kl (b :: d :: r)
 |_=>[]
theorem Xvv (p:Pt):X p p=0:=by unfold X;grind
theorem Zss: ∀ (r:List Pt) (a b:Pt) (v:Pt),Ch (a :: b :: r)->Cv (a :: b :: r)->(b :: r).getLast (by simp)=v->0<=X b v/\X b v < X a v
 | [],a,b,v,h,_,e=>by
  have:b=v:=e
  subst this
  rw[Xvv,h.1]
  omega
 |c :: r,a,b,v,h,k,e=>by
  have ih:=Zss r b c v h.2 k.2 (by rw[<- e];simp[List.getLast_cons])
  obtain ⟨m,m2,e1,e2⟩:=k.1
  have ex:X a v + X c v=m * X b v:=by unfold X;grind
  have:2 * X b v<=m * X b v:=Int.mul_le_mul_of_nonneg_right m2 (by omega)
  omega
theorem Zm8 {t b k c:Int} (hb:0 < b) (h0:0<=c) (h1:c < b) (e:t + c=k * b): -((-t) / b)=k:=by
 have: -t=c + b * (-k):=by grind
 rw[this,Int.add_mul_ediv_left _ _ (by omega),Int.ediv_eq_zero_of_lt h0 h1]
 omega
theorem only: ∀ (ws:List Pt) (u v w:Pt),Ch (u :: (ws ++ [v]))->Cv (u :: (ws ++ [v]))->Fb u v w->ws=btw u w (hj (X u v) (X w v))/\kl (u :: (ws ++ [v]))=hj (X u v) (X w v)
 | [],u,v,w,h,k,f=>by
  have h1:X u v=1:=h.1
  have l:=f.lo
  have l2:=f.hi
  have w0:X w v=0:=by omega
  rw[w0]
  unfold hj
  rw[dif_neg (by decide)]
  exact ⟨rfl,rfl⟩
 |x :: ws,u,v,w,h,k,f=>by
  have hl:(x :: (ws ++ [v])).getLast (by simp)=v:=by simp[List.getLast_cons]
  have d:=Zss (ws ++ [v]) u x v h k hl
  have fx:Fb u v x:=⟨h.1,d.1,d.2⟩
  have ew:=fx.uniq f
  subst ew
  obtain ⟨y,R,eR⟩: ∃ y R,ws ++ [v]=y :: R:=by
   cases ws with
   |nil=>exact ⟨v,[],rfl⟩
   |cons y R=>exact ⟨y,R ++ [v],rfl⟩
  have h':Ch (x :: y :: R):=by rw[<- eR];exact h.2
  have kk:Cv (u :: x :: y :: R):=by rw[<- eR];exact k
  have hl2:(y :: R).getLast (by simp)=v:=by
   have:(ws ++ [v]).getLast (by simp)=v:=by simp
   simpa [eR] using this
  have d2:=Zss R x y v h' kk.2 hl2
  obtain ⟨m,m2,e1,e2⟩:=kk.1
  have ex:X u v + X y v=m * X x v:=by unfold X;grind
  have hc:=Zm8 (by omega) d2.1 d2.2 ex
  have ey:(m * x.1 - u.1,m * x.2 - u.2)=y:=by apply Prod.ext<;>simp only<;>omega
  have m3:X u y=m:=by
   have:=h.1
   rw[<- ey]
   unfold X at *
   simp only
   grind
  have fy:Fb x v y:=⟨h'.1,d2.1,d2.2⟩
  have ih:=only ws x v y (by rw[eR];exact h') (by rw[eR];exact kk.2) fy
  have ej:hj (X u v) (X x v)=m :: hj (X x v) (X y v):=by
   rw[hj,dif_pos (by omega),hc]
   congr 2
   omega
  rw[ej]
  constructor
  ·rw[btw,ey,<- ih.1]
  ·show kl (u :: x :: (ws ++ [v]))=_
   rw[eR,kl,m3,<- eR,ih.2]
end
end CB
end
section
namespace CD
open PySem PySem.Spec L2 DL
open CB (F_law_take)
open CC (F_ask_smooth)
open CS (F_minus F_sloped)
noncomputable def Zbb:Sv:=(ZC (ZQ (gNm 2) (e2 dIx (Zh 0) (e2 dMod (e2 dAdd (Zh 1) (eC (.int 1))) (Zk bLen (Zc (Zh 0) aNil)))))
 (Zag (e2 dAdd (e2 dAdd (eSl (Zh 0) oNo (oSo (e2 dAdd (Zh 1) (eC (.int 1))))) (Zbn (Zc (Zap (Zc (e2 dAdd (e2 dIx (e2 dIx (Zh 0) (Zh 1)) (eC (.int 0))) (e2 dIx (Zh 2) (eC (.int 0)))) (Zc (e2 dAdd (e2 dIx (e2 dIx (Zh 0) (Zh 1)) (eC (.int 1))) (e2 dIx (Zh 2) (eC (.int 1)))) aNil))) aNil))) (eSl (Zh 0) (oSo (e2 dAdd (Zh 1) (eC (.int 1)))) oNo))))
noncomputable def F_law_short_put:List D->Sto->Out D:=fnF Zbb 2 1
noncomputable def Zbx:Sv:=(ZC (ZQ (gNm 6) (Zk F_law_short_put (Zc (Zh 3) (Zc (Zk F_law_take (Zc (Zh 0) (Zc (Zk bLen (Zc (Zh 3) aNil)) aNil))) aNil))))
 (sIf (Zdm (tv (e2 dLt (Zk bLen (Zc (Zh 3) aNil)) (Zh 4))) (tv (e2 dLt (Zk (ZcH List.max?) (Zc (Zay (iSq (Zh 6)) 2 [] (gTp (gCs (gNm 0) (gCs (gNm 1) gNl))) (fun _ M=> .ok true M) (Zk bMax (Zc (Zk bAbs (Zc (Zh 0) aNil)) (Zc (Zk bAbs (Zc (Zh 1) aNil)) aNil)))) aNil)) (eC (.int 8))))) (ZQ (gNm 3) (Zh 6)) sNil))
noncomputable def ZcN:Sv:=(ZC (ZQ (gNm 2) (Zk F_law_take (Zc (Zh 0) (Zc (eC (.int 5)) aNil))))
 (ZC (ZQ (gNm 3) (e2 dIx (Zbn (Zc (Zbn (Zc (Zap (Zc (eC (.int 1)) (Zc (eC (.int 0)) aNil))) (Zc (Zap (Zc (eC (.int 0)) (Zc (eC (.int 1)) aNil))) (Zc (Zap (Zc (Zdo (eC (.int 1))) (Zc (Zdo (eC (.int 1))) aNil))) aNil)))) (Zc (Zbn (Zc (Zap (Zc (eC (.int 1)) (Zc (eC (.int 0)) aNil))) (Zc (Zap (Zc (eC (.int 0)) (Zc (eC (.int 1)) aNil))) (Zc (Zap (Zc (Zdo (eC (.int 1))) (Zc (e2 dSub (Zh 2) (eC (.int 1))) aNil))) (Zc (Zap (Zc (eC (.int 0)) (Zc (Zdo (eC (.int 1))) aNil))) aNil))))) aNil))) (Zk bInt (Zc (e2 dGt (Zh 2) (eC (.int 0))) aNil))))
 (ZC (ZQ (gNm 4) (e2 dIx (Zbn (Zc (e2 dAdd (eC (.int 3)) (Zk F_law_take (Zc (Zh 0) (Zc (e2 dSub (Zh 1) (eC (.int 2))) aNil)))) (Zc (Zh 1) aNil))) (Zk bInt (Zc (e2 dEq (Zk F_law_take (Zc (Zh 0) (Zc (eC (.int 6)) aNil))) (eC (.int 3))) aNil))))
 (ZC (Zb4 (gNm 5) (Zc (e2 dMul (eC (.int 4)) (Zh 1)) aNil) Zbx)
 (Zag (Zh 3))))))
noncomputable def F_law_base:List D->Sto->Out D:=fnF ZcN 2 5
noncomputable def Zbl:Sv:=(ZC (ZQ (gNm 3) (e2 dIx (Zbn (Zc (e2 dSub (Zk F_law_take (Zc (Zh 0) (Zc (eC (.int 5)) aNil))) (eC (.int 2))) (Zc (e2 dSub (Zk F_law_take (Zc (Zh 0) (Zc (eC (.int 15)) aNil))) (eC (.int 7))) aNil))) (Zk bInt (Zc (e2 dEq (Zk F_law_take (Zc (Zh 0) (Zc (eC (.int 8)) aNil))) (eC (.int 5))) aNil))))
 (sIf (tv (e2 dEq (Zk F_law_take (Zc (Zh 0) (Zc (eC (.int 2)) aNil))) (eC (.int 0)))) (ZQ (gNm 1) (Zbn (Zc (e2 dAdd (e2 dIx (Zh 1) (eC (.int 0))) (e2 dMul (Zh 3) (e2 dIx (Zh 1) (eC (.int 2))))) (Zc (e2 dAdd (e2 dIx (Zh 1) (eC (.int 1))) (e2 dMul (Zh 3) (e2 dIx (Zh 1) (eC (.int 3))))) (Zc (e2 dIx (Zh 1) (eC (.int 2))) (Zc (e2 dIx (Zh 1) (eC (.int 3))) aNil)))))) (ZQ (gNm 1) (Zbn (Zc (e2 dIx (Zh 1) (eC (.int 0))) (Zc (e2 dIx (Zh 1) (eC (.int 1))) (Zc (e2 dAdd (e2 dIx (Zh 1) (eC (.int 2))) (e2 dMul (Zh 3) (e2 dIx (Zh 1) (eC (.int 0))))) (Zc (e2 dAdd (e2 dIx (Zh 1) (eC (.int 3))) (e2 dMul (Zh 3) (e2 dIx (Zh 1) (eC (.int 1))))) aNil))))))))
noncomputable def Zce:Sv:=(ZC (ZQ (gNm 1) (Zbn (Zc (eC (.int 1)) (Zc (eC (.int 0)) (Zc (eC (.int 0)) (Zc (eC (.int 1)) aNil))))))
 (ZC (Zb4 (gNm 2) (Zc (Zk F_law_take (Zc (Zh 0) (Zc (eC (.int 4)) aNil))) aNil) Zbl)
 (ZC (sIf (tv (e2 dEq (Zk F_law_take (Zc (Zh 0) (Zc (eC (.int 3)) aNil))) (eC (.int 0)))) (ZQ (gNm 1) (Zbn (Zc (e2 dIx (Zh 1) (eC (.int 2))) (Zc (e2 dIx (Zh 1) (eC (.int 3))) (Zc (e2 dIx (Zh 1) (eC (.int 0))) (Zc (e2 dIx (Zh 1) (eC (.int 1))) aNil)))))) sNil)
 (ZC (sIf (tv (e2 dGt (Zk (ZcH List.max?) (Zc (Zay (iSq (Zh 1)) 1 [] (gNm 0) (fun _ M=> .ok true M) (Zk bAbs (Zc (Zh 0) aNil))) aNil)) (eC (.int 14)))) (Zag (Zbn (Zc (eC (.int 0)) (Zc (eC (.int 1)) (Zc (eC (.int 1)) (Zc (eC (.int 0)) aNil)))))) sNil)
 (Zag (Zh 1))))))
noncomputable def F_law_table:List D->Sto->Out D:=fnF Zce 1 3
noncomputable def ZcO:Sv:=(ZC (ZQ (gNm 4) (Zay (iZp (Zc (Zh 1) (Zc (Zh 2) aNil))) 3 [0] (gTp (gCs (gTp (gCs (gNm 0) (gCs (gNm 1) gNl))) (gCs (gNm 2) gNl))) (fun _ M=> .ok true M) (Zap (Zc (Zap (Zc (e2 dAdd (e2 dMul (e2 dIx (Zh 3) (eC (.int 0))) (Zh 0)) (e2 dMul (e2 dIx (Zh 3) (eC (.int 1))) (Zh 1))) (Zc (e2 dAdd (e2 dMul (e2 dIx (Zh 3) (eC (.int 2))) (Zh 0)) (e2 dMul (e2 dIx (Zh 3) (eC (.int 3))) (Zh 1))) aNil))) (Zc (Zh 2) aNil)))))
 (ZC (sIf (tv (e2 dLt (e2 dSub (e2 dMul (e2 dIx (Zh 0) (eC (.int 0))) (e2 dIx (Zh 0) (eC (.int 3)))) (e2 dMul (e2 dIx (Zh 0) (eC (.int 1))) (e2 dIx (Zh 0) (eC (.int 2))))) (eC (.int 0)))) (ZQ (gNm 4) (Zk bLR (Zc (Zh 4) aNil))) sNil)
 (ZC (ZQ (gNm 4) (e2 dAdd (eSl (Zh 4) (oSo (Zh 3)) oNo) (eSl (Zh 4) oNo (oSo (Zh 3)))))
 (Zag (Zap (Zc (Zay (iSq (Zh 4)) 2 [] (gTp (gCs (gNm 0) (gCs (gNm 1) gNl))) (fun _ M=> .ok true M) (Zh 0)) (Zc (Zay (iSq (Zh 4)) 2 [] (gTp (gCs (gNm 0) (gCs (gNm 1) gNl))) (fun _ M=> .ok true M) (Zh 1)) aNil)))))))
noncomputable def F_law_spun:List D->Sto->Out D:=fnF ZcO 4 1
noncomputable def Zi6:Sv:=(Zag (e2 dLt (e2 dMul (e2 dIx (Zh 0) (eC (.int 0))) (e2 dIx (Zh 1) (eC (.int 1)))) (e2 dMul (e2 dIx (Zh 1) (eC (.int 0))) (e2 dIx (Zh 0) (eC (.int 1))))))
noncomputable def F_less:List D->Sto->Out D:=fnF Zi6 2 0
noncomputable def Zcw:Sv:=(sIf (tv (Zk F_less (Zc (Zh 1) (Zc (Zh 2) aNil)))) (ZQ (gNm 1) (Zh 2)) sNil)
noncomputable def Zd6:Sv:=(ZC (ZQ (gNm 1) (e2 dIx (Zh 0) (eC (.int 0))))
 (ZC (ZkX (gNm 2) (Zh 0) Zcw)
 (Zag (Zh 1))))
noncomputable def F_greatest:List D->Sto->Out D:=fnF Zd6 1 2
noncomputable def Zd7:Sv:=(Zag (Zk F_minus (Zc (Zap (Zc (eC (.int 0)) (Zc (eC (.int 1)) aNil))) (Zc (Zh 0) aNil))))
noncomputable def F_contrary:List D->Sto->Out D:=fnF Zd7 1 0
noncomputable def Zcf:Sv:=(ZC (Zb0 (Zk F_ask_smooth (Zc (Zh 0) aNil)))
 (Zag (Zay (iSq (Zh 0)) 1 [1] (gNm 0) (fun _ M=> .ok true M) (Zk F_greatest (Zc (Zay (iSq (Zh 1)) 1 [0] (gNm 0) (fun _ M=> .ok true M) (Zk F_contrary (Zc (Zk F_sloped (Zc (Zh 0) (Zc (Zh 1) aNil))) aNil))) aNil)))))
noncomputable def F_height_of:List D->Sto->Out D:=fnF Zcf 2 0
end CD
end
section
namespace CD
open PySem PySem.Spec L2 DL
open CV
open CA (Tn)
open CR (rt Sz)
open CH (rts ZF ZaC)
section
variable {Q:D->Sto->Prop} {E:Str->Sto->Prop} {M:Sto} {n m p:Nat} {rs:List Pt} {a b c d:Int} {ρ:Ro} {k:Nat} {xs:List D} {tg:Tg} {f:Ev}
theorem Zf8 {at':Nat} (h:M[n]?=some (.lst (prs rs))) (hb:Nr 1000 rs) (ha:at' < rs.length) (hl:rs.length<=1000) (q: ∀ m M',Kp M M'->M.length<=m->M'[m]?=some (.lst (prs (ins rs at' ((cy rs at').1 + (cy rs (at' + 1)).1,(cy rs at').2 + (cy rs (at' + 1)).2))))->Q (.ref m) M'):wO (F_law_short_put [.ref n,.int at'] M) Q E:=by
 have hn:=ZM h
 have em:=ZaA (i:=(at':Int) + 1) (m:=rs.length) (by omega)
 have le:((at':Int) + 1).toNat=at' + 1:=by omega
 simp![F_law_short_put,Zbb,h,ZgS,Zd3,le]
 refine ⟨by rw[List.length_take];omega,by rw[List.length_take,List.length_drop];omega,q _ _ Kp.app (by omega) ?_⟩
 rw[Zk8]
 simp[ins]
theorem Zlp {L:List Int} (h:L≠[]): ∃ mx,L.max?=some mx/\ ∀ x∈L,x<=mx:=by
 cases e:L.max? with
 |none=>exact absurd (List.max?_eq_none_iff.mp e) h
 |some mx=>exact ⟨mx,rfl,fun x hx=>(List.max?_eq_some_iff.mp e).2 x hx⟩
theorem Zcx: ∀ {L:List Int},Zb2 (nts L)=some L
 | []=>rfl
 |x :: L=>by
  have:=Zcx (L:=L)
  show (match Zb2 (nts L) with | some ns=>some (x :: ns) | none=>none)=_
  rw[this]
theorem Zst {M1:Sto} {f:Int} (f0:0<=f) (f1:f < 5): ∃ p ss,atI [D.ref M1.length,D.ref (M1.length + 1)] (if decide (0 < f)=true then 1 else 0)=some (.ref p)/\Smo ss/\Nr 7 ss/\ss.length<=4/\(M1 ++ [SO.lst [D.tup [D.int 1,D.int 0],D.tup [D.int 0,D.int 1],D.tup [D.int (-1),D.int (-1)]],SO.lst [D.tup [D.int 1,D.int 0],D.tup [D.int 0,D.int 1],D.tup [D.int (-1),D.int (f - 1)],D.tup [D.int 0,D.int (-1)]],SO.lst [D.ref M1.length,D.ref (M1.length + 1)]])[p]?=some (.lst (prs ss))/\M1.length<=p:=by
  by_cases z:0 < f
  ·refine ⟨M1.length + 1,[(1,0),(0,1),(-1,f - 1),(0,-1)],by rw[if_pos (decide_eq_true z)];rfl,CC.ZuN (f - 1),?_,by simp,by rw[Zk8];rfl,by omega⟩
   intro x hx
   simp at hx
   rcases hx with rfl | rfl | rfl | rfl<;>simp<;>omega
  ·refine ⟨M1.length,[(1,0),(0,1),(-1,-1)],by rw[if_neg (by simpa using z)];rfl,CC.ZuM,?_,by simp,by rw[Zdx];rfl,by omega⟩
   intro x hx
   simp at hx
   rcases hx with rfl | rfl | rfl<;>simp
theorem Zp2 {most:Int} (hm:4<=most/\most<=100) (hb:Bag n M) (q: ∀ ss m M',Smo ss->Nr 7 ss->ss.length<=most->M.length<=m->M'[m]?=some (.lst (prs ss))->Gr n M M'->Q (.ref m) M'):wO (F_law_base [.ref n,.int most] M) Q E:=by
 have hn:=hb.lt
 simp![F_law_base,ZcN]
 refine CB.ZaB hb (by decide) fun f M1 f0 f1 g1=> ?_
 have hn1:=g1.bag.lt
 have B1:=g1.bag
 simp![Zu]
 obtain ⟨p,ss,hp,s1,s2,s3,s4,s5⟩:=Zst (M1:=M1) f0 f1
 have B2:=B1.app [SO.lst [D.tup [D.int 1,D.int 0],D.tup [D.int 0,D.int 1],D.tup [D.int (-1),D.int (-1)]],SO.lst [D.tup [D.int 1,D.int 0],D.tup [D.int 0,D.int 1],D.tup [D.int (-1),D.int (f - 1)],D.tup [D.int 0,D.int (-1)]],SO.lst [D.ref M1.length,D.ref (M1.length + 1)]]
 have G2:Gr n M1 (M1 ++ [SO.lst [D.tup [D.int 1,D.int 0],D.tup [D.int 0,D.int 1],D.tup [D.int (-1),D.int (-1)]],SO.lst [D.tup [D.int 1,D.int 0],D.tup [D.int 0,D.int 1],D.tup [D.int (-1),D.int (f - 1)],D.tup [D.int 0,D.int (-1)]],SO.lst [D.ref M1.length,D.ref (M1.length + 1)]]):=Gr.app B1 _
 generalize M1 ++ [SO.lst [D.tup [D.int 1,D.int 0],D.tup [D.int 0,D.int 1],D.tup [D.int (-1),D.int (-1)]],SO.lst [D.tup [D.int 1,D.int 0],D.tup [D.int 0,D.int 1],D.tup [D.int (-1),D.int (f - 1)],D.tup [D.int 0,D.int (-1)]],SO.lst [D.ref M1.length,D.ref (M1.length + 1)]]=M2 at *
 have gl1:=g1.len
 simp![hp]
 refine CB.ZaB B2 (by omega) fun t1 M3 t10 t11 g3=> ?_
 simp![Zu]
 refine CB.ZaB (g3.bag.app _) (by decide) fun t2 M4 t20 t21 g4=> ?_
 have k4:=Gr.new g3.bag g4
 have r4:=CA.Gr.up (CA.Gr.up s4 g3 (by omega)) ((Gr.app g3.bag _).trans g4) (by omega)
 have G4:=((g1.trans G2).trans g3).trans ((Gr.app g3.bag _).trans g4)
 obtain ⟨many,hmany,m0⟩: ∃ many:Int,atI [D.int (3 + t1),D.int most] (if decide (t2=3)=true then 1 else 0)=some (.int many)/\many<=most:=by
  by_cases z:t2=3
  ·exact ⟨most,by rw[if_pos (decide_eq_true z)];rfl,by omega⟩
  ·exact ⟨3 + t1,by rw[if_neg (by simpa using z)];rfl,by omega⟩
 simp![k4,hmany]
 clear k4 hmany hp
 refine ⟨by omega,?_⟩
 refine Zff (fun i ρ M'=> ∃ ss p x5 x6,ρ=[some (.ref n),some (.int most),some (.int f),some (.ref p),some (.int many),x5,x6]/\Smo ss/\Nr 7 ss/\ss.length<=most/\M.length<=p/\M'[p]?=some (.lst (prs ss))/\Gr n M M') ⟨ss,p,_,_,rfl,s1,s2,by omega,by omega,r4,G4⟩ ?_ ?_
 ·rintro i ρ M5 hi ⟨ss,p,x5,x6,rfl,s1,s2,s3,s4,s5,G⟩
  have sl:=s1.len
  simp![Zbx,s5]
  refine CB.ZaB G.bag (by omega) fun t M6 t0 t1 g6=> ?_
  have s6:=CA.Gr.up s5 g6 (by omega)
  have G6:=G.trans g6
  obtain ⟨at',rfl⟩: ∃ k:Nat,t=k:=⟨t.toNat,by omega⟩
  simp![Zu]
  refine Zf8 s6 (fun x hx=>by have:=s2 x hx;omega) (by omega) (by omega) fun m M7 K7 m7 r7=> ?_
  have s7:=K7.get s6
  have G7:=G6.trans (K7.gr G6.bag)
  have l7:=ZM s7
  have sn:=s1.ins (k:=at') (by omega)
  have ln:=Zf1 (rs:=ss) (k:=at') (p:=((cy ss at').1 + (cy ss (at' + 1)).1,(cy ss at').2 + (cy ss (at' + 1)).2)) (by omega)
  generalize ins ss at' ((cy ss at').1 + (cy ss (at' + 1)).1,(cy ss at').2 + (cy ss (at' + 1)).2)=ns at *
  simp![s7]
  refine ZrH (fun b M'=>Kp M7 M'/\(b=true->(ss.length:Int) < many/\Nr 7 ns)) ?_ ?_
  ·refine brO (fun z=> ?_) (fun z=> ?_)
   ·simp![Zu]
    refine Znr (fun ρ=> ∃ x y,ρ=[x,y]) (fun (i:Nat)=>D.int (max (cy ns i).1.natAbs (cy ns i).2.natAbs:Int)) r7 (by rw[Zad];omega) ⟨_,_,rfl⟩ ?_ ?_
    ·rintro i hi ρ L ⟨x,y,rfl⟩
     rw[CC.Zew]
     simp![Zu]
     exact ⟨_,_,rfl⟩
    have ne:ns≠[]:=fun z=>by rw[z] at ln;simp at ln
    rw[Zad,ZiR]
    obtain ⟨mx,hmx,hle⟩:=Zlp (L:=(List.range ns.length).map fun (i:Nat)=>(max (cy ns i).1.natAbs (cy ns i).2.natAbs:Int)) (fun z=>by
     have:=congrArg List.length z
     rw[List.length_map,List.length_range,ln] at this
     simp at this)
    simp![Zcx,hmx]
    refine ⟨Kp.app,fun u=>⟨z,fun x hx=> ?_⟩⟩
    obtain ⟨i,hi,rfl⟩:=List.getElem_of_mem hx
    have:=hle _ (List.mem_map.mpr ⟨i,List.mem_range.mpr hi,rfl⟩)
    simp only[Zfj hi] at this
    have:=of_decide_eq_true u
    omega
   ·simp![Zu]
    exact ⟨Kp.refl,fun u=>by cases u⟩
  rintro b M8 ⟨K8,hb8⟩
  simp![Zu]
  refine Zuv (fun z=> ?_) (fun z=> ?_)
  ·obtain ⟨h1,h2⟩:=hb8 z
   simp![Zu]
   exact ⟨ns,m,_,_,rfl,sn,h2,by omega,by have:=G6.len;omega,K8.get r7,G7.trans (K8.gr G7.bag)⟩
  ·simp![Zu]
   exact ⟨ss,p,_,_,rfl,s1,s2,s3,s4,K8.get s7,G7.trans (K8.gr G7.bag)⟩
 ·rintro ρ M5 ⟨ss,p,x5,x6,rfl,s1,s2,s3,s4,s5,G⟩
  simp![Zu]
  exact q ss p M5 s1 s2 s3 s4 s5 G
noncomputable abbrev tb (a b c d:Int):SO:= .lst [.int a,.int b,.int c,.int d]
theorem Zp3 {B mm:Int} (t:Tn B a b c d) (hm: -7<=mm/\mm<=7):Tn (8 * B) (a + mm * c) (b + mm * d) c d/\Tn (8 * B) a b (c + mm * a) (d + mm * b):=by
 obtain ⟨ta,tb',tc,td,te⟩:=t
 have m1:=CA.Zjn (B:=7) hm ta
 have m2:=CA.Zjn (B:=7) hm tb'
 have m3:=CA.Zjn (B:=7) hm tc
 have m4:=CA.Zjn (B:=7) hm td
 have d1:(a + mm * c) * d - (b + mm * d) * c=a * d - b * c:=by grind
 have d2:a * (d + mm * b) - b * (c + mm * a)=a * d - b * c:=by grind
 exact ⟨⟨by omega,by omega,by omega,by omega,by rw[d1];exact te⟩,⟨by omega,by omega,by omega,by omega,by rw[d2];exact te⟩⟩
theorem Zm9 (hb:Bag n M) (q: ∀ a b c d p M',Tn 14 a b c d->M.length<=p->M'[p]?=some (tb a b c d)->Gr n M M'->Q (.ref p) M'):wO (F_law_table [.ref n] M) Q E:=by
 have hn:=hb.lt
 simp![F_law_table,Zce]
 have B1:=hb.app [tb 1 0 0 1]
 have G1:Gr n M (M ++ [tb 1 0 0 1]):=Gr.app hb _
 have r1:(M ++ [tb 1 0 0 1])[M.length]?=some (tb 1 0 0 1):=by simp
 refine CB.ZaB B1 (by decide) fun r M1 r0 r1' g1=> ?_
 have G2:=G1.trans g1
 have r2:=CA.Gr.up r1 g1 (by omega)
 simp![Zu]
 refine ⟨by omega,?_⟩
 refine Zff (fun i ρ M'=> ∃ a b c d p x2 x3,ρ=[some (.ref n),some (.ref p),x2,x3]/\Tn (8 ^ i) a b c d/\M.length<=p/\M'[p]?=some (tb a b c d)/\Gr n M M') ⟨1,0,0,1,_,_,_,rfl,⟨by decide,by decide,by decide,by decide,.inl (by decide)⟩,by omega,r2,G2⟩ ?_ ?_
 ·rintro i ρ M2 hi ⟨a,b,c,d,p,x2,x3,rfl,tn,pl,v1,G⟩
  simp![Zbl]
  refine CB.ZaB G.bag (by decide) fun s M3 s0 s1 g3=> ?_
  simp![Zu]
  refine CB.ZaB g3.bag (by decide) fun s' M4 s0' s1' g4=> ?_
  simp![Zu]
  refine CB.ZaB (g4.bag.app _) (by decide) fun t M5 t0 t1 g5=> ?_
  have k5:=Gr.new g4.bag g5
  obtain ⟨mm,hmm,m0⟩: ∃ mm:Int,atI [D.int (s - 2),D.int (s' - 7)] (if decide (t=5)=true then 1 else 0)=some (.int mm)/\(-7<=mm/\mm<=7):=by
   by_cases z:t=5
   ·exact ⟨s' - 7,by rw[if_pos (decide_eq_true z)];rfl,by omega⟩
   ·exact ⟨s - 2,by rw[if_neg (by simpa using z)];rfl,by omega⟩
  simp![k5,hmm]
  refine CB.ZaB g5.bag (by decide) fun t' M6 t0' t1' g6=> ?_
  have G6:=(((G.trans g3).trans g4).trans ((Gr.app g4.bag _).trans g5)).trans g6
  have v6:=CA.Gr.up (CA.Gr.up (CA.Gr.up (CA.Gr.up v1 g3 (by omega)) g4 (by omega)) ((Gr.app g4.bag _).trans g5) (by omega)) g6 (by omega)
  have hp:=ZM v6
  have gl:=G6.len
  have p8:(8:Int) ^ (i + 1)=8 * 8 ^ i:=by rw[Int.pow_succ,Int.mul_comm]
  have ta:=Zp3 tn m0
  rw[<- p8] at ta
  have fc:=tn.fa
  have fb:=tn.fb
  have fcc:=tn.fc
  have fd:=tn.fd
  simp![Zu]
  refine brS (fun z=> ?_) (fun z=> ?_)
  ·simp![v6]
   exact ⟨a + mm * c,b + mm * d,c,d,_,_,_,rfl,ta.1,gl,by simp,G6.app2 _⟩
  ·simp![v6]
   exact ⟨a,b,c + mm * a,d + mm * b,_,_,_,rfl,ta.2,gl,by simp,G6.app2 _⟩
 ·rintro ρ M2 ⟨a,b,c,d,p,x2,x3,rfl,tn,pl,v1,G⟩
  simp![Zu]
  refine CB.ZaB G.bag (by decide) fun s M3 s0 s1 g3=> ?_
  have v3:=CA.Gr.up v1 g3 (by have:=hb.lt;omega)
  have hp:=ZM v3
  simp![Zu]
  refine ZsO (fun ρ M'=> ∃ a b c d p,ρ=[some (.ref n),some (.ref p),x2,x3]/\(a * d - b * c=1\/a * d - b * c= -1)/\M.length<=p/\M'[p]?=some (tb a b c d)/\Gr n M M') ?_ ?_
  ·refine brS (fun z=> ?_) (fun z=> ?_)
   ·have dt:c * b - d * a=1\/c * b - d * a= -1:=by
     rcases tn.det with e | e
     ·right;grind
     ·left;grind
    simp![v3]
    exact ⟨c,d,a,b,_,rfl,dt,by have:=(G.trans g3).len;omega,by simp,(G.trans g3).app2 _⟩
   ·simp![Zu]
    exact ⟨a,b,c,d,p,rfl,tn.det,pl,v3,G.trans g3⟩
  ·rintro _ M4 ⟨a,b,c,d,p,rfl,t4,l4,v4,G4⟩
   have hp4:=ZM v4
   simp![Zu]
   refine Znr (fun ρ=> ∃ x,ρ=[x]) (fun (i:Nat)=>D.int (([a,b,c,d].getD i 0).natAbs:Int)) v4 (by simp) ⟨_,rfl⟩ ?_ ?_
   ·rintro i hi ρ L ⟨x,rfl⟩
    have:i=0\/i=1\/i=2\/i=3:=by simp at hi;omega
    rcases this with rfl | rfl | rfl | rfl<;>simp only[List.getElem_cons_zero,List.getElem_cons_succ,List.getD_cons_zero,List.getD_cons_succ]<;>simp![Zu]<;>exact ⟨_,rfl⟩
   have mp:((List.range [D.int a,D.int b,D.int c,D.int d].length).map fun (i:Nat)=>D.int (([a,b,c,d].getD i 0).natAbs:Int))=nts [(a.natAbs:Int),b.natAbs,c.natAbs,d.natAbs]:=rfl
   rw[mp]
   obtain ⟨mx,hmx,hle⟩:=Zlp (L:=[(a.natAbs:Int),b.natAbs,c.natAbs,d.natAbs]) (by simp)
   have h1:=hle a.natAbs (by simp)
   have h2:=hle b.natAbs (by simp)
   have h3:=hle c.natAbs (by simp)
   have h4:=hle d.natAbs (by simp)
   have K5:Kp M4 (M4 ++ [SO.lst (nts [(a.natAbs:Int),b.natAbs,c.natAbs,d.natAbs])]):=Kp.app
   have id:=Zcx (L:=[(a.natAbs:Int),b.natAbs,c.natAbs,d.natAbs])
   generalize [(a.natAbs:Int),b.natAbs,c.natAbs,d.natAbs]=L4 at *
   simp![id,hmx]
   generalize M4 ++ [SO.lst (nts L4)]=M5 at *
   have G5:=G4.trans (K5.gr G4.bag)
   refine brS (fun z=> ?_) (fun z=> ?_)
   ·simp![Zu]
    exact q 0 1 1 0 _ _ ⟨by decide,by decide,by decide,by decide,.inr (by decide)⟩ (by have:=G5.len;omega) (by simp) (G5.app2 _)
   ·simp![Zu]
    exact q a b c d p M5 ⟨by omega,by omega,by omega,by omega,t4⟩ l4 (K5.get v4) G5
end
end CD
end
section
namespace CD
open PySem PySem.Spec L2 DL
open CV
open CA (Tn)
open CR (rt Sz)
open CH (rts ZF ZaC)
noncomputable def gg (a b c d:Int) (p:Pt):Pt:=(a * p.1 + b * p.2,c * p.1 + d * p.2)
theorem Zqt {a b c d:Int} (u v:Pt):X (gg a b c d u) (gg a b c d v)=(a * d - b * c) * X u v:=by unfold X gg;simp only;grind
noncomputable def sg {α:Type} (neg:Bool) (k:Nat) (L:List α):List α:=(if neg then L.reverse else L).drop k ++ (if neg then L.reverse else L).take k
theorem ZgW {α:Type} {neg:Bool} {k:Nat} {L:List α}:(sg neg k L).length=L.length:=by
 unfold sg
 rw[List.length_append,List.length_drop,List.length_take]
 cases neg<;>simp<;>omega
noncomputable def zp (us:List Pt) (xs:List D):List D:=List.zipWith (fun u x=>D.tup [pr u.1 u.2,x]) us xs
theorem Zi7 {us:List Pt} {xs:List D} (h:xs.length=us.length):(zp us xs).length=us.length:=by unfold zp;simp[h]
theorem Zi8 {us:List Pt} {xs:List D} {i:Nat} (h:i < (zp us xs).length) (h1:i < us.length) (h2:i < xs.length):(zp us xs)[i]=D.tup [pr us[i].1 us[i].2,xs[i]]:=List.getElem_zipWith
theorem Zp4 {us:List Pt} {xs:List D} (h:xs.length=us.length):(zp us xs).reverse=zp us.reverse xs.reverse:=by
 unfold zp
 rw[List.reverse_zipWith h.symm]
theorem Zp5 {us:List Pt} {xs:List D} {k:Nat} (h:xs.length=us.length):(zp us xs).drop k ++ (zp us xs).take k=zp (us.drop k ++ us.take k) (xs.drop k ++ xs.take k):=by
 unfold zp
 rw[List.zipWith_append (by simp[h]),List.drop_zipWith,List.take_zipWith]
theorem Zp6 {a b c d:Int} {rs:List Pt} {k:Nat} (hs:Smo rs) (hk:k<=rs.length) (hd:a * d - b * c=1\/a * d - b * c= -1):Smo (sg (decide (a * d - b * c < 0)) k (rs.map (gg a b c d))):=by
 unfold sg
 have ml:(rs.map (gg a b c d)).length=rs.length:=List.length_map _
 rcases hd with hd | hd
 ·rw[hd,if_neg (by decide)]
  exact (hs.map (f:=gg a b c d) fun p q=>by rw[Zqt,hd,Int.one_mul]).rot (by rw[ml];exact hk)
 ·rw[hd,if_pos (by decide)]
  refine Smo.rot (CA.Zm1 (by rw[ml];exact hs.len) (fun i=> ?_) ?_) (by rw[List.length_reverse,ml];exact hk)
  ·rw[ZgT hs.ne,ZgT hs.ne,Zqt,hd,hs.one];rfl
  ·exact hs.fan.flip (f:=gg a b c d) fun p q=>by rw[Zqt,hd]
theorem Zp7 {a b c d:Int} {rs:List Pt} {neg:Bool} {k:Nat} (hr:Nr 7 rs) (t:Tn 14 a b c d):Nr 200 (sg neg k (rs.map (gg a b c d))):=by
 intro p hp
 have:p∈rs.map (gg a b c d):=by
  unfold sg at hp
  cases neg
  ·simp only[Bool.false_eq_true,if_false,List.mem_append] at hp
   rcases hp with hp | hp
   ·exact List.mem_of_mem_drop hp
   ·exact List.mem_of_mem_take hp
  ·simp only[if_true,List.mem_append] at hp
   rcases hp with hp | hp
   ·exact List.mem_reverse.mp (List.mem_of_mem_drop hp)
   ·exact List.mem_reverse.mp (List.mem_of_mem_take hp)
 obtain ⟨x,hx,rfl⟩:=List.mem_map.mp this
 have h:=hr x hx
 have m1:=CA.Zjn t.fa h.1
 have m2:=CA.Zjn t.fb h.2
 have m3:=CA.Zjn t.fc h.1
 have m4:=CA.Zjn t.fd h.2
 unfold gg
 simp only
 omega
section
variable {Q:D->Sto->Prop} {E:Str->Sto->Prop} {M:Sto} {n m p:Nat} {rs:List Pt} {a b c d:Int} {ρ:Ro} {k:Nat} {xs:List D} {tg:Tg} {f:Ev}
theorem Zlq {st:Int} (h:M[n]?=some (.lst (prs rs))) (hx:M[m]?=some (.lst xs)) (lx:xs.length=rs.length) (ht:M[p]?=some (tb a b c d)) (t:Tn 14 a b c d) (hr:Nr 7 rs) (hl:rs.length<=1000) (hst:0<=st/\st<=rs.length)
  (q: ∀ o1 o2 M',Kp M M'->M.length<=o1->M.length<=o2->o1≠o2->M'[o1]?=some (.lst (prs (sg (decide (a * d - b * c < 0)) st.toNat (rs.map (gg a b c d)))))->M'[o2]?=some (.lst (sg (decide (a * d - b * c < 0)) st.toNat xs))->Q (.tup [.ref o1,.ref o2]) M'):wO (F_law_spun [.ref p,.ref n,.ref m,.int st] M) Q E:=by
 have hn:=ZM h
 have hm:=ZM hx
 have hp:=ZM ht
 obtain ⟨ta,tb',tc,td,te⟩:=t
 have zl:(List.zipWith (fun a b=>D.tup [a,b]) (prs rs) xs).length=rs.length:=by simp[Zad,lx]
 simp![F_law_spun,ZcO]
 refine Zsj (xs:=List.zipWith (fun a b=>D.tup [a,b]) (prs rs) xs) (fun ρ=> ∃ x y z,ρ=[x,y,z,some (.ref p)]) (fun (i:Nat)=>D.tup [pr (gg a b c d (cy rs i)).1 (gg a b c d (cy rs i)).2,xs.getD i .non]) (by omega) (by rw[ZmQ h,zl,Zad];omega) ⟨_,_,_,rfl⟩ (fun L i hi=> ?_) ?_ ?_
 ·rw[Zpx (by rw[Zbk hn];exact h) (by rw[Zbk hm];exact hx)]
 ·rintro i hi ρ L ⟨x,y,z,rfl⟩
  rw[zl] at hi
  have hp':(M ++ L)[p]?=some (tb a b c d):=by rw[Zbk hp];exact ht
  rw[List.getElem_zipWith,CC.Zew]
  simp![hp']
  refine ⟨⟨_,_,_,rfl⟩,?_⟩
  rw[List.getD_eq_getElem?_getD,List.getElem?_eq_getElem (by omega)]
  rfl
 have en:((List.range (List.zipWith (fun a b=>D.tup [a,b]) (prs rs) xs).length).map fun (i:Nat)=>D.tup [pr (gg a b c d (cy rs i)).1 (gg a b c d (cy rs i)).2,xs.getD i .non])=zp (rs.map (gg a b c d)) xs:=by
  rw[zl]
  apply List.ext_getElem
  ·rw[Zi7 (by rw[List.length_map,lx])];simp
  ·intro i h1 h2
   simp at h1
   rw[List.getElem_map,List.getElem_range,Zi8 h2 (by simp;omega) (by omega),List.getElem_map,Zfj h1,List.getD_eq_getElem?_getD,List.getElem?_eq_getElem (by omega)]
   rfl
 rw[en]
 have K1:Kp M (M ++ [SO.lst (zp (rs.map (gg a b c d)) xs)]):=Kp.app
 have r1:(M ++ [SO.lst (zp (rs.map (gg a b c d)) xs)])[M.length]?=some (.lst (zp (rs.map (gg a b c d)) xs)):=by simp
 generalize M ++ [SO.lst (zp (rs.map (gg a b c d)) xs)]=M1 at *
 have ht1:=K1.get ht
 have hl1:=ZM r1
 have hp1:=ZM ht1
 generalize hus:rs.map (gg a b c d)=us at *
 have lu:xs.length=us.length:=by rw[<- hus,List.length_map,lx]
 have lur:us.length=rs.length:=by omega
 clear en zl
 simp![ht1]
 refine ZsO (fun ρ M'=> ∃ o us' xs',ρ=[some (.ref p),some (.ref n),some (.ref m),some (.int st),some (.ref o)]/\Kp M M'/\M'[o]?=some (.lst (zp us' xs'))/\us'=(if decide (a * d - b * c < 0) then us.reverse else us)/\xs'=(if decide (a * d - b * c < 0) then xs.reverse else xs)) ?_ ?_
 ·refine brS (fun z=> ?_) (fun z=> ?_)
  ·simp![Zsk,r1]
   refine ⟨_,us.reverse,xs.reverse,rfl,K1.trans Kp.app,by rw[Zdx,Zp4 lu];rfl,by simp,by simp⟩
  ·simp![Zu]
   exact ⟨_,us,xs,rfl,K1,r1,by simp,by simp⟩
 ·rintro _ M2 ⟨o,us',xs',rfl,K2,r2,e1,e2⟩
  have l2:=ZM r2
  have lu':xs'.length=us'.length:=by
   rw[e1,e2]
   split<;>simp[lu]
  have lur':us'.length=rs.length:=by
   rw[e1]
   split<;>simp[lur]
  have lz:=Zi7 lu'
  simp![r2]
  refine ⟨by rw[List.length_take,List.length_drop];omega,?_⟩
  rw[Zp5 lu']
  have g1:sg (decide (a * d - b * c < 0)) st.toNat us=us'.drop st.toNat ++ us'.take st.toNat:=by rw[e1];rfl
  have g2:sg (decide (a * d - b * c < 0)) st.toNat xs=xs'.drop st.toNat ++ xs'.take st.toNat:=by rw[e2];rfl
  rw[<- g1,<- g2]
  have lg1:(sg (decide (a * d - b * c < 0)) st.toNat us).length=rs.length:=by rw[ZgW,lur]
  have lg2:(sg (decide (a * d - b * c < 0)) st.toNat xs).length=rs.length:=by rw[ZgW,lx]
  generalize sg (decide (a * d - b * c < 0)) st.toNat us=vs at *
  generalize sg (decide (a * d - b * c < 0)) st.toNat xs=ys at *
  generalize hM3:M2 ++ [SO.lst ((zp us' xs').drop st.toNat),SO.lst ((zp us' xs').take st.toNat),SO.lst (zp vs ys)]=M3
  have K3:Kp M M3:=by rw[<- hM3];exact K2.trans Kp.app
  have r3:M3[M2.length + 2]?=some (.lst (zp vs ys)):=by rw[<- hM3,Zk8];rfl
  have l3:M3.length=M2.length + 3:=by rw[<- hM3];simp
  have lz3:=Zi7 (us:=vs) (xs:=ys) (by omega)
  have kl:=K2.1
  refine Znr (fun ρ=> ∃ x y,ρ=[x,y]) (fun (i:Nat)=>pr (cy vs i).1 (cy vs i).2) r3 (by omega) ⟨_,_,rfl⟩ ?_ ?_
  ·rintro i hi ρ L ⟨x,y,rfl⟩
   have hi':i < vs.length:=by omega
   have e:(zp vs ys)[i]=D.tup [pr vs[i].1 vs[i].2,ys[i]'(by omega)]:=Zi8 _ _ _
   rw[e,Zfj hi']
   simp![Zu]
   exact ⟨_,_,rfl⟩
  have en:((List.range (zp vs ys).length).map fun (i:Nat)=>pr (cy vs i).1 (cy vs i).2)=prs vs:=by
   rw[lz3]
   conv=>rhs;rw[<- Zm7 (us:=vs)]
   unfold prs
   rw[List.map_map]
   rfl
  rw[en]
  have K4:Kp M3 (M3 ++ [SO.lst (prs vs)]):=Kp.app
  have r4:(M3 ++ [SO.lst (prs vs)])[M3.length]?=some (.lst (prs vs)):=by simp
  generalize M3 ++ [SO.lst (prs vs)]=M4 at *
  have r34:=K4.get r3
  have l4:=ZM r4
  simp![Zu]
  refine Znr (fun ρ=> ∃ x y,ρ=[x,y]) (fun (i:Nat)=>ys.getD i .non) r34 (by omega) ⟨_,_,rfl⟩ ?_ ?_
  ·rintro i hi ρ L ⟨x,y,rfl⟩
   have hi':i < vs.length:=by omega
   have e:(zp vs ys)[i]=D.tup [pr vs[i].1 vs[i].2,ys[i]'(by omega)]:=Zi8 _ _ _
   rw[e,List.getD_eq_getElem?_getD,List.getElem?_eq_getElem (by omega)]
   simp![Zu]
   exact ⟨⟨_,_,rfl⟩,rfl⟩
  have en2:((List.range (zp vs ys).length).map fun (i:Nat)=>ys.getD i .non)=ys:=by
   rw[lz3]
   apply List.ext_getElem
   ·simp;omega
   ·intro i h1 h2
    simp[List.getElem?_eq_getElem h2]
  rw[en2]
  simp![Zu]
  exact q _ _ _ ((K3.trans K4).trans Kp.app) (by omega) (by omega) (by omega) (by rw[Zbk l4];exact r4) (by simp)
end
end CD
end
section
namespace CD
open PySem PySem.Spec L2 DL
open CV CN CU CS
open CR (rt Sz)
open CH (rts ZF ZaC)
section
variable {Q:D->Sto->Prop} {E:Str->Sto->Prop} {M:Sto} {n m k l:Nat} {rs:List Pt} {p q:Rat} {xs:List Rat} {ms:List (Rat × Rat)}
theorem Zp8 (hp:Sz k p) (hq:Sz l q) (hk:k + l<=8000):wO (F_less [rt p,rt q] M) Q E=Q (.bl (decide (p < q))) M:=by
 have f1:ZO p.num (q.den:Int):=Zaq k l hp.1 (by simpa using hq.2) (by omega) (by omega)
 have f2:ZO q.num (p.den:Int):=Zaq l k hq.1 (by simpa using hp.2) (by omega) (by omega)
 simp![F_less,Zi6,ZbJ f1,ZbJ f2]
 rw[show decide (p.num * (q.den:Int) < q.num * (p.den:Int))=decide (p < q) from decide_eq_decide.mpr (Rat.lt_iff p q).symm]
end
end CD
end
section
namespace DL
open TW
open CN (cq bnd Zi4 Zlo)
section
variable {rs:List Pt} {hs:List Rat}
end
end DL
end
section
namespace CO
open PySem PySem.Spec L2 DL
open CC (F_following)
open CN (F_bends)
open CS (F_slope_through)
open CD (F_contrary F_less)
open CB (F_law_take)
noncomputable def Zbm:Sv:=(ZC (ZfD 4 5 (Zc (e2 dIx (Zh 0) (e2 dSub (Zh 3) (eC (.int 1)))) (Zc (e2 dIx (Zh 0) (e2 dMod (e2 dAdd (Zh 3) (eC (.int 1))) (Zk bLen (Zc (Zh 0) aNil)))) aNil)))
 (ZC (ZQ (gNm 6) (e2 dSub (eC (.int 0)) (e2 dSub (e2 dMul (e2 dIx (Zh 4) (eC (.int 0))) (e2 dIx (Zh 5) (eC (.int 1)))) (e2 dMul (e2 dIx (Zh 4) (eC (.int 1))) (e2 dIx (Zh 5) (eC (.int 0)))))))
 (ZC (ZQ (gNm 7) (e2 dAdd (e2 dIx (Zh 1) (e2 dSub (Zh 3) (eC (.int 1)))) (e2 dIx (Zh 1) (e2 dMod (e2 dAdd (Zh 3) (eC (.int 1))) (Zk bLen (Zc (Zh 0) aNil))))))
 (Zb0 (Zjm mApp (Zh 2) (Zc (e2 dAdd (Zh 7) (e2 dMul (Zh 6) (e2 dIx (Zh 1) (Zh 3)))) aNil))))))
noncomputable def Zcg:Sv:=(ZC (ZQ (gNm 2) (Zbn aNil))
 (ZC (Zb4 (gNm 3) (Zc (Zk bLen (Zc (Zh 0) aNil)) aNil) Zbm)
 (Zag (Zh 2))))
noncomputable def F_law_bends:List D->Sto->Out D:=fnF Zcg 2 6
noncomputable def Z5:Sv:=(Zag (Zk bAny (Zc (Zay (iSq (Zk F_bends (Zc (Zh 0) (Zc (Zh 1) aNil)))) 1 [] (gNm 0) (fun _ M=> .ok true M) (Zk F_less (Zc (Zh 0) (Zc (Zap (Zc (eC (.int 0)) (Zc (eC (.int 1)) aNil))) aNil)))) aNil)))
noncomputable def F_bends_inwards:List D->Sto->Out D:=fnF Z5 2 0
noncomputable def ZcY:Sv:=(ZC (ZQ (gNm 5) (Zbn (Zc (Zk F_contrary (Zc (e2 dIx (Zh 1) (Zh 3)) aNil)) (Zc (Zk F_contrary (Zc (Zk F_following (Zc (Zh 1) (Zc (Zh 3) aNil))) aNil)) aNil))))
 (Zb0 (Zjm mApp (Zh 2) (Zc (Zk F_slope_through (Zc (Zbn (Zc (Zh 4) (Zc (Zk F_following (Zc (Zh 0) (Zc (Zh 3) aNil))) aNil))) (Zc (Zh 5) aNil))) aNil))))
noncomputable def ZbN:Sv:=(ZC (sIf (tv (Zk F_bends_inwards (Zc (Zh 0) (Zc (Zh 1) aNil)))) (ZbH (PySem.Str.ofString "NoBend") (Zc (eC (.str (PySem.Str.ofString "the height bends inwards"))) aNil)) sNil)
 (ZC (ZQ (gNm 2) (Zbn aNil))
 (ZC (ZdO (gTp (gCs (gNm 3) (gCs (gNm 4) gNl))) (iEn (Zc (Zh 0) aNil)) ZcY)
 (Zag (Zh 2)))))
noncomputable def F_corners:List D->Sto->Out D:=fnF ZbN 2 4
end CO
end
section
namespace CO
open PySem PySem.Spec L2 DL
open CV CN CU CS CD
open CA (Tn)
open CR (rt Sz)
open CH (rts ZF ZaC)
noncomputable def bnI (rs:List Pt) (hs:List Int):List Int:=(List.range rs.length).map fun (i:Nat)=>cn hs ((i:Int) - 1) + cn hs ((i:Int) + 1) + (0 - X (cy rs ((i:Int) - 1)) (cy rs ((i:Int) + 1))) * cn hs i
theorem Zts {p q r:Pt} (h1:X p q=1) (h2:X q r=1):p.1 + r.1=X p r * q.1/\p.2 + r.2=X p r * q.2:=by
 unfold X at *
 constructor<;>grind
section
variable {Q:D->Sto->Prop} {E:Str->Sto->Prop} {M:Sto} {n m p:Nat} {rs us:List Pt} {hs:List Int}
theorem Zkw (h:M[n]?=some (.lst (prs rs))) (hb:Nr 200 rs) (hne:rs≠[]) (hl:rs.length<=1000) (hm:M[m]?=some (.lst (nts hs))) (lh:hs.length=rs.length)
  (q:Q (.ref M.length) (M ++ [.lst (nts (bnI rs hs))])):wO (F_law_bends [.ref n,.ref m] M) Q E:=by
 have hn:=ZM h
 have hm':=ZM hm
 have hl0:rs.length≠0:=by simpa using hne
 simp![F_law_bends,Zcg,h]
 refine ⟨by omega,?_⟩
 have bl:(bnI rs hs).length=rs.length:=by simp[bnI]
 refine Zff (fun i ρ M'=>M'=M ++ [.lst (nts ((bnI rs hs).take i))]/\ ∃ x3 x4 x5 x6 x7,ρ=[some (.ref n),some (.ref m),some (.ref M.length),x3,x4,x5,x6,x7]) ⟨rfl,_,_,_,_,_,rfl⟩ ?_ ?_
 ·rintro i ρ _ hi ⟨rfl,x3,x4,x5,x6,x7,rfl⟩
  have hi':i < rs.length:=by omega
  have em:=ZaA (i:=(i:Int) + 1) hl0
  have b1:=hb _ (Zfk (i:=(i:Int) - 1) hne)
  have b2:=hb _ (Zfk (i:=(i:Int) + 1) hne)
  rw[show (0:Int) + (i:Int)=i by omega]
  have m1:=CA.Zjn b1.1 b2.2
  have m2:=CA.Zjn b1.2 b2.1
  have tk:(bnI rs hs).take (i + 1)=(bnI rs hs).take i ++ [cn hs ((i:Int) - 1) + cn hs ((i:Int) + 1) + (0 - X (cy rs ((i:Int) - 1)) (cy rs ((i:Int) + 1))) * cn hs i]:=by
   rw[List.take_succ_eq_append_getElem (by omega)]
   simp[bnI]
  have cm:=Zpc (rs:=hs) (i:=(i:Int) + 1)
  rw[lh] at cm
  unfold X at tk
  simp![Zbm,h,hm,ZgS,Zla,Zd3,cm,tk]
  exact ⟨by rw[List.length_take];omega,_,_,_,_,_,rfl⟩
 ·rintro ρ _ ⟨rfl,x3,x4,x5,x6,x7,rfl⟩
  simp![Zu]
  rw[show ((rs.length:Int)).toNat=(bnI rs hs).length by omega,List.take_length]
  exact q
theorem Zna {k:Nat} {o:SO} (h:Bag n M) (hk:k≠n):Bag n (M.set k o):=by
 obtain ⟨a,b,ha,e⟩:=h
 exact ⟨a,b,ha,by rw[List.getElem?_set_ne hk];exact e⟩
end
end CO
end
section
namespace CO
open PySem PySem.Spec L2 DL
open CV CN CU CS CD
open CA (Tn)
open CR (rt Sz)
open CH (rts ZF ZaC)
noncomputable def Zsu (Q:D->Sto->Prop) (M:Sto) (bs:List Bool):Prop:=Q (.bl (bs.any id)) M
noncomputable def Zp9 (Q:D->Sto->Prop) (M:Sto) (xs:List D):Prop:=wG (Zab xs) (Zsu Q M)
section
variable {Q:D->Sto->Prop} {E:Str->Sto->Prop} {M:Sto} {n m k:Nat} {rs us:List Pt} {hs:List Rat}
theorem Zsv:wO (bAny [.ref n] M) Q E=wL M[n]? (Zp9 Q M):=by
 show wO (match M[n]? with | some (.lst xs)=>(match Zab xs with | some bs=>Out.ok (.bl (bs.any id)) M | none=> .bad) | none=> .bad) Q E=_
 cases M[n]? with
 |none=>rfl
 |some o=>
  cases o with
  |lst xs=>
   show wO (match Zab xs with | some bs=>Out.ok (.bl (bs.any id)) M | none=> .bad) Q E=wG (Zab xs) (Zsu Q M)
   cases Zab xs<;>rfl
end
end CO
end
section
end
section
end
section
end
section
end
section
end
section
end
section
end
section
end
section
end
section
end
section
end
section
end
section
end
section
end
section
end
section
end
section
end
section
end
section
end
section
end
section
end
section
namespace K51
open CR (ZcK F_is_whole ZaS Zbf F_greatest_divisor Zf5 F_ratio ZiY F_plus Zf6 F_times)
open CC (ZbK F_crossed ZaE F_following Z3 ZaF F_unspanned Zas F_ask_smooth)
open CE (Zcu F_numbers)
open CS (Zi2 F_minus Zbg F_ask_height ZgV F_sloped ZbM F_slope_through)
open CD (Zi6 F_less Zcw Zd6 F_greatest Zd7 F_contrary Zcf F_height_of Zbb F_law_short_put Zbx ZcN F_law_base Zbl Zce F_law_table ZcO F_law_spun)
open CN (ZcL ZdE F_bends Zcv Zd5 F_crossing)
open CO (Z5 F_bends_inwards ZcY ZbN F_corners Zbm Zcg F_law_bends)
open CB (Zcd F_law_purse ZcJ F_law_take)
open PySem PySem.Spec L2 DL
noncomputable def top (i:Nat):Stmt:=PySem.Challenge.pw_rayround_k51_no_dots_no_corners.main.body.getD i (.Pass ⟨0,0,0,0⟩)
structure Txt (K:PySem.W.Frag) (mg:Str->Option Value):Prop where
 gl: ∀ c v,PySem.W.nsIn K mainGlobals c=some (some v)->mg c=some v
 b_isinstance:mg "isinstance"=none
 b_int:mg "int"=none
 b_bool:mg "bool"=none
 b_abs:mg "abs"=none
 b_len:mg "len"=none
 b_enumerate:mg "enumerate"=none
 b_range:mg "range"=none
 b_zip:mg "zip"=none
 b_any:mg "any"=none
 b_list:mg "list"=none
 b_max:mg "max"=none
 b_min:mg "min"=none
 b_reversed:mg "reversed"=none
 b_ValueError:mg "ValueError"=none
 ex_NotSmooth:ZfS K "NotSmooth"=true
 ex_NoRatio:ZfS K "NoRatio"=true
 ex_NoHeight:ZfS K "NoHeight"=true
 ex_NoBend:ZfS K "NoBend"=true
 it_NoBend:Zah K "NoBend" [(PySem.Str.ofString "NotSmooth",false),(PySem.Str.ofString "NoRatio",false),(PySem.Str.ofString "NoHeight",false),(PySem.Str.ofString "NoBend",true)]=true
 it_NoBody:Zah K "NoBody" [(PySem.Str.ofString "NotSmooth",false),(PySem.Str.ofString "NoRatio",false),(PySem.Str.ofString "NoHeight",false),(PySem.Str.ofString "NoBend",false)]=true
 it_NoFour:Zah K "NoFour" [(PySem.Str.ofString "NotSmooth",false),(PySem.Str.ofString "NoRatio",false),(PySem.Str.ofString "NoHeight",false),(PySem.Str.ofString "NoBend",false)]=true
 it_NoHeight:Zah K "NoHeight" [(PySem.Str.ofString "NotSmooth",false),(PySem.Str.ofString "NoRatio",false),(PySem.Str.ofString "NoHeight",true),(PySem.Str.ofString "NoBend",false)]=true
 it_NoMinus:Zah K "NoMinus" [(PySem.Str.ofString "NotSmooth",false),(PySem.Str.ofString "NoRatio",false),(PySem.Str.ofString "NoHeight",false),(PySem.Str.ofString "NoBend",false)]=true
 it_NoOne:Zah K "NoOne" [(PySem.Str.ofString "NotSmooth",false),(PySem.Str.ofString "NoRatio",false),(PySem.Str.ofString "NoHeight",false),(PySem.Str.ofString "NoBend",false)]=true
 it_NoPlace:Zah K "NoPlace" [(PySem.Str.ofString "NotSmooth",false),(PySem.Str.ofString "NoRatio",false),(PySem.Str.ofString "NoHeight",false),(PySem.Str.ofString "NoBend",false)]=true
 it_NoRatio:Zah K "NoRatio" [(PySem.Str.ofString "NotSmooth",false),(PySem.Str.ofString "NoRatio",true),(PySem.Str.ofString "NoHeight",false),(PySem.Str.ofString "NoBend",false)]=true
 it_NoRound:Zah K "NoRound" [(PySem.Str.ofString "NotSmooth",false),(PySem.Str.ofString "NoRatio",false),(PySem.Str.ofString "NoHeight",false),(PySem.Str.ofString "NoBend",false)]=true
 it_NoRow:Zah K "NoRow" [(PySem.Str.ofString "NotSmooth",false),(PySem.Str.ofString "NoRatio",false),(PySem.Str.ofString "NoHeight",false),(PySem.Str.ofString "NoBend",false)]=true
 it_NoText:Zah K "NoText" [(PySem.Str.ofString "NotSmooth",false),(PySem.Str.ofString "NoRatio",false),(PySem.Str.ofString "NoHeight",false),(PySem.Str.ofString "NoBend",false)]=true
 it_NotSmooth:Zah K "NotSmooth" [(PySem.Str.ofString "NotSmooth",true),(PySem.Str.ofString "NoRatio",false),(PySem.Str.ofString "NoHeight",false),(PySem.Str.ofString "NoBend",false)]=true
 it_NoTurning:Zah K "NoTurning" [(PySem.Str.ofString "NotSmooth",false),(PySem.Str.ofString "NoRatio",false),(PySem.Str.ofString "NoHeight",false),(PySem.Str.ofString "NoBend",false)]=true
 it_NoWedge:Zah K "NoWedge" [(PySem.Str.ofString "NotSmooth",false),(PySem.Str.ofString "NoRatio",false),(PySem.Str.ofString "NoHeight",false),(PySem.Str.ofString "NoBend",false)]=true
 it_Unknown:Zah K "Unknown" [(PySem.Str.ofString "NotSmooth",false),(PySem.Str.ofString "NoRatio",false),(PySem.Str.ofString "NoHeight",false),(PySem.Str.ofString "NoBend",false)]=true
 ib_ValueError:Zip K "ValueError" [(PySem.Str.ofString "NotSmooth",true),(PySem.Str.ofString "NoRatio",true),(PySem.Str.ofString "NoHeight",true),(PySem.Str.ofString "NoBend",true)]=true
 ct_RayError:ZgK K "RayError" [PySem.Str.ofString "NotSmooth",PySem.Str.ofString "NoRatio",PySem.Str.ofString "NoHeight",PySem.Str.ofString "NoBend"]=true
 fn_corners: ∃ f,PySem.W.nsIn K mainGlobals "corners"=some (some (.ref f))
 fn_dots_by_crossing: ∃ f,PySem.W.nsIn K mainGlobals "dots_by_crossing"=some (some (.ref f))
 fn_dots: ∃ f,PySem.W.nsIn K mainGlobals "dots"=some (some (.ref f))
 fn_height_of: ∃ f,PySem.W.nsIn K mainGlobals "height_of"=some (some (.ref f))
section
variable {P:Program} {w:World} {K:PySem.W.Frag} {mg:Str->Option Value} {base:Heap}
noncomputable abbrev ZaX:Stmt:=top 18
theorem Zf9:FnScope ["thing"] ["thing"] (Zi ZaX):=⟨rfl,rfl,rfl,by decide +kernel,rfl,by decide +kernel,by decide +kernel⟩
theorem Zga {f:Addr} {fd:FuncData} (F:Fun K "is_whole" "is_whole" ZaX f fd) (T:Txt K mg):FnOk P w K mg base (CXE P w) 1 f fd ["thing"] (spD K F_is_whole):=
 ZP F Zf9 rfl rfl fun cdv A outer s H E hr θ=>(Zj (Zw (ZkP (ZkT Zl0 T.b_isinstance T.b_int ZdW (Zb 0)) (Zh5 (Zn7 (ZkT ZjN T.b_isinstance T.b_bool Zl2 (Zb 0)))))))
noncomputable abbrev ZK:Stmt:=top 19
theorem Zak:FnScope ["one","other","high","low"] ["one","other"] (Zi ZK):=⟨rfl,rfl,rfl,by decide +kernel,rfl,by decide +kernel,by decide +kernel⟩
theorem Zch {f:Addr} {fd:FuncData} (F:Fun K "greatest_divisor" "greatest_divisor" ZK f fd) (T:Txt K mg):FnOk P w K mg base (CXE P w) 101 f fd ["one","other"] (spD K F_greatest_divisor):=
 ZP F Zak rfl rfl fun cdv A outer s H E hr θ=>(Zf (Zdt 2 3 (Zz hr (by decide)) Zak.nd (Za (Zs Zcn ZeX T.b_abs Ze4 (Za (Zb 0) Zd)) (Za (Zs Zcn ZeX T.b_abs Ze4 (Za (Zb 1) Zd)) Zd)))
  (Zf (Zej θ.own (ZJ (ZgD hr.units) ZjK (Zb 3) Ze) (Zj (Zdt 2 3 (Zz hr (by decide)) Zak.nd (Za (Zb 3) (Za (ZbF (Zb 2) (Zb 3)) Zd)))))
  (Zj (Zw (Zb 2)))))
noncomputable abbrev Zbr:Stmt:=top 21
theorem Zhi:FnScope ["one","other"] ["one","other"] (Zi Zbr):=⟨rfl,rfl,rfl,by decide +kernel,rfl,by decide +kernel,by decide +kernel⟩
theorem Zhj {f:Addr} {fd:FuncData} (F:Fun K "crossed" "crossed" Zbr f fd) (T:Txt K mg):FnOk P w K mg base (CXE P w) 1 f fd ["one","other"] (spD K F_crossed):=
 ZP F Zhi rfl rfl fun cdv A outer s H E hr θ=>(Zj (Zw (Zaa (Zy (Zl (Zb 0) Ze) (Zl (Zb 1) Ze)) (Zy (Zl (Zb 0) Ze) (Zl (Zb 1) Ze)))))
noncomputable abbrev Zbs:Stmt:=top 22
noncomputable def Zi9:Sv:=(Zag (e2 dAdd (e2 dMul (e2 dIx (Zh 0) (eC (.int 0))) (e2 dIx (Zh 1) (eC (.int 0)))) (e2 dMul (e2 dIx (Zh 0) (eC (.int 1))) (e2 dIx (Zh 1) (eC (.int 1))))))
noncomputable def F_product:List D->Sto->Out D:=fnF Zi9 2 0
theorem Zhk:FnScope ["one","other"] ["one","other"] (Zi Zbs):=⟨rfl,rfl,rfl,by decide +kernel,rfl,by decide +kernel,by decide +kernel⟩
theorem Zhl {f:Addr} {fd:FuncData} (F:Fun K "product" "product" Zbs f fd) (T:Txt K mg):FnOk P w K mg base (CXE P w) 1 f fd ["one","other"] (spD K F_product):=
 ZP F Zhk rfl rfl fun cdv A outer s H E hr θ=>(Zj (Zw (ZH (Zy (Zl (Zb 0) Ze) (Zl (Zb 1) Ze)) (Zy (Zl (Zb 0) Ze) (Zl (Zb 1) Ze)))))
noncomputable abbrev ZaG:Stmt:=top 24
theorem Zfp:FnScope ["things","at"] ["things","at"] (Zi ZaG):=⟨rfl,rfl,rfl,by decide +kernel,rfl,by decide +kernel,by decide +kernel⟩
theorem Zfq {f:Addr} {fd:FuncData} (F:Fun K "following" "following" ZaG f fd) (T:Txt K mg):FnOk P w K mg base (CXE P w) 1 f fd ["things","at"] (spD K F_following):=
 ZP F Zfp rfl rfl fun cdv A outer s H E hr θ=>(Zj (Zw (Zl (Zb 0) (ZbF (ZH (Zb 1) Ze) (Zs Zq Zaf T.b_len PySem.boot_len (Za (Zb 0) Zd))))))
noncomputable abbrev ZaH:Stmt:=top 25
theorem ZbO:FnScope ["rays","at","ray"] ["rays"] (Zi ZaH):=⟨rfl,rfl,rfl,by decide +kernel,rfl,by decide +kernel,by decide +kernel⟩
theorem Zfr {f:Addr} {fd:FuncData} (F:Fun K "unspanned" "unspanned" ZaH f fd) (T:Txt K mg) (C_following:Cal P w K mg base "following" 1 2 F_following) (C_crossed:Cal P w K mg base "crossed" 1 2 F_crossed):FnOk P w K mg base (CXE P w) 101 f fd ["rays"] (spD K F_unspanned):=
 ZP F ZbO rfl rfl fun cdv A outer s H E hr θ=>(Zf (ZcG θ.own (ZfV (hr.hd (by decide)) T.b_enumerate (Za (Zb 0) Zd)) (Zar (Zz hr (by decide)) (Zp (Zm 1 ZbO.nd) (Zp (Zm 2 ZbO.nd) ZT)) (hlen:=(Zx (Zx (fun _ _ _ h=>ZU h))))) (Zj (Zac (ZJ (ZgD hr.units) ZjK (Zg C_crossed θ (hr.mono (by decide)) (Za (Zb 2) (Za (Zg C_following θ (hr.mono (by decide)) (Za (Zb 0) (Za (Zb 1) Zd))) Zd))) Ze) (Zj (Zw (Zb 1))) ZD)))
  (Zj (Zw ZdU)))
noncomputable abbrev Zat:Stmt:=top 26
theorem Zcy:FnScope ["rays","at"] ["rays"] (Zi Zat):=⟨rfl,rfl,rfl,by decide +kernel,rfl,by decide +kernel,by decide +kernel⟩
theorem Zex {f:Addr} {fd:FuncData} (F:Fun K "ask_smooth" "ask_smooth" Zat f fd) (T:Txt K mg) (C_unspanned:Cal P w K mg base "unspanned" 101 1 F_unspanned):FnOk P w K mg base (CXE P w) 102 f fd ["rays"] (spD K F_ask_smooth):=
 ZP F Zcy rfl rfl fun cdv A outer s H E hr θ=>(Zf (Zr 1 Zcy.nd (Zg C_unspanned θ (hr.mono (by decide)) (Za (Zb 0) Zd)))
  (Zj (Zac (ZJ Zia ZjM (Zb 1) ZdU) (Zj (ZbV θ T.ex_NotSmooth T.gl (hr.hd (by decide)) (Za (Zoz (ZbI ZaQ (ZbI (Zmm (Zb 1)) (ZbI ZaQ Zk3)))) Zd))) ZD)))
noncomputable abbrev Zbc:Stmt:=top 28
theorem Zhm:FnScope ["rays"] ["rays"] (Zi Zbc):=⟨rfl,rfl,rfl,by decide +kernel,rfl,by decide +kernel,by decide +kernel⟩
theorem Zhn {f:Addr} {fd:FuncData} (F:Fun K "numbers" "numbers" Zbc f fd) (T:Txt K mg) (C_ask_smooth:Cal P w K mg base "ask_smooth" 102 1 F_ask_smooth) (C_following:Cal P w K mg base "following" 1 2 F_following) (C_crossed:Cal P w K mg base "crossed" 1 2 F_crossed):FnOk P w K mg base (CXE P w) 103 f fd ["rays"] (spD K F_numbers):=
 ZP F Zhm rfl rfl fun cdv A outer s H E hr θ=>(Zf (ZaV (Zg C_ask_smooth θ (hr.mono (by decide)) (Za (Zb 0) Zd)))
  (Zj (Zw (Zbj (Zk0 (XN:=["rays"]) (dn:=(Zi Zbc).names) (N:=["at","rays"]) (k:=1) (fr:=[0]) rfl rfl rfl rfl (by decide +kernel)) (Zig T.b_range (Za (Zs Zq Zaf T.b_len PySem.boot_len (Za (Zb 0) Zd)) Zd)) (fun _ _ _ _=>(Zm 0 (show List.Nodup (["at","rays"]:List Str) by decide +kernel))) (fun _ _ _ _=>(Or.inl ⟨rfl,rfl⟩)) (fun _ _ _ _=>(Zg C_crossed Za8 (hr.mono (by decide)) (Za (Zg C_following Za8 (hr.mono (by decide)) (Za (Zb 1) (Za (Zb 0) Zd))) (Za (Zl (Zb 1) (Zaa (Zb 0) Ze)) Zd))))))))
noncomputable abbrev ZcP:Stmt:=top 30
theorem Zey:FnScope ["top","bottom","part"] ["top","bottom"] (Zi ZcP):=⟨rfl,rfl,rfl,by decide +kernel,rfl,by decide +kernel,by decide +kernel⟩
theorem Zkx {f:Addr} {fd:FuncData} (F:Fun K "ratio" "ratio" ZcP f fd) (T:Txt K mg) (C_is_whole:Cal P w K mg base "is_whole" 1 1 F_is_whole) (C_greatest_divisor:Cal P w K mg base "greatest_divisor" 101 2 F_greatest_divisor):FnOk P w K mg base (CXE P w) 102 f fd ["top","bottom"] (spD K F_ratio):=
 ZP F Zey rfl rfl fun cdv A outer s H E hr θ=>(Zf (Zac (ZfP (ZeV (ZbE (ZaD (Zg C_is_whole θ (hr.mono (by decide)) (Za (Zb 0) Zd)))) (ZcV (ZbE (ZaD (Zg C_is_whole θ (hr.mono (by decide)) (Za (Zb 1) Zd))))))) (Zj (ZbV θ T.ex_NoRatio T.gl (hr.hd (by decide)) (Za ZaQ Zd))) ZD)
  (Zf (Zac (ZJ (Zb3 hr.units) ZdN (Zb 1) Ze) (Zj (ZbV θ T.ex_NoRatio T.gl (hr.hd (by decide)) (Za ZaQ Zd))) ZD)
  (Zf (Zr 2 Zey.nd (Zg C_greatest_divisor θ (hr.mono (by decide)) (Za (Zb 0) (Za (Zb 1) Zd))))
  (Zf (Zac (ZJ Zc1 Zc3 (Zb 1) Ze) (Zj (Zr 2 Zey.nd (Zax (Zb 2)))) ZD)
  (Zj (Zw (Zv (Za (Za7 (Zb 0) (Zb 2)) (Za (Za7 (Zb 1) (Zb 2)) Zd)))))))))
noncomputable abbrev Zd8:Stmt:=top 31
theorem Znb:FnScope ["one","other"] ["one","other"] (Zi Zd8):=⟨rfl,rfl,rfl,by decide +kernel,rfl,by decide +kernel,by decide +kernel⟩
theorem Znc {f:Addr} {fd:FuncData} (F:Fun K "plus" "plus" Zd8 f fd) (T:Txt K mg) (C_ratio:Cal P w K mg base "ratio" 102 2 F_ratio):FnOk P w K mg base (CXE P w) 103 f fd ["one","other"] (spD K F_plus):=
 ZP F Znb rfl rfl fun cdv A outer s H E hr θ=>(Zj (Zw (Zg C_ratio θ (hr.mono (by decide)) (Za (ZH (Zy (Zl (Zb 0) Ze) (Zl (Zb 1) Ze)) (Zy (Zl (Zb 1) Ze) (Zl (Zb 0) Ze))) (Za (Zy (Zl (Zb 0) Ze) (Zl (Zb 1) Ze)) Zd)))))
noncomputable abbrev ZcQ:Stmt:=top 32
theorem Zky:FnScope ["one","other"] ["one","other"] (Zi ZcQ):=⟨rfl,rfl,rfl,by decide +kernel,rfl,by decide +kernel,by decide +kernel⟩
theorem Zkz {f:Addr} {fd:FuncData} (F:Fun K "minus" "minus" ZcQ f fd) (T:Txt K mg) (C_ratio:Cal P w K mg base "ratio" 102 2 F_ratio):FnOk P w K mg base (CXE P w) 103 f fd ["one","other"] (spD K F_minus):=
 ZP F Zky rfl rfl fun cdv A outer s H E hr θ=>(Zj (Zw (Zg C_ratio θ (hr.mono (by decide)) (Za (Zaa (Zy (Zl (Zb 0) Ze) (Zl (Zb 1) Ze)) (Zy (Zl (Zb 1) Ze) (Zl (Zb 0) Ze))) (Za (Zy (Zl (Zb 0) Ze) (Zl (Zb 1) Ze)) Zd)))))
noncomputable abbrev ZcR:Stmt:=top 33
theorem ZkA:FnScope ["one","other"] ["one","other"] (Zi ZcR):=⟨rfl,rfl,rfl,by decide +kernel,rfl,by decide +kernel,by decide +kernel⟩
theorem ZkB {f:Addr} {fd:FuncData} (F:Fun K "times" "times" ZcR f fd) (T:Txt K mg) (C_ratio:Cal P w K mg base "ratio" 102 2 F_ratio):FnOk P w K mg base (CXE P w) 103 f fd ["one","other"] (spD K F_times):=
 ZP F ZkA rfl rfl fun cdv A outer s H E hr θ=>(Zj (Zw (Zg C_ratio θ (hr.mono (by decide)) (Za (Zy (Zl (Zb 0) Ze) (Zl (Zb 1) Ze)) (Za (Zy (Zl (Zb 0) Ze) (Zl (Zb 1) Ze)) Zd)))))
noncomputable abbrev Zd9:Stmt:=top 34
theorem Znd:FnScope ["one","other"] ["one","other"] (Zi Zd9):=⟨rfl,rfl,rfl,by decide +kernel,rfl,by decide +kernel,by decide +kernel⟩
theorem Zne {f:Addr} {fd:FuncData} (F:Fun K "less" "less" Zd9 f fd) (T:Txt K mg):FnOk P w K mg base (CXE P w) 1 f fd ["one","other"] (spD K F_less):=
 ZP F Znd rfl rfl fun cdv A outer s H E hr θ=>(Zj (Zw (ZcU Zc1 Zc3 (Zy (Zl (Zb 0) Ze) (Zl (Zb 1) Ze)) (Zy (Zl (Zb 1) Ze) (Zl (Zb 0) Ze)))))
noncomputable abbrev ZaY:Stmt:=top 35
theorem Zby:FnScope ["ones","best","one"] ["ones"] (Zi ZaY):=⟨rfl,rfl,rfl,by decide +kernel,rfl,by decide +kernel,by decide +kernel⟩
theorem Zgb {f:Addr} {fd:FuncData} (F:Fun K "greatest" "greatest" ZaY f fd) (T:Txt K mg) (C_less:Cal P w K mg base "less" 1 2 F_less):FnOk P w K mg base (CXE P w) 2 f fd ["ones"] (spD K F_greatest):=
 ZP F Zby rfl rfl fun cdv A outer s H E hr θ=>(Zf (Zr 1 Zby.nd (Zl (Zb 0) Ze))
  (Zf (Ze2 θ.own (Zb 0) (Zm 2 Zby.nd) (Zj (Zac (ZaD (Zg C_less θ (hr.mono (by decide)) (Za (Zb 1) (Za (Zb 2) Zd)))) (Zj (Zr 1 Zby.nd (Zb 2))) ZD)))
  (Zj (Zw (Zb 1)))))
noncomputable abbrev ZV:Stmt:=top 36
noncomputable def Zcz:Sv:=(ZQ (gNm 1) (e2 dMul (Zh 1) (e2 dDiv (e2 dIx (Zh 2) (eC (.int 1))) (Zk F_greatest_divisor (Zc (Zh 1) (Zc (e2 dIx (Zh 2) (eC (.int 1))) aNil))))))
noncomputable def ZdF:Sv:=(ZC (ZQ (gNm 1) (eC (.int 1)))
 (ZC (ZkX (gNm 2) (Zh 0) Zcz)
 (Zag (Zh 1))))
noncomputable def F_common_bottom:List D->Sto->Out D:=fnF ZdF 1 2
theorem Zai:FnScope ["ones","bottom","one"] ["ones"] (Zi ZV):=⟨rfl,rfl,rfl,by decide +kernel,rfl,by decide +kernel,by decide +kernel⟩
theorem Zc5 {f:Addr} {fd:FuncData} (F:Fun K "common_bottom" "common_bottom" ZV f fd) (T:Txt K mg) (C_greatest_divisor:Cal P w K mg base "greatest_divisor" 101 2 F_greatest_divisor):FnOk P w K mg base (CXE P w) 102 f fd ["ones"] (spD K F_common_bottom):=
 ZP F Zai rfl rfl fun cdv A outer s H E hr θ=>(Zf (Zr 1 Zai.nd Ze)
  (Zf (Ze2 θ.own (Zb 0) (Zm 2 Zai.nd) (Zj (Zr 1 Zai.nd (Zy (Zb 1) (Za7 (Zl (Zb 2) Ze) (Zg C_greatest_divisor θ (hr.mono (by decide)) (Za (Zb 1) (Za (Zl (Zb 2) Ze) Zd))))))))
  (Zj (Zw (Zb 1)))))
noncomputable abbrev ZaI:Stmt:=top 37
noncomputable def Zgc:Sv:=(Zag (e2 dMul (e2 dIx (Zh 0) (eC (.int 0))) (e2 dDiv (Zh 1) (e2 dIx (Zh 0) (eC (.int 1))))))
noncomputable def F_stretched:List D->Sto->Out D:=fnF Zgc 2 0
theorem Zfs:FnScope ["one","bottom"] ["one","bottom"] (Zi ZaI):=⟨rfl,rfl,rfl,by decide +kernel,rfl,by decide +kernel,by decide +kernel⟩
theorem Zft {f:Addr} {fd:FuncData} (F:Fun K "stretched" "stretched" ZaI f fd) (T:Txt K mg):FnOk P w K mg base (CXE P w) 1 f fd ["one","bottom"] (spD K F_stretched):=
 ZP F Zfs rfl rfl fun cdv A outer s H E hr θ=>(Zj (Zw (Zy (Zl (Zb 0) Ze) (Za7 (Zb 1) (Zl (Zb 0) Ze)))))
noncomputable abbrev Zau:Stmt:=top 39
theorem Zez:FnScope ["rays","height"] ["rays","height"] (Zi Zau):=⟨rfl,rfl,rfl,by decide +kernel,rfl,by decide +kernel,by decide +kernel⟩
theorem ZeA {f:Addr} {fd:FuncData} (F:Fun K "ask_height" "ask_height" Zau f fd) (T:Txt K mg):FnOk P w K mg base (CXE P w) 101 f fd ["rays","height"] (spD K F_ask_height):=
 ZP F Zez rfl rfl fun cdv A outer s H E hr θ=>(Zj (Zac (ZJ (ZgD hr.units) ZjK (Zs Zq Zaf T.b_len PySem.boot_len (Za (Zb 1) Zd)) (Zs Zq Zaf T.b_len PySem.boot_len (Za (Zb 0) Zd))) (Zj (ZbV θ T.ex_NoHeight T.gl (hr.hd (by decide)) (Za (Zoz (ZbI ZaQ (ZbI (Zmm (Zs Zq Zaf T.b_len PySem.boot_len (Za (Zb 0) Zd))) (ZbI ZaQ (ZbI (Zmm (Zs Zq Zaf T.b_len PySem.boot_len (Za (Zb 1) Zd))) (ZbI ZaQ Zk3)))))) Zd))) ZD))
noncomputable abbrev ZcS:Stmt:=top 40
theorem ZbX:FnScope ["rays","height","row","told","at","own","beside"] ["rays","height"] (Zi ZcS):=⟨rfl,rfl,rfl,by decide +kernel,rfl,by decide +kernel,by decide +kernel⟩
theorem ZkC {f:Addr} {fd:FuncData} (F:Fun K "bends" "bends" ZcS f fd) (T:Txt K mg) (C_numbers:Cal P w K mg base "numbers" 103 1 F_numbers) (C_ask_height:Cal P w K mg base "ask_height" 101 2 F_ask_height) (C_following:Cal P w K mg base "following" 1 2 F_following) (C_plus:Cal P w K mg base "plus" 103 2 F_plus) (C_times:Cal P w K mg base "times" 103 2 F_times):FnOk P w K mg base (CXE P w) 104 f fd ["rays","height"] (spD K F_bends):=
 ZP F ZbX rfl rfl fun cdv A outer s H E hr θ=>(Zf (Zr 2 ZbX.nd (Zg C_numbers θ (hr.mono (by decide)) (Za (Zb 0) Zd)))
  (Zf (ZaV (Zg C_ask_height θ (hr.mono (by decide)) (Za (Zb 0) (Za (Zb 1) Zd))))
  (Zf (Zr 3 ZbX.nd (ZG Zd))
  (Zf (ZcG θ.own (ZfV (hr.hd (by decide)) T.b_enumerate (Za (Zb 1) Zd)) (Zar (Zz hr (by decide)) (Zp (Zm 4 ZbX.nd) (Zp (Zm 5 ZbX.nd) ZT)) (hlen:=(Zx (Zx (fun _ _ _ h=>ZU h))))) (Zf (Zr 6 ZbX.nd (Zg C_plus θ (hr.mono (by decide)) (Za (Zl (Zb 1) (Zaa (Zb 4) Ze)) (Za (Zg C_following θ (hr.mono (by decide)) (Za (Zb 1) (Za (Zb 4) Zd))) Zd))))
  (Zj (ZaV (Zcq (Zb 3) (Zg C_plus θ (hr.mono (by decide)) (Za (Zb 6) (Za (Zg C_times θ (hr.mono (by decide)) (Za (Zv (Za (Zl (Zb 2) (Zb 4)) (Za Ze Zd))) (Za (Zb 5) Zd))) Zd))))))))
  (Zj (Zw (Zb 3)))))))
noncomputable abbrev ZaZ:Stmt:=top 41
theorem ZaJ:FnScope ["rays","one","other","bent","total","own","bend"] ["rays","one","other"] (Zi ZaZ):=⟨rfl,rfl,rfl,by decide +kernel,rfl,by decide +kernel,by decide +kernel⟩
theorem Zgd {f:Addr} {fd:FuncData} (F:Fun K "crossing" "crossing" ZaZ f fd) (T:Txt K mg) (C_bends:Cal P w K mg base "bends" 104 2 F_bends) (C_ask_height:Cal P w K mg base "ask_height" 101 2 F_ask_height) (C_times:Cal P w K mg base "times" 103 2 F_times) (C_plus:Cal P w K mg base "plus" 103 2 F_plus):FnOk P w K mg base (CXE P w) 105 f fd ["rays","one","other"] (spD K F_crossing):=
 ZP F ZaJ rfl rfl fun cdv A outer s H E hr θ=>(Zf (Zr 3 ZaJ.nd (Zg C_bends θ (hr.mono (by decide)) (Za (Zb 0) (Za (Zb 2) Zd))))
  (Zf (ZaV (Zg C_ask_height θ (hr.mono (by decide)) (Za (Zb 0) (Za (Zb 1) Zd))))
  (Zf (Zr 4 ZaJ.nd (Zv (Za Ze (Za Ze Zd))))
  (Zf (ZcG θ.own (ZgN (hr.hd (by decide)) T.b_zip (Za (Zb 1) (Za (Zb 3) Zd))) (Zar (Zz hr (by decide)) (Zp (Zm 5 ZaJ.nd) (Zp (Zm 6 ZaJ.nd) ZT)) (hlen:=(Zx (Zx (fun _ _ _ h=>ZU h))))) (Zj (Zr 4 ZaJ.nd (Zg C_plus θ (hr.mono (by decide)) (Za (Zb 4) (Za (Zg C_times θ (hr.mono (by decide)) (Za (Zb 5) (Za (Zb 6) Zd))) Zd))))))
  (Zj (Zw (Zb 4)))))))
noncomputable abbrev ZbY:Stmt:=top 42
theorem Zja:FnScope ["m","ray"] ["m","ray"] (Zi ZbY):=⟨rfl,rfl,rfl,by decide +kernel,rfl,by decide +kernel,by decide +kernel⟩
theorem Zjb {f:Addr} {fd:FuncData} (F:Fun K "sloped" "sloped" ZbY f fd) (T:Txt K mg) (C_times:Cal P w K mg base "times" 103 2 F_times) (C_plus:Cal P w K mg base "plus" 103 2 F_plus):FnOk P w K mg base (CXE P w) 104 f fd ["m","ray"] (spD K F_sloped):=
 ZP F Zja rfl rfl fun cdv A outer s H E hr θ=>(Zj (Zw (Zg C_plus θ (hr.mono (by decide)) (Za (Zg C_times θ (hr.mono (by decide)) (Za (Zl (Zb 0) Ze) (Za (Zv (Za (Zl (Zb 1) Ze) (Za Ze Zd))) Zd))) (Za (Zg C_times θ (hr.mono (by decide)) (Za (Zl (Zb 0) Ze) (Za (Zv (Za (Zl (Zb 1) Ze) (Za Ze Zd))) Zd))) Zd)))))
noncomputable abbrev ZW:Stmt:=top 43
theorem ZR:FnScope ["rays","height","a","b","c","d","first","second"] ["rays","height"] (Zi ZW):=⟨rfl,rfl,rfl,by decide +kernel,rfl,by decide +kernel,by decide +kernel⟩
theorem Zc6 {f:Addr} {fd:FuncData} (F:Fun K "slope_through" "slope_through" ZW f fd) (T:Txt K mg) (C_times:Cal P w K mg base "times" 103 2 F_times) (C_minus:Cal P w K mg base "minus" 103 2 F_minus):FnOk P w K mg base (CXE P w) 104 f fd ["rays","height"] (spD K F_slope_through):=
 ZP F ZR rfl rfl fun cdv A outer s H E hr θ=>(Zf (ZdV (Zv (Za (Zl (Zb 0) Ze) (Za (Zl (Zb 0) Ze) Zd))) (Zar (Zz hr (by decide)) (Zp (Zar (Zz hr (by decide)) (Zp (Zm 2 ZR.nd) (Zp (Zm 3 ZR.nd) ZT)) (hlen:=(Zx (Zx (fun _ _ _ h=>ZU h))))) (Zp (Zar (Zz hr (by decide)) (Zp (Zm 4 ZR.nd) (Zp (Zm 5 ZR.nd) ZT)) (hlen:=(Zx (Zx (fun _ _ _ h=>ZU h))))) ZT)) (hlen:=(Zx (Zx (fun _ _ _ h=>ZU h))))))
  (Zf (Zdt 6 7 (Zz hr (by decide)) ZR.nd (Za (Zl (Zb 1) Ze) (Za (Zl (Zb 1) Ze) Zd)))
  (Zj (Zw (Zv (Za (Zg C_minus θ (hr.mono (by decide)) (Za (Zg C_times θ (hr.mono (by decide)) (Za (Zb 6) (Za (Zv (Za (Zb 5) (Za Ze Zd))) Zd))) (Za (Zg C_times θ (hr.mono (by decide)) (Za (Zb 7) (Za (Zv (Za (Zb 3) (Za Ze Zd))) Zd))) Zd))) (Za (Zg C_minus θ (hr.mono (by decide)) (Za (Zg C_times θ (hr.mono (by decide)) (Za (Zb 7) (Za (Zv (Za (Zb 2) (Za Ze Zd))) Zd))) (Za (Zg C_times θ (hr.mono (by decide)) (Za (Zb 6) (Za (Zv (Za (Zb 4) (Za Ze Zd))) Zd))) Zd))) Zd)))))))
noncomputable abbrev ZX:Stmt:=top 45
theorem Zc7:FnScope ["rays","height"] ["rays","height"] (Zi ZX):=⟨rfl,rfl,rfl,by decide +kernel,rfl,by decide +kernel,by decide +kernel⟩
theorem Zc8 {f:Addr} {fd:FuncData} (F:Fun K "bends_inwards" "bends_inwards" ZX f fd) (T:Txt K mg) (C_bends:Cal P w K mg base "bends" 104 2 F_bends) (C_less:Cal P w K mg base "less" 1 2 F_less):FnOk P w K mg base (CXE P w) 105 f fd ["rays","height"] (spD K F_bends_inwards):=
 ZP F Zc7 rfl rfl fun cdv A outer s H E hr θ=>(Zj (Zw (Zs (ZjU (Zz hr (by decide))) Zoo T.b_any Zon (Za (Zbj (Zl5 (N:=["bend"]) (k:=1) (by decide +kernel) rfl (by decide +kernel) rfl) (Zbp (Zg C_bends θ (hr.mono (by decide)) (Za (Zb 0) (Za (Zb 1) Zd)))) (fun _ _ _ _=>(Zm 0 (show List.Nodup (["bend"]:List Str) by decide +kernel))) (fun _ _ _ _=>(Or.inl ⟨rfl,rfl⟩)) (fun _ _ _ _=>(Zg C_less Za8 (hr.mono (by decide)) (Za (Zb 0) (Za (Zv (Za Ze (Za Ze Zd))) Zd))))) Zd))))
noncomputable abbrev Za0:Stmt:=top 46
theorem Zge:FnScope ["one"] ["one"] (Zi Za0):=⟨rfl,rfl,rfl,by decide +kernel,rfl,by decide +kernel,by decide +kernel⟩
theorem Zgf {f:Addr} {fd:FuncData} (F:Fun K "contrary" "contrary" Za0 f fd) (T:Txt K mg) (C_minus:Cal P w K mg base "minus" 103 2 F_minus):FnOk P w K mg base (CXE P w) 104 f fd ["one"] (spD K F_contrary):=
 ZP F Zge rfl rfl fun cdv A outer s H E hr θ=>(Zj (Zw (Zg C_minus θ (hr.mono (by decide)) (Za (Zv (Za Ze (Za Ze Zd))) (Za (Zb 0) Zd)))))
noncomputable abbrev Zbt:Stmt:=top 47
theorem Zbu:FnScope ["rays","height","told","at","ray","both"] ["rays","height"] (Zi Zbt):=⟨rfl,rfl,rfl,by decide +kernel,rfl,by decide +kernel,by decide +kernel⟩
theorem Zho {f:Addr} {fd:FuncData} (F:Fun K "corners" "corners" Zbt f fd) (T:Txt K mg) (C_bends_inwards:Cal P w K mg base "bends_inwards" 105 2 F_bends_inwards) (C_following:Cal P w K mg base "following" 1 2 F_following) (C_contrary:Cal P w K mg base "contrary" 104 1 F_contrary) (C_slope_through:Cal P w K mg base "slope_through" 104 2 F_slope_through):FnOk P w K mg base (CXE P w) 106 f fd ["rays","height"] (spD K F_corners):=
 ZP F Zbu rfl rfl fun cdv A outer s H E hr θ=>(Zf (Zac (ZaD (Zg C_bends_inwards θ (hr.mono (by decide)) (Za (Zb 0) (Za (Zb 1) Zd)))) (Zj (ZbV θ T.ex_NoBend T.gl (hr.hd (by decide)) (Za ZaQ Zd))) ZD)
  (Zf (Zr 2 Zbu.nd (ZG Zd))
  (Zf (ZcG θ.own (ZfV (hr.hd (by decide)) T.b_enumerate (Za (Zb 0) Zd)) (Zar (Zz hr (by decide)) (Zp (Zm 3 Zbu.nd) (Zp (Zm 4 Zbu.nd) ZT)) (hlen:=(Zx (Zx (fun _ _ _ h=>ZU h))))) (Zf (Zr 5 Zbu.nd (ZG (Za (Zg C_contrary θ (hr.mono (by decide)) (Za (Zl (Zb 1) (Zb 3)) Zd)) (Za (Zg C_contrary θ (hr.mono (by decide)) (Za (Zg C_following θ (hr.mono (by decide)) (Za (Zb 1) (Za (Zb 3) Zd))) Zd)) Zd))))
  (Zj (ZaV (Zcq (Zb 2) (Zg C_slope_through θ (hr.mono (by decide)) (Za (ZG (Za (Zb 4) (Za (Zg C_following θ (hr.mono (by decide)) (Za (Zb 0) (Za (Zb 3) Zd))) Zd))) (Za (Zb 5) Zd))))))))
  (Zj (Zw (Zb 2))))))
noncomputable abbrev Z6:Stmt:=top 48
theorem Zfu:FnScope ["rays","points"] ["rays","points"] (Zi Z6):=⟨rfl,rfl,rfl,by decide +kernel,rfl,by decide +kernel,by decide +kernel⟩
theorem Zfv {f:Addr} {fd:FuncData} (F:Fun K "height_of" "height_of" Z6 f fd) (T:Txt K mg) (C_ask_smooth:Cal P w K mg base "ask_smooth" 102 1 F_ask_smooth) (C_sloped:Cal P w K mg base "sloped" 104 2 F_sloped) (C_contrary:Cal P w K mg base "contrary" 104 1 F_contrary) (C_greatest:Cal P w K mg base "greatest" 2 1 F_greatest):FnOk P w K mg base (CXE P w) 105 f fd ["rays","points"] (spD K F_height_of):=
 ZP F Zfu rfl rfl fun cdv A outer s H E hr θ=>(Zf (ZaV (Zg C_ask_smooth θ (hr.mono (by decide)) (Za (Zb 0) Zd)))
  (Zj (Zw (ZjZ (ZqW (XN:=["rays","points"]) (dn:=(Zi Z6).names) (N:=["ray","points"]) (k:=1) (fr:=[1]) rfl rfl rfl rfl (by decide +kernel)) (Zbp (Zb 0)) (fun _ _ _ _=>(Zm 0 (show List.Nodup (["ray","points"]:List Str) by decide +kernel))) (fun _ _ _ _=>(Or.inl ⟨rfl,rfl⟩)) (fun B1 _ _ _ _=>(Zg C_greatest ZjV (hr.mono (by decide)) (Za (Zbj (ZqY (dn:=(Zi Z6).names) (N:=["m","ray"]) (k:=1) (fr:=[0]) B1 rfl rfl rfl (by decide +kernel)) (Zbp (Zb 1)) (fun _ _ _ _=>(Zm 0 (show List.Nodup (["m","ray"]:List Str) by decide +kernel))) (fun _ _ _ _=>(Or.inl ⟨rfl,rfl⟩)) (fun _ _ _ _=>(Zg C_contrary Za8 (hr.mono (by decide)) (Za (Zg C_sloped Za8 (hr.mono (by decide)) (Za (Zb 0) (Za (Zb 1) Zd))) Zd)))) Zd)))))))
noncomputable abbrev ZdG:Stmt:=top 50
noncomputable def Zjc:Sv:=(ZC (ZQ (gNm 10) (Zk F_crossed (Zc (Zh 3) (Zc (Zh 8) aNil))))
 (ZC (ZQ (gNm 11) (e2 dSub (e2 dMul (e2 dMul (Zk F_crossed (Zc (Zh 8) (Zc (Zh 4) aNil))) (e2 dIx (Zh 5) (eC (.int 0)))) (e2 dIx (Zh 9) (eC (.int 1)))) (e2 dMul (e2 dIx (Zh 9) (eC (.int 0))) (e2 dIx (Zh 5) (eC (.int 1))))))
 (ZC (ZQ (gNm 12) (e2 dMul (e2 dMul (Zh 10) (e2 dIx (Zh 5) (eC (.int 1)))) (e2 dIx (Zh 9) (eC (.int 1)))))
 (ZC (sIf (Zdm (tv (e2 dEq (Zh 10) (eC (.int 0)))) (tv (e2 dGt (Zh 11) (eC (.int 0))))) (Zag (Zbn aNil)) sNil)
 (ZC (sIf (Zdm (tv (e2 dGt (Zh 10) (eC (.int 0)))) (Zht (tv (e2 dIs (Zh 6) (eC .non))) (tv (Zk F_less (Zc (Zh 6) (Zc (Zap (Zc (Zh 11) (Zc (Zh 12) aNil))) aNil)))))) (ZQ (gNm 6) (Zap (Zc (Zh 11) (Zc (Zh 12) aNil)))) sNil)
 (sIf (Zdm (tv (e2 dLt (Zh 10) (eC (.int 0)))) (Zht (tv (e2 dIs (Zh 7) (eC .non))) (tv (Zk F_less (Zc (Zap (Zc (Zdo (Zh 11)) (Zc (Zdo (Zh 12)) aNil))) (Zc (Zh 7) aNil)))))) (ZQ (gNm 7) (Zap (Zc (Zdo (Zh 11)) (Zc (Zdo (Zh 12)) aNil)))) sNil))))))
noncomputable def Zqa:Sv:=(ZC (ZQ (gTp (gCs (gNm 3) (gCs (gNm 4) gNl))) (Zap (Zc (e2 dIx (Zh 0) (Zh 2)) (Zc (Zk F_following (Zc (Zh 0) (Zc (Zh 2) aNil))) aNil))))
 (ZC (ZQ (gNm 5) (e2 dIx (Zh 1) (Zh 2)))
 (ZC sBad
 (ZC (ZdO (gTp (gCs (gNm 8) (gCs (gNm 9) gNl))) (iZp (Zc (Zh 0) (Zc (Zh 1) aNil))) Zjc)
 (ZC (sIf (tv (Zk F_less (Zc (Zh 7) (Zc (Zh 6) aNil)))) (Zag (Zbn aNil)) sNil)
 (Zag (Zay (iSq (Zap (Zc (Zh 6) (Zc (Zh 7) aNil)))) 1 [3,4,5] (gNm 0) (fun _ M=> .ok true M) (Zk F_slope_through (Zc (Zbn (Zc (Zh 1) (Zc (Zh 2) aNil))) (Zc (Zbn (Zc (Zap (Zc (Zdo (e2 dIx (Zh 3) (eC (.int 0)))) (Zc (e2 dIx (Zh 3) (eC (.int 1))) aNil))) (Zc (Zk F_ratio (Zc (e2 dIx (Zh 0) (eC (.int 0))) (Zc (e2 dIx (Zh 0) (eC (.int 1))) aNil))) aNil))) aNil))))))))))
noncomputable def F_edge:List D->Sto->Out D:=fnF Zqa 3 10
theorem Zbd:FnScope ["rays","height","at","ray","behind","own","low","high","other","its","across","asked","bottom"] ["rays","height","at"] (Zi ZdG):=⟨rfl,rfl,rfl,by decide +kernel,rfl,by decide +kernel,by decide +kernel⟩
theorem Znf {f:Addr} {fd:FuncData} (F:Fun K "edge" "edge" ZdG f fd) (T:Txt K mg) (C_following:Cal P w K mg base "following" 1 2 F_following) (C_crossed:Cal P w K mg base "crossed" 1 2 F_crossed) (C_less:Cal P w K mg base "less" 1 2 F_less) (C_ratio:Cal P w K mg base "ratio" 102 2 F_ratio) (C_slope_through:Cal P w K mg base "slope_through" 104 2 F_slope_through):FnOk P w K mg base (CXE P w) 105 f fd ["rays","height","at"] (spD K F_edge):=
 ZP F Zbd rfl rfl fun cdv A outer s H E hr θ=>(Zf (ZdV (Zv (Za (Zl (Zb 0) (Zb 2)) (Za (Zg C_following θ (hr.mono (by decide)) (Za (Zb 0) (Za (Zb 2) Zd))) Zd))) (Zar (Zz hr (by decide)) (Zp (Zm 3 Zbd.nd) (Zp (Zm 4 Zbd.nd) ZT)) (hlen:=(Zx (Zx (fun _ _ _ h=>ZU h))))))
  (Zf (Zr 5 Zbd.nd (Zl (Zb 1) (Zb 2)))
  (Zf Zds
  (Zf (ZcG θ.own (ZgN (hr.hd (by decide)) T.b_zip (Za (Zb 0) (Za (Zb 1) Zd))) (Zar (Zz hr (by decide)) (Zp (Zm 8 Zbd.nd) (Zp (Zm 9 Zbd.nd) ZT)) (hlen:=(Zx (Zx (fun _ _ _ h=>ZU h))))) (Zf (Zr 10 Zbd.nd (Zg C_crossed θ (hr.mono (by decide)) (Za (Zb 3) (Za (Zb 8) Zd))))
  (Zf (Zr 11 Zbd.nd (Zaa (Zy (Zy (Zg C_crossed θ (hr.mono (by decide)) (Za (Zb 8) (Za (Zb 4) Zd))) (Zl (Zb 5) Ze)) (Zl (Zb 9) Ze)) (Zy (Zl (Zb 9) Ze) (Zl (Zb 5) Ze))))
  (Zf (Zr 12 Zbd.nd (Zy (Zy (Zb 10) (Zl (Zb 5) Ze)) (Zl (Zb 9) Ze)))
  (Zf (Zac (ZfP (Zdn (ZJ (Zb3 hr.units) ZdN (Zb 10) Ze) (Zb7 (ZJ ZeK ZeW (Zb 11) Ze)))) (Zj (Zw (ZG Zd))) ZD)
  (Zf (Zac (ZfP (Zdn (ZJ ZeK ZeW (Zb 10) Ze) (Zb7 (ZfP (ZeV (ZJ ZgF ZjL (Zb 6) ZdU) (ZcV (ZaD (Zg C_less θ (hr.mono (by decide)) (Za (Zb 6) (Za (Zv (Za (Zb 11) (Za (Zb 12) Zd))) Zd)))))))))) (Zj (Zr 6 Zbd.nd (Zv (Za (Zb 11) (Za (Zb 12) Zd))))) ZD)
  (Zj (Zac (ZfP (Zdn (ZJ Zc1 Zc3 (Zb 10) Ze) (Zb7 (ZfP (ZeV (ZJ ZgF ZjL (Zb 7) ZdU) (ZcV (ZaD (Zg C_less θ (hr.mono (by decide)) (Za (Zv (Za (Zax (Zb 11)) (Za (Zax (Zb 12)) Zd))) (Za (Zb 7) Zd)))))))))) (Zj (Zr 7 Zbd.nd (Zv (Za (Zax (Zb 11)) (Za (Zax (Zb 12)) Zd))))) ZD))))))))
  (Zf (Zac (ZaD (Zg C_less θ (hr.mono (by decide)) (Za (Zb 7) (Za (Zb 6) Zd)))) (Zj (Zw (ZG Zd))) ZD)
  (Zj (Zw (Zbj (Zk0 (XN:=["rays","height","at","ray","behind","own","low","high","other","its","across","asked","bottom"]) (dn:=(Zi ZdG).names) (N:=["end","ray","behind","own"]) (k:=1) (fr:=[3,4,5]) rfl rfl rfl rfl (by decide +kernel)) (Zbp (Zv (Za (Zb 6) (Za (Zb 7) Zd)))) (fun _ _ _ _=>(Zm 0 (show List.Nodup (["end","ray","behind","own"]:List Str) by decide +kernel))) (fun _ _ _ _=>(Or.inl ⟨rfl,rfl⟩)) (fun _ _ _ _=>(Zg C_slope_through Za8 (hr.mono (by decide)) (Za (ZG (Za (Zb 1) (Za (Zb 2) Zd))) (Za (ZG (Za (Zv (Za (Zax (Zl (Zb 3) Ze)) (Za (Zl (Zb 3) Ze) Zd))) (Za (Zg C_ratio Za8 (hr.mono (by decide)) (Za (Zl (Zb 0) Ze) (Za (Zl (Zb 0) Ze) Zd))) Zd))) Zd))))))))))))
noncomputable abbrev Za1:Stmt:=top 51
noncomputable def Zhp:Sv:=(ZC sBad
 sBad)
noncomputable def F_in_order:List D->Sto->Out D:=fnF Zhp 1 1
theorem Zgg:FnScope ["points","bottom"] ["points"] (Zi Za1):=⟨rfl,rfl,rfl,by decide +kernel,rfl,by decide +kernel,by decide +kernel⟩
theorem Zgh {f:Addr} {fd:FuncData} (F:Fun K "in_order" "in_order" Za1 f fd) (T:Txt K mg):FnOk P w K mg base (CXE P w) 1 f fd ["points"] (spD K F_in_order):=
 ZP F Zgg rfl rfl fun cdv A outer s H E hr θ=>(Zf Zds
  (Zj Zds))
noncomputable abbrev Zea:Stmt:=top 52
noncomputable def Zjd:Sv:=(ZjP (Zh 2) (Zh 4) (eC (.bl true)))
noncomputable def Zje:Sv:=(ZkX (gNm 4) (Zk F_edge (Zc (Zh 0) (Zc (Zh 1) (Zc (Zh 3) aNil)))) Zjd)
noncomputable def Zjf:Sv:=(ZC (Zb0 (Zk F_ask_smooth (Zc (Zh 0) aNil)))
 (ZC (Zb0 (Zk F_ask_height (Zc (Zh 0) (Zc (Zh 1) aNil))))
 (ZC sBad
 (ZC (Zb4 (gNm 3) (Zc (Zk bLen (Zc (Zh 0) aNil)) aNil) Zje)
 (Zag (Zk F_in_order (Zc (Zk bList (Zc (Zh 2) aNil)) aNil)))))))
noncomputable def F_body:List D->Sto->Out D:=fnF Zjf 2 3
theorem Zgi:FnScope ["rays","height","met","at","point"] ["rays","height"] (Zi Zea):=⟨rfl,rfl,rfl,by decide +kernel,rfl,by decide +kernel,by decide +kernel⟩
theorem Zng {f:Addr} {fd:FuncData} (F:Fun K "body" "body" Zea f fd) (T:Txt K mg) (C_ask_smooth:Cal P w K mg base "ask_smooth" 102 1 F_ask_smooth) (C_ask_height:Cal P w K mg base "ask_height" 101 2 F_ask_height) (C_edge:Cal P w K mg base "edge" 105 3 F_edge) (C_in_order:Cal P w K mg base "in_order" 1 1 F_in_order):FnOk P w K mg base (CXE P w) 106 f fd ["rays","height"] (spD K F_body):=
 ZP F Zgi rfl rfl fun cdv A outer s H E hr θ=>(Zf (ZaV (Zg C_ask_smooth θ (hr.mono (by decide)) (Za (Zb 0) Zd)))
  (Zf (ZaV (Zg C_ask_height θ (hr.mono (by decide)) (Za (Zb 0) (Za (Zb 1) Zd))))
  (Zf Zds
  (Zf (ZbT θ.own T.b_range (Za (Zs Zq Zaf T.b_len PySem.boot_len (Za (Zb 0) Zd)) Zd) (Zm 3 Zgi.nd) (Zj (Ze2 θ.own (Zg C_edge θ (hr.mono (by decide)) (Za (Zb 0) (Za (Zb 1) (Za (Zb 3) Zd)))) (Zm 4 Zgi.nd) (Zj (ZgG (Zb 2) (Zb 4) Zdl)))))
  (Zj (Zw (Zg C_in_order θ (hr.mono (by decide)) (Za (Zae ZaP Zdp T.b_list ZcD (Za (Zb 2) Zd)) Zd))))))))
noncomputable abbrev Zci:Stmt:=top 54
noncomputable def Znh:Sv:=(ZC (ZQ (gNm 2) (Zay (iSq (Zh 0)) 1 [1] (gNm 0) (fun _ M=> .ok true M) (Zk F_product (Zc (Zh 0) (Zc (Zh 1) aNil)))))
 (Zag (e2 dSub (Zk (ZcH List.max?) (Zc (Zh 2) aNil)) (Zk (ZcH List.min?) (Zc (Zh 2) aNil)))))
noncomputable def F_width:List D->Sto->Out D:=fnF Znh 2 1
theorem ZgX:FnScope ["points","ray","given"] ["points","ray"] (Zi Zci):=⟨rfl,rfl,rfl,by decide +kernel,rfl,by decide +kernel,by decide +kernel⟩
theorem ZkD {f:Addr} {fd:FuncData} (F:Fun K "width" "width" Zci f fd) (T:Txt K mg) (C_product:Cal P w K mg base "product" 1 2 F_product):FnOk P w K mg base (CXE P w) 101 f fd ["points","ray"] (spD K F_width):=
 ZP F ZgX rfl rfl fun cdv A outer s H E hr θ=>(Zf (ZcI 2 ZgX.nd (Zk0 (XN:=["points","ray","given"]) (dn:=(Zi Zci).names) (N:=["point","ray"]) (k:=1) (fr:=[1]) rfl rfl rfl rfl (by decide +kernel)) (Zbp (Zb 0)) (fun _ _ _ _=>(Zm 0 (show List.Nodup (["point","ray"]:List Str) by decide +kernel))) (fun _ _ _ _=>(Or.inl ⟨rfl,rfl⟩)) (fun _ _ _ _=>(Zg C_product Za8 (hr.mono (by decide)) (Za (Zb 0) (Za (Zb 1) Zd)))))
  (Zj (Zw (Zaa (Zs (Zcs (Zz hr (by decide))) Zep T.b_max ZdX (Za (Zb 2) Zd)) (Zs (Zdv (Zz hr (by decide))) ZfW T.b_min ZgI (Za (Zb 2) Zd))))))
noncomputable abbrev Za2:Stmt:=top 55
noncomputable def Zhq:Sv:=(Zag (Zap (Zc (e2 dSub (e2 dIx (Zh 0) (eC (.int 0))) (e2 dMul (Zh 1) (e2 dIx (Zh 2) (eC (.int 0))))) (Zc (e2 dSub (e2 dIx (Zh 0) (eC (.int 1))) (e2 dMul (Zh 1) (e2 dIx (Zh 2) (eC (.int 1))))) aNil))))
noncomputable def F_lessened:List D->Sto->Out D:=fnF Zhq 3 0
theorem Zgj:FnScope ["wide","many","narrow"] ["wide","many","narrow"] (Zi Za2):=⟨rfl,rfl,rfl,by decide +kernel,rfl,by decide +kernel,by decide +kernel⟩
theorem Zgk {f:Addr} {fd:FuncData} (F:Fun K "lessened" "lessened" Za2 f fd) (T:Txt K mg):FnOk P w K mg base (CXE P w) 1 f fd ["wide","many","narrow"] (spD K F_lessened):=
 ZP F Zgj rfl rfl fun cdv A outer s H E hr θ=>(Zj (Zw (Zv (Za (Zaa (Zl (Zb 0) Ze) (Zy (Zb 1) (Zl (Zb 2) Ze))) (Za (Zaa (Zl (Zb 0) Ze) (Zy (Zb 1) (Zl (Zb 2) Ze))) Zd)))))
noncomputable abbrev Zav:Stmt:=top 56
noncomputable def ZdH:Sv:=(ZC (ZQ (gNm 5) (e2 dDiv (e2 dAdd (Zh 4) (Zh 3)) (eC (.int 2))))
 (ZC (ZfD 6 7 (Zc (Zk F_lessened (Zc (Zh 1) (Zc (Zh 5) (Zc (Zh 2) aNil)))) (Zc (Zk F_lessened (Zc (Zh 1) (Zc (e2 dAdd (Zh 5) (eC (.int 1))) (Zc (Zh 2) aNil)))) aNil)))
 (sIf (tv (e2 dLe (Zk F_width (Zc (Zh 0) (Zc (Zh 6) aNil))) (Zk F_width (Zc (Zh 0) (Zc (Zh 7) aNil))))) (ZQ (gNm 3) (Zh 5)) (ZQ (gNm 4) (e2 dAdd (Zh 5) (eC (.int 1)))))))
noncomputable def Zfw:Sv:=(ZC (ZQ (gNm 3) (e2 dAdd (e2 dDiv (e2 dMul (eC (.int 2)) (Zk F_width (Zc (Zh 0) (Zc (Zh 1) aNil)))) (Zk F_width (Zc (Zh 0) (Zc (Zh 2) aNil)))) (eC (.int 1))))
 (ZC (ZQ (gNm 4) (Zdo (Zh 3)))
 (ZC (sWh (tv (e2 dLt (Zh 4) (Zh 3))) ZdH)
 (Zag (Zk F_lessened (Zc (Zh 1) (Zc (Zh 4) (Zc (Zh 2) aNil))))))))
noncomputable def F_least_wide:List D->Sto->Out D:=fnF Zfw 3 5
theorem Z0:FnScope ["points","wide","narrow","high","low","middle","here","onward"] ["points","wide","narrow"] (Zi Zav):=⟨rfl,rfl,rfl,by decide +kernel,rfl,by decide +kernel,by decide +kernel⟩
theorem ZeB {f:Addr} {fd:FuncData} (F:Fun K "least_wide" "least_wide" Zav f fd) (T:Txt K mg) (C_width:Cal P w K mg base "width" 101 2 F_width) (C_lessened:Cal P w K mg base "lessened" 1 3 F_lessened):FnOk P w K mg base (CXE P w) 102 f fd ["points","wide","narrow"] (spD K F_least_wide):=
 ZP F Z0 rfl rfl fun cdv A outer s H E hr θ=>(Zf (Zr 3 Z0.nd (ZH (Za7 (Zy Ze (Zg C_width θ (hr.mono (by decide)) (Za (Zb 0) (Za (Zb 1) Zd)))) (Zg C_width θ (hr.mono (by decide)) (Za (Zb 0) (Za (Zb 2) Zd)))) Ze))
  (Zf (Zr 4 Z0.nd (Zax (Zb 3)))
  (Zf (Zej θ.own (ZJ Zc1 Zc3 (Zb 4) (Zb 3)) (Zf (Zr 5 Z0.nd (Za7 (ZH (Zb 4) (Zb 3)) Ze))
  (Zf (Zdt 6 7 (Zz hr (by decide)) Z0.nd (Za (Zg C_lessened θ (hr.mono (by decide)) (Za (Zb 1) (Za (Zb 5) (Za (Zb 2) Zd)))) (Za (Zg C_lessened θ (hr.mono (by decide)) (Za (Zb 1) (Za (ZH (Zb 5) Ze) (Za (Zb 2) Zd)))) Zd)))
  (Zj (Zac (ZJ ZqH ZqT (Zg C_width θ (hr.mono (by decide)) (Za (Zb 0) (Za (Zb 6) Zd))) (Zg C_width θ (hr.mono (by decide)) (Za (Zb 0) (Za (Zb 7) Zd)))) (Zj (Zr 3 Z0.nd (Zb 5))) (Zj (Zr 4 Z0.nd (ZH (Zb 5) Ze))))))))
  (Zj (Zw (Zg C_lessened θ (hr.mono (by decide)) (Za (Zb 1) (Za (Zb 4) (Za (Zb 2) Zd)))))))))
noncomputable abbrev Za3:Stmt:=top 57
noncomputable def ZeC:Sv:=(ZC (ZQ (gNm 2) (Zk F_least_wide (Zc (Zh 0) (Zc (Zh 2) (Zc (Zh 1) aNil)))))
 (ZC (sIf (tv (e2 dGe (Zk F_width (Zc (Zh 0) (Zc (Zh 2) aNil))) (Zk F_width (Zc (Zh 0) (Zc (Zh 1) aNil))))) sBrk sNil)
 (ZfD 1 2 (Zc (Zh 2) (Zc (Zh 1) aNil)))))
noncomputable def Zhr:Sv:=(ZC (ZQ (gTp (gCs (gNm 1) (gCs (gNm 2) gNl))) (Zap (Zc (Zap (Zc (eC (.int 1)) (Zc (eC (.int 0)) aNil))) (Zc (Zap (Zc (eC (.int 0)) (Zc (eC (.int 1)) aNil))) aNil))))
 (ZC (sIf (tv (e2 dLt (Zk F_width (Zc (Zh 0) (Zc (Zh 2) aNil))) (Zk F_width (Zc (Zh 0) (Zc (Zh 1) aNil))))) (ZfD 1 2 (Zc (Zh 2) (Zc (Zh 1) aNil))) sNil)
 (ZC (sWh (tv (e2 dGt (Zk F_width (Zc (Zh 0) (Zc (Zh 1) aNil))) (eC (.int 0)))) ZeC)
 (ZC (ZQ (gNm 3) (Zk F_crossed (Zc (Zh 1) (Zc (Zh 2) aNil))))
 (Zag (Zap (Zc (Zh 1) (Zc (Zap (Zc (e2 dMul (Zh 3) (e2 dIx (Zh 2) (eC (.int 0)))) (Zc (e2 dMul (Zh 3) (e2 dIx (Zh 2) (eC (.int 1)))) aNil))) aNil))))))))
noncomputable def F_two_ways:List D->Sto->Out D:=fnF Zhr 1 3
theorem Zal:FnScope ["points","narrow","wide","sign"] ["points"] (Zi Za3):=⟨rfl,rfl,rfl,by decide +kernel,rfl,by decide +kernel,by decide +kernel⟩
theorem Zgl {f:Addr} {fd:FuncData} (F:Fun K "two_ways" "two_ways" Za3 f fd) (T:Txt K mg) (C_width:Cal P w K mg base "width" 101 2 F_width) (C_least_wide:Cal P w K mg base "least_wide" 102 3 F_least_wide) (C_crossed:Cal P w K mg base "crossed" 1 2 F_crossed):FnOk P w K mg base (CXE P w) 103 f fd ["points"] (spD K F_two_ways):=
 ZP F Zal rfl rfl fun cdv A outer s H E hr θ=>(Zf (ZdV (Zv (Za (Zv (Za Ze (Za Ze Zd))) (Za (Zv (Za Ze (Za Ze Zd))) Zd))) (Zar (Zz hr (by decide)) (Zp (Zm 1 Zal.nd) (Zp (Zm 2 Zal.nd) ZT)) (hlen:=(Zx (Zx (fun _ _ _ h=>ZU h))))))
  (Zf (Zac (ZJ Zc1 Zc3 (Zg C_width θ (hr.mono (by decide)) (Za (Zb 0) (Za (Zb 2) Zd))) (Zg C_width θ (hr.mono (by decide)) (Za (Zb 0) (Za (Zb 1) Zd)))) (Zj (Zdt 1 2 (Zz hr (by decide)) Zal.nd (Za (Zb 2) (Za (Zb 1) Zd)))) ZD)
  (Zf (Zej θ.own (ZJ ZeK ZeW (Zg C_width θ (hr.mono (by decide)) (Za (Zb 0) (Za (Zb 1) Zd))) Ze) (Zf (Zr 2 Zal.nd (Zg C_least_wide θ (hr.mono (by decide)) (Za (Zb 0) (Za (Zb 2) (Za (Zb 1) Zd)))))
  (Zf (Zac (ZJ ZnR Zod (Zg C_width θ (hr.mono (by decide)) (Za (Zb 0) (Za (Zb 2) Zd))) (Zg C_width θ (hr.mono (by decide)) (Za (Zb 0) (Za (Zb 1) Zd)))) (Zj Zoj) ZD)
  (Zj (Zdt 1 2 (Zz hr (by decide)) Zal.nd (Za (Zb 2) (Za (Zb 1) Zd)))))))
  (Zf (Zr 3 Zal.nd (Zg C_crossed θ (hr.mono (by decide)) (Za (Zb 1) (Za (Zb 2) Zd))))
  (Zj (Zw (Zv (Za (Zb 1) (Za (Zv (Za (Zy (Zb 3) (Zl (Zb 2) Ze)) (Za (Zy (Zb 3) (Zl (Zb 2) Ze)) Zd))) Zd)))))))))
noncomputable abbrev Z1:Stmt:=top 58
noncomputable def Zc9:Sv:=(ZC (ZQ (gNm 10) (e2 dMul (Zk F_crossed (Zc (Zh 4) (Zc (Zh 8) aNil))) (e2 dIx (Zh 9) (eC (.int 1)))))
 (ZC (ZQ (gNm 11) (e2 dAdd (e2 dIx (Zh 9) (eC (.int 0))) (e2 dMul (e2 dMul (Zk F_crossed (Zc (Zh 8) (Zc (Zh 5) aNil))) (Zh 3)) (e2 dIx (Zh 9) (eC (.int 1))))))
 (ZC (sIf (Zdm (tv (e2 dGt (Zh 10) (eC (.int 0)))) (Zht (tv (e2 dIs (Zh 6) (eC .non))) (tv (e2 dGt (Zdo (e2 dDiv (Zh 11) (Zh 10))) (Zh 6))))) (ZQ (gNm 6) (Zdo (e2 dDiv (Zh 11) (Zh 10)))) sNil)
 (sIf (Zdm (tv (e2 dLt (Zh 10) (eC (.int 0)))) (Zht (tv (e2 dIs (Zh 7) (eC .non))) (tv (e2 dLt (e2 dDiv (Zh 11) (Zdo (Zh 10))) (Zh 7))))) (ZQ (gNm 7) (e2 dDiv (Zh 11) (Zdo (Zh 10)))) sNil))))
noncomputable def ZeD:Sv:=(ZC (ZQ (gTp (gCs (gNm 4) (gCs (gNm 5) gNl))) (Zh 2))
 (ZC sBad
 (ZC (ZdO (gTp (gCs (gNm 8) (gCs (gNm 9) gNl))) (iZp (Zc (Zh 0) (Zc (Zh 1) aNil))) Zc9)
 (Zag (Zay (iR2 (Zc (Zh 6) (Zc (e2 dAdd (Zh 7) (eC (.int 1))) aNil))) 1 [3,4,5] (gNm 0) (fun _ M=> .ok true M) (Zap (Zc (e2 dSub (e2 dMul (Zh 1) (e2 dIx (Zh 3) (eC (.int 1)))) (e2 dMul (Zh 0) (e2 dIx (Zh 2) (eC (.int 1))))) (Zc (e2 dSub (e2 dMul (Zh 0) (e2 dIx (Zh 2) (eC (.int 0)))) (e2 dMul (Zh 1) (e2 dIx (Zh 3) (eC (.int 0))))) aNil))))))))
noncomputable def F_dots_across:List D->Sto->Out D:=fnF ZeD 4 8
theorem ZI:FnScope ["rays","height","ways","given","narrow","wide","low","high","ray","own","across","reach"] ["rays","height","ways","given"] (Zi Z1):=⟨rfl,rfl,rfl,by decide +kernel,rfl,by decide +kernel,by decide +kernel⟩
theorem ZdP {f:Addr} {fd:FuncData} (F:Fun K "dots_across" "dots_across" Z1 f fd) (T:Txt K mg) (C_crossed:Cal P w K mg base "crossed" 1 2 F_crossed):FnOk P w K mg base (CXE P w) 101 f fd ["rays","height","ways","given"] (spD K F_dots_across):=
 ZP F ZI rfl rfl fun cdv A outer s H E hr θ=>(Zf (ZdV (Zb 2) (Zar (Zz hr (by decide)) (Zp (Zm 4 ZI.nd) (Zp (Zm 5 ZI.nd) ZT)) (hlen:=(Zx (Zx (fun _ _ _ h=>ZU h))))))
  (Zf Zds
  (Zf (ZcG θ.own (ZgN (hr.hd (by decide)) T.b_zip (Za (Zb 0) (Za (Zb 1) Zd))) (Zar (Zz hr (by decide)) (Zp (Zm 8 ZI.nd) (Zp (Zm 9 ZI.nd) ZT)) (hlen:=(Zx (Zx (fun _ _ _ h=>ZU h))))) (Zf (Zr 10 ZI.nd (Zy (Zg C_crossed θ (hr.mono (by decide)) (Za (Zb 4) (Za (Zb 8) Zd))) (Zl (Zb 9) Ze)))
  (Zf (Zr 11 ZI.nd (ZH (Zl (Zb 9) Ze) (Zy (Zy (Zg C_crossed θ (hr.mono (by decide)) (Za (Zb 8) (Za (Zb 5) Zd))) (Zb 3)) (Zl (Zb 9) Ze))))
  (Zf (Zac (ZfP (Zdn (ZJ ZeK ZeW (Zb 10) Ze) (Zb7 (ZfP (ZeV (ZJ ZgF ZjL (Zb 6) ZdU) (ZcV (ZJ ZeK ZeW (Zax (Za7 (Zb 11) (Zb 10))) (Zb 6)))))))) (Zj (Zr 6 ZI.nd (Zax (Za7 (Zb 11) (Zb 10))))) ZD)
  (Zj (Zac (ZfP (Zdn (ZJ Zc1 Zc3 (Zb 10) Ze) (Zb7 (ZfP (ZeV (ZJ ZgF ZjL (Zb 7) ZdU) (ZcV (ZJ Zc1 Zc3 (Za7 (Zb 11) (Zax (Zb 10))) (Zb 7)))))))) (Zj (Zr 7 ZI.nd (Za7 (Zb 11) (Zax (Zb 10))))) ZD))))))
  (Zj (Zw (Zbj (Zk0 (XN:=["rays","height","ways","given","narrow","wide","low","high","ray","own","across","reach"]) (dn:=(Zi Z1).names) (N:=["other","given","narrow","wide"]) (k:=1) (fr:=[3,4,5]) rfl rfl rfl rfl (by decide +kernel)) (Ziw T.b_range (Za (Zb 6) (Za (ZH (Zb 7) Ze) Zd))) (fun _ _ _ _=>(Zm 0 (show List.Nodup (["other","given","narrow","wide"]:List Str) by decide +kernel))) (fun _ _ _ _=>(Or.inl ⟨rfl,rfl⟩)) (fun _ _ _ _=>(Zv (Za (Zaa (Zy (Zb 1) (Zl (Zb 3) Ze)) (Zy (Zb 0) (Zl (Zb 2) Ze))) (Za (Zaa (Zy (Zb 0) (Zl (Zb 2) Ze)) (Zy (Zb 1) (Zl (Zb 3) Ze))) Zd))))))))))
noncomputable abbrev ZcZ:Stmt:=top 59
noncomputable def Zjg:Sv:=(Zb0 (Zjm mExt (Zh 7) (Zc (Zk F_dots_across (Zc (Zh 0) (Zc (Zh 1) (Zc (Zh 5) (Zc (Zh 8) aNil))))) aNil)))
noncomputable def Zjh:Sv:=(ZC (ZQ (gNm 2) (Zk F_body (Zc (Zh 0) (Zc (Zh 1) aNil))))
 (ZC sBad
 (ZC (ZQ (gNm 4) (Zay (iSq (Zh 2)) 2 [3] (gTp (gCs (gNm 0) (gCs (gNm 1) gNl))) (fun _ M=> .ok true M) (Zap (Zc (Zk F_stretched (Zc (Zh 0) (Zc (Zh 2) aNil))) (Zc (Zk F_stretched (Zc (Zh 1) (Zc (Zh 2) aNil))) aNil)))))
 (ZC (sIf (tv (e2 dEq (Zh 4) (Zbn aNil))) (Zag (Zbn aNil)) sNil)
 (ZC (ZQ (gNm 5) (Zk F_two_ways (Zc (Zh 4) aNil)))
 (ZC (ZQ (gNm 6) (Zay (iSq (Zh 4)) 1 [5] (gNm 0) (fun _ M=> .ok true M) (Zk F_product (Zc (Zh 0) (Zc (e2 dIx (Zh 1) (eC (.int 0))) aNil)))))
 (ZC (ZQ (gNm 7) (Zbn aNil))
 (ZC (Ze1 (gNm 8) (Zc (Zdo (e2 dDiv (Zdo (Zk (ZcH List.min?) (Zc (Zh 6) aNil))) (Zh 3))) (Zc (e2 dAdd (e2 dDiv (Zk (ZcH List.max?) (Zc (Zh 6) aNil)) (Zh 3)) (eC (.int 1))) aNil)) Zjg)
 sBad))))))))
noncomputable def F_dots:List D->Sto->Out D:=fnF Zjh 2 7
theorem Zcj:FnScope ["rays","height","points","bottom","wholes","ways","given","found","row"] ["rays","height"] (Zi ZcZ):=⟨rfl,rfl,rfl,by decide +kernel,rfl,by decide +kernel,by decide +kernel⟩
theorem Zni {f:Addr} {fd:FuncData} (F:Fun K "dots" "dots" ZcZ f fd) (T:Txt K mg) (C_body:Cal P w K mg base "body" 106 2 F_body) (C_stretched:Cal P w K mg base "stretched" 1 2 F_stretched) (C_two_ways:Cal P w K mg base "two_ways" 103 1 F_two_ways) (C_product:Cal P w K mg base "product" 1 2 F_product) (C_dots_across:Cal P w K mg base "dots_across" 101 4 F_dots_across):FnOk P w K mg base (CXE P w) 107 f fd ["rays","height"] (spD K F_dots):=
 ZP F Zcj rfl rfl fun cdv A outer s H E hr θ=>(Zf (Zr 2 Zcj.nd (Zg C_body θ (hr.mono (by decide)) (Za (Zb 0) (Za (Zb 1) Zd))))
  (Zf Zds
  (Zf (ZcI 4 Zcj.nd (Zk0 (XN:=["rays","height","points","bottom","wholes","ways","given","found","row"]) (dn:=(Zi ZcZ).names) (N:=["x","y","bottom"]) (k:=2) (fr:=[3]) rfl rfl rfl rfl (by decide +kernel)) (Zbp (Zb 2)) (fun _ _ _ _=>(Zar (Zz hr (by decide)) (Zp (Zm 0 (show List.Nodup (["x","y","bottom"]:List Str) by decide +kernel)) (Zp (Zm 1 (show List.Nodup (["x","y","bottom"]:List Str) by decide +kernel)) ZT)) (hlen:=(Zx (Zx (fun _ _ _ h=>ZU h)))))) (fun _ _ _ _=>(Or.inl ⟨rfl,rfl⟩)) (fun _ _ _ _=>(Zv (Za (Zg C_stretched Za8 (hr.mono (by decide)) (Za (Zb 0) (Za (Zb 2) Zd))) (Za (Zg C_stretched Za8 (hr.mono (by decide)) (Za (Zb 1) (Za (Zb 2) Zd))) Zd)))))
  (Zf (Zac (ZJ (Zb3 hr.units) ZdN (Zb 4) (ZG Zd)) (Zj (Zw (ZG Zd))) ZD)
  (Zf (Zr 5 Zcj.nd (Zg C_two_ways θ (hr.mono (by decide)) (Za (Zb 4) Zd)))
  (Zf (ZcI 6 Zcj.nd (Zk0 (XN:=["rays","height","points","bottom","wholes","ways","given","found","row"]) (dn:=(Zi ZcZ).names) (N:=["point","ways"]) (k:=1) (fr:=[5]) rfl rfl rfl rfl (by decide +kernel)) (Zbp (Zb 4)) (fun _ _ _ _=>(Zm 0 (show List.Nodup (["point","ways"]:List Str) by decide +kernel))) (fun _ _ _ _=>(Or.inl ⟨rfl,rfl⟩)) (fun _ _ _ _=>(Zg C_product Za8 (hr.mono (by decide)) (Za (Zb 0) (Za (Zl (Zb 1) Ze) Zd)))))
  (Zf (Zr 7 Zcj.nd (ZG Zd))
  (Zf (ZjS θ.own T.b_range (Za (Zax (Za7 (Zax (Zs (Zdv (Zz hr (by decide))) ZfW T.b_min ZgI (Za (Zb 6) Zd))) (Zb 3))) (Za (ZH (Za7 (Zs (Zcs (Zz hr (by decide))) Zep T.b_max ZdX (Za (Zb 6) Zd)) (Zb 3)) Ze) Zd)) (Zm 8 Zcj.nd) (Zj (ZaV (Zot PySem.F.slot_list_extend PySem.F.type_list_extend ZhS Zov (Zb 7) (Za (Zg C_dots_across θ (hr.mono (by decide)) (Za (Zb 0) (Za (Zb 1) (Za (Zb 5) (Za (Zb 8) Zd))))) Zd)))))
  (Zj Zds)))))))))
noncomputable abbrev ZL:Stmt:=top 60
noncomputable def Z4:Sv:=(ZC (sIf (Zht (tv (Zk F_bends_inwards (Zc (Zh 0) (Zc (Zh 1) aNil)))) (tv (e2 dNe (Zk F_common_bottom (Zc (Zh 1) aNil)) (eC (.int 1))))) (ZbH (PySem.Str.ofString "NoBend") (Zc (eC (.str (PySem.Str.ofString "the height bends inwards, or is not of whole numbers"))) aNil)) sNil)
 (ZC (ZQ (gNm 2) (Zay (iSq (Zh 0)) 1 [] (gNm 0) (fun _ M=> .ok true M) (Zap (Zc (eC (.int 1)) (Zc (eC (.int 1)) aNil)))))
 (ZC (ZQ (gNm 3) (Zk F_plus (Zc (Zk F_crossing (Zc (Zh 0) (Zc (Zh 1) (Zc (Zh 1) aNil)))) (Zc (Zk F_crossing (Zc (Zh 0) (Zc (Zh 1) (Zc (Zh 2) aNil)))) aNil))))
 (Zag (e2 dAdd (e2 dDiv (e2 dIx (Zh 3) (eC (.int 0))) (eC (.int 2))) (eC (.int 1)))))))
noncomputable def F_dots_by_crossing:List D->Sto->Out D:=fnF Z4 2 2
theorem Zam:FnScope ["rays","height","ones","both"] ["rays","height"] (Zi ZL):=⟨rfl,rfl,rfl,by decide +kernel,rfl,by decide +kernel,by decide +kernel⟩
theorem Zck {f:Addr} {fd:FuncData} (F:Fun K "dots_by_crossing" "dots_by_crossing" ZL f fd) (T:Txt K mg) (C_bends_inwards:Cal P w K mg base "bends_inwards" 105 2 F_bends_inwards) (C_common_bottom:Cal P w K mg base "common_bottom" 102 1 F_common_bottom) (C_crossing:Cal P w K mg base "crossing" 105 3 F_crossing) (C_plus:Cal P w K mg base "plus" 103 2 F_plus):FnOk P w K mg base (CXE P w) 106 f fd ["rays","height"] (spD K F_dots_by_crossing):=
 ZP F Zam rfl rfl fun cdv A outer s H E hr θ=>(Zf (Zac (ZfP (ZeV (ZaD (Zg C_bends_inwards θ (hr.mono (by decide)) (Za (Zb 0) (Za (Zb 1) Zd)))) (ZcV (ZJ (ZgD hr.units) ZjK (Zg C_common_bottom θ (hr.mono (by decide)) (Za (Zb 1) Zd)) Ze)))) (Zj (ZbV θ T.ex_NoBend T.gl (hr.hd (by decide)) (Za ZaQ Zd))) ZD)
  (Zf (ZcI 2 Zam.nd (Zl5 (N:=["ray"]) (k:=1) (by decide +kernel) rfl (by decide +kernel) rfl) (Zbp (Zb 0)) (fun _ _ _ _=>(Zm 0 (show List.Nodup (["ray"]:List Str) by decide +kernel))) (fun _ _ _ _=>(Or.inl ⟨rfl,rfl⟩)) (fun _ _ _ _=>(Zv (Za Ze (Za Ze Zd)))))
  (Zf (Zr 3 Zam.nd (Zg C_plus θ (hr.mono (by decide)) (Za (Zg C_crossing θ (hr.mono (by decide)) (Za (Zb 0) (Za (Zb 1) (Za (Zb 1) Zd)))) (Za (Zg C_crossing θ (hr.mono (by decide)) (Za (Zb 0) (Za (Zb 1) (Za (Zb 2) Zd)))) Zd))))
  (Zj (Zw (ZH (Za7 (Zl (Zb 3) Ze) Ze) Ze))))))
noncomputable abbrev ZaK:Stmt:=top 62
theorem Zbh:FnScope ["_law_script","_law_k","_law_cell","_law_large"] ["_law_script","_law_k"] (Zi ZaK):=⟨rfl,rfl,rfl,by decide +kernel,rfl,by decide +kernel,by decide +kernel⟩
theorem Zfx {f:Addr} {fd:FuncData} (F:Fun K "_law_purse" "_law_purse" ZaK f fd) (T:Txt K mg):FnOk P w K mg base (CXE P w) 1 f fd ["_law_script","_law_k"] (spD K F_law_purse):=
 ZP F Zbh rfl rfl fun cdv A outer s H E hr θ=>(Zf (Zr 2 Zbh.nd Ze)
  (Zf (Zac (ZJ Zc1 Zc3 (Zb 1) (Zs Zq Zaf T.b_len PySem.boot_len (Za (Zb 0) Zd))) (Zj (Zr 2 Zbh.nd (Zl (Zb 0) (Zb 1)))) ZD)
  (Zf (Zr 3 Zbh.nd (ZbF (Zb 2) (Zy (Zh6 Ze Ze) (Zh6 Ze Ze))))
  (Zj (Zw (ZG (Za (Zy (Zb 3) (Zae ZbD ZeY T.b_int ZdW (Za (ZcU ZnR Zod (Zb 3) (Zh6 Ze Ze)) Zd))) (Za (ZH (ZH (ZbF (Zb 2) Ze) (Zy Ze (Zb 1))) Ze) Zd))))))))
noncomputable abbrev Za4:Stmt:=top 63
theorem ZdI:FnScope ["_law_purse_here","_law_many","_law_digit"] ["_law_purse_here","_law_many"] (Zi Za4):=⟨rfl,rfl,rfl,by decide +kernel,rfl,by decide +kernel,by decide +kernel⟩
theorem Zgm {f:Addr} {fd:FuncData} (F:Fun K "_law_take" "_law_take" Za4 f fd) (T:Txt K mg):FnOk P w K mg base (CXE P w) 1 f fd ["_law_purse_here","_law_many"] (spD K F_law_take):=
 ZP F ZdI rfl rfl fun cdv A outer s H E hr θ=>(Zf (Zac (ZJ ZeK ZeW (Zl (Zb 0) Ze) Ze) (Zf (Zr 2 ZdI.nd (ZbF (Zl (Zb 0) Ze) (Zb 1)))
  (Zf (ZgG (Zb 0) Ze (Za7 (Zl (Zb 0) Ze) (Zb 1)))
  (Zj (Zw (Zb 2))))) ZD)
  (Zf (ZgG (Zb 0) Ze (ZbF (ZH (Zy (Zl (Zb 0) Ze) Ze) Ze) Ze))
  (Zj (Zw (ZbF (Za7 (ZbF (Zy (Zl (Zb 0) Ze) Ze) Ze) Ze) (Zb 1))))))
noncomputable abbrev ZY:Stmt:=top 64
theorem ZbB:FnScope ["_law_rays","_law_at","_law_after"] ["_law_rays","_law_at"] (Zi ZY):=⟨rfl,rfl,rfl,by decide +kernel,rfl,by decide +kernel,by decide +kernel⟩
theorem Zda {f:Addr} {fd:FuncData} (F:Fun K "_law_short_put" "_law_short_put" ZY f fd) (T:Txt K mg):FnOk P w K mg base (CXE P w) 1 f fd ["_law_rays","_law_at"] (spD K F_law_short_put):=
 ZP F ZbB rfl rfl fun cdv A outer s H E hr θ=>(Zf (Zr 2 ZbB.nd (Zl (Zb 0) (ZbF (ZH (Zb 1) Ze) (Zs Zq Zaf T.b_len PySem.boot_len (Za (Zb 0) Zd)))))
  (Zj (Zw (ZH (ZH (Zj5 (Zb 0) Zj3 (Zj4 (ZH (Zb 1) Ze))) (ZG (Za (Zv (Za (ZH (Zl (Zl (Zb 0) (Zb 1)) Ze) (Zl (Zb 2) Ze)) (Za (ZH (Zl (Zl (Zb 0) (Zb 1)) Ze) (Zl (Zb 2) Ze)) Zd))) Zd))) (Zj5 (Zb 0) (Zj4 (ZH (Zb 1) Ze)) Zj3)))))
noncomputable abbrev Za5:Stmt:=top 65
theorem Zan:FnScope ["_law_purse_here","_law_most","_law_lean","_law_rays","_law_many","_law_turn","_law_longer"] ["_law_purse_here","_law_most"] (Zi Za5):=⟨rfl,rfl,rfl,by decide +kernel,rfl,by decide +kernel,by decide +kernel⟩
theorem Zgn {f:Addr} {fd:FuncData} (F:Fun K "_law_base" "_law_base" Za5 f fd) (T:Txt K mg) (C_law_take:Cal P w K mg base "_law_take" 1 2 F_law_take) (C_law_short_put:Cal P w K mg base "_law_short_put" 1 2 F_law_short_put):FnOk P w K mg base (CXE P w) 101 f fd ["_law_purse_here","_law_most"] (spD K F_law_base):=
 ZP F Zan rfl rfl fun cdv A outer s H E hr θ=>(Zf (Zr 2 Zan.nd (Zg C_law_take θ (hr.mono (by decide)) (Za (Zb 0) (Za Ze Zd))))
  (Zf (Zr 3 Zan.nd (Zl (ZG (Za (ZG (Za (Zv (Za Ze (Za Ze Zd))) (Za (Zv (Za Ze (Za Ze Zd))) (Za (Zv (Za (Zax Ze) (Za (Zax Ze) Zd))) Zd)))) (Za (ZG (Za (Zv (Za Ze (Za Ze Zd))) (Za (Zv (Za Ze (Za Ze Zd))) (Za (Zv (Za (Zax Ze) (Za (Zaa (Zb 2) Ze) Zd))) (Za (Zv (Za Ze (Za (Zax Ze) Zd))) Zd))))) Zd))) (Zae ZbD ZeY T.b_int ZdW (Za (ZcU ZeK ZeW (Zb 2) Ze) Zd))))
  (Zf (Zr 4 Zan.nd (Zl (ZG (Za (ZH Ze (Zg C_law_take θ (hr.mono (by decide)) (Za (Zb 0) (Za (Zaa (Zb 1) Ze) Zd)))) (Za (Zb 1) Zd))) (Zae ZbD ZeY T.b_int ZdW (Za (ZcU (Zb3 hr.units) ZdN (Zg C_law_take θ (hr.mono (by decide)) (Za (Zb 0) (Za Ze Zd))) Ze) Zd))))
  (Zf (ZbT θ.own T.b_range (Za (Zy Ze (Zb 1)) Zd) (Zm 5 Zan.nd) (Zf (Zr 6 Zan.nd (Zg C_law_short_put θ (hr.mono (by decide)) (Za (Zb 3) (Za (Zg C_law_take θ (hr.mono (by decide)) (Za (Zb 0) (Za (Zs Zq Zaf T.b_len PySem.boot_len (Za (Zb 3) Zd)) Zd))) Zd))))
  (Zj (Zac (ZfP (Zdn (ZJ Zc1 Zc3 (Zs Zq Zaf T.b_len PySem.boot_len (Za (Zb 3) Zd)) (Zb 4)) (Zb7 (ZJ Zc1 Zc3 (Zs (Zcs (Zz hr (by decide))) Zep T.b_max ZdX (Za (Zbj (Zl5 (N:=["_law_x","_law_y"]) (k:=2) (by decide +kernel) rfl (by decide +kernel) rfl) (Zbp (Zb 6)) (fun _ _ _ _=>(Zar (Zz hr (by decide)) (Zp (Zm 0 (show List.Nodup (["_law_x","_law_y"]:List Str) by decide +kernel)) (Zp (Zm 1 (show List.Nodup (["_law_x","_law_y"]:List Str) by decide +kernel)) ZT)) (hlen:=(Zx (Zx (fun _ _ _ h=>ZU h)))))) (fun _ _ _ _=>(Or.inl ⟨rfl,rfl⟩)) (fun _ _ _ _=>(Zs (ZeL (Zz hr (by decide))) ZkS T.b_max ZdX (Za (Zs Zcn ZeX T.b_abs Ze4 (Za (Zb 0) Zd)) (Za (Zs Zcn ZeX T.b_abs Ze4 (Za (Zb 1) Zd)) Zd))))) Zd)) Ze)))) (Zj (Zr 3 Zan.nd (Zb 6))) ZD))))
  (Zj (Zw (Zb 3)))))))
noncomputable abbrev ZaL:Stmt:=top 66
theorem Z7:FnScope ["_law_purse_here","_law_table_here","_law_turn","_law_many"] ["_law_purse_here"] (Zi ZaL):=⟨rfl,rfl,rfl,by decide +kernel,rfl,by decide +kernel,by decide +kernel⟩
theorem Zfy {f:Addr} {fd:FuncData} (F:Fun K "_law_table" "_law_table" ZaL f fd) (T:Txt K mg) (C_law_take:Cal P w K mg base "_law_take" 1 2 F_law_take):FnOk P w K mg base (CXE P w) 101 f fd ["_law_purse_here"] (spD K F_law_table):=
 ZP F Z7 rfl rfl fun cdv A outer s H E hr θ=>(Zf (Zr 1 Z7.nd (ZG (Za Ze (Za Ze (Za Ze (Za Ze Zd))))))
  (Zf (ZbT θ.own T.b_range (Za (Zg C_law_take θ (hr.mono (by decide)) (Za (Zb 0) (Za Ze Zd))) Zd) (Zm 2 Z7.nd) (Zf (Zr 3 Z7.nd (Zl (ZG (Za (Zaa (Zg C_law_take θ (hr.mono (by decide)) (Za (Zb 0) (Za Ze Zd))) Ze) (Za (Zaa (Zg C_law_take θ (hr.mono (by decide)) (Za (Zb 0) (Za Ze Zd))) Ze) Zd))) (Zae ZbD ZeY T.b_int ZdW (Za (ZcU (Zb3 hr.units) ZdN (Zg C_law_take θ (hr.mono (by decide)) (Za (Zb 0) (Za Ze Zd))) Ze) Zd))))
  (Zj (Zac (ZJ (Zb3 hr.units) ZdN (Zg C_law_take θ (hr.mono (by decide)) (Za (Zb 0) (Za Ze Zd))) Ze) (Zj (Zr 1 Z7.nd (ZG (Za (ZH (Zl (Zb 1) Ze) (Zy (Zb 3) (Zl (Zb 1) Ze))) (Za (ZH (Zl (Zb 1) Ze) (Zy (Zb 3) (Zl (Zb 1) Ze))) (Za (Zl (Zb 1) Ze) (Za (Zl (Zb 1) Ze) Zd))))))) (Zj (Zr 1 Z7.nd (ZG (Za (Zl (Zb 1) Ze) (Za (Zl (Zb 1) Ze) (Za (ZH (Zl (Zb 1) Ze) (Zy (Zb 3) (Zl (Zb 1) Ze))) (Za (ZH (Zl (Zb 1) Ze) (Zy (Zb 3) (Zl (Zb 1) Ze))) Zd)))))))))))
  (Zf (Zac (ZJ (Zb3 hr.units) ZdN (Zg C_law_take θ (hr.mono (by decide)) (Za (Zb 0) (Za Ze Zd))) Ze) (Zj (Zr 1 Z7.nd (ZG (Za (Zl (Zb 1) Ze) (Za (Zl (Zb 1) Ze) (Za (Zl (Zb 1) Ze) (Za (Zl (Zb 1) Ze) Zd))))))) ZD)
  (Zf (Zac (ZJ ZeK ZeW (Zs (Zcs (Zz hr (by decide))) Zep T.b_max ZdX (Za (Zbj (Zl5 (N:=["_law_number"]) (k:=1) (by decide +kernel) rfl (by decide +kernel) rfl) (Zbp (Zb 1)) (fun _ _ _ _=>(Zm 0 (show List.Nodup (["_law_number"]:List Str) by decide +kernel))) (fun _ _ _ _=>(Or.inl ⟨rfl,rfl⟩)) (fun _ _ _ _=>(Zs Zcn ZeX T.b_abs Ze4 (Za (Zb 0) Zd)))) Zd)) Ze) (Zj (Zw (ZG (Za Ze (Za Ze (Za Ze (Za Ze Zd))))))) ZD)
  (Zj (Zw (Zb 1)))))))
noncomputable abbrev ZaM:Stmt:=top 67
theorem Zbz:FnScope ["_law_table_here","_law_rays","_law_some","_law_at","_law_pairs"] ["_law_table_here","_law_rays","_law_some","_law_at"] (Zi ZaM):=⟨rfl,rfl,rfl,by decide +kernel,rfl,by decide +kernel,by decide +kernel⟩
theorem Zgo {f:Addr} {fd:FuncData} (F:Fun K "_law_spun" "_law_spun" ZaM f fd) (T:Txt K mg):FnOk P w K mg base (CXE P w) 101 f fd ["_law_table_here","_law_rays","_law_some","_law_at"] (spD K F_law_spun):=
 ZP F Zbz rfl rfl fun cdv A outer s H E hr θ=>(Zf (ZcI 4 Zbz.nd (Zk0 (XN:=["_law_table_here","_law_rays","_law_some","_law_at","_law_pairs"]) (dn:=(Zi ZaM).names) (N:=["_law_x","_law_y","_law_one","_law_table_here"]) (k:=3) (fr:=[0]) rfl rfl rfl rfl (by decide +kernel)) (ZgN (hr.hd (by decide)) T.b_zip (Za (Zb 1) (Za (Zb 2) Zd))) (fun _ _ _ _=>(Zar (Zz hr (by decide)) (Zp (Zar (Zz hr (by decide)) (Zp (Zm 0 (show List.Nodup (["_law_x","_law_y","_law_one","_law_table_here"]:List Str) by decide +kernel)) (Zp (Zm 1 (show List.Nodup (["_law_x","_law_y","_law_one","_law_table_here"]:List Str) by decide +kernel)) ZT)) (hlen:=(Zx (Zx (fun _ _ _ h=>ZU h))))) (Zp (Zm 2 (show List.Nodup (["_law_x","_law_y","_law_one","_law_table_here"]:List Str) by decide +kernel)) ZT)) (hlen:=(Zx (Zx (fun _ _ _ h=>ZU h)))))) (fun _ _ _ _=>(Or.inl ⟨rfl,rfl⟩)) (fun _ _ _ _=>(Zv (Za (Zv (Za (ZH (Zy (Zl (Zb 3) Ze) (Zb 0)) (Zy (Zl (Zb 3) Ze) (Zb 1))) (Za (ZH (Zy (Zl (Zb 3) Ze) (Zb 0)) (Zy (Zl (Zb 3) Ze) (Zb 1))) Zd))) (Za (Zb 2) Zd)))))
  (Zf (Zac (ZJ Zc1 Zc3 (Zaa (Zy (Zl (Zb 0) Ze) (Zl (Zb 0) Ze)) (Zy (Zl (Zb 0) Ze) (Zl (Zb 0) Ze))) Ze) (Zj (Zr 4 Zbz.nd (Zq2 (hr.hd (by decide)) T.b_list T.b_reversed (Za (Zb 4) Zd)))) ZD)
  (Zf (Zr 4 Zbz.nd (ZH (Zj5 (Zb 4) (Zj4 (Zb 3)) Zj3) (Zj5 (Zb 4) Zj3 (Zj4 (Zb 3)))))
  (Zj (Zw (Zv (Za (Zbj (Zl5 (N:=["_law_ray","_law_one"]) (k:=2) (by decide +kernel) rfl (by decide +kernel) rfl) (Zbp (Zb 4)) (fun _ _ _ _=>(Zar (Zz hr (by decide)) (Zp (Zm 0 (show List.Nodup (["_law_ray","_law_one"]:List Str) by decide +kernel)) (Zp (Zm 1 (show List.Nodup (["_law_ray","_law_one"]:List Str) by decide +kernel)) ZT)) (hlen:=(Zx (Zx (fun _ _ _ h=>ZU h)))))) (fun _ _ _ _=>(Or.inl ⟨rfl,rfl⟩)) (fun _ _ _ _=>(Zb 0))) (Za (Zbj (Zl5 (N:=["_law_ray","_law_one"]) (k:=2) (by decide +kernel) rfl (by decide +kernel) rfl) (Zbp (Zb 4)) (fun _ _ _ _=>(Zar (Zz hr (by decide)) (Zp (Zm 0 (show List.Nodup (["_law_ray","_law_one"]:List Str) by decide +kernel)) (Zp (Zm 1 (show List.Nodup (["_law_ray","_law_one"]:List Str) by decide +kernel)) ZT)) (hlen:=(Zx (Zx (fun _ _ _ h=>ZU h)))))) (fun _ _ _ _=>(Or.inl ⟨rfl,rfl⟩)) (fun _ _ _ _=>(Zb 1))) Zd))))))))
noncomputable abbrev ZaN:Stmt:=top 68
theorem Zaw:FnScope ["_law_rays","_law_heights","_law_found","_law_k","_law_ahead","_law_behind","_law_number","_law_beside"] ["_law_rays","_law_heights"] (Zi ZaN):=⟨rfl,rfl,rfl,by decide +kernel,rfl,by decide +kernel,by decide +kernel⟩
theorem Zfz {f:Addr} {fd:FuncData} (F:Fun K "_law_bends" "_law_bends" ZaN f fd) (T:Txt K mg):FnOk P w K mg base (CXE P w) 101 f fd ["_law_rays","_law_heights"] (spD K F_law_bends):=
 ZP F Zaw rfl rfl fun cdv A outer s H E hr θ=>(Zf (Zr 2 Zaw.nd (ZG Zd))
  (Zf (ZbT θ.own T.b_range (Za (Zs Zq Zaf T.b_len PySem.boot_len (Za (Zb 0) Zd)) Zd) (Zm 3 Zaw.nd) (Zf (Zdt 4 5 (Zz hr (by decide)) Zaw.nd (Za (Zl (Zb 0) (Zaa (Zb 3) Ze)) (Za (Zl (Zb 0) (ZbF (ZH (Zb 3) Ze) (Zs Zq Zaf T.b_len PySem.boot_len (Za (Zb 0) Zd)))) Zd)))
  (Zf (Zr 6 Zaw.nd (Zaa Ze (Zaa (Zy (Zl (Zb 4) Ze) (Zl (Zb 5) Ze)) (Zy (Zl (Zb 4) Ze) (Zl (Zb 5) Ze)))))
  (Zf (Zr 7 Zaw.nd (ZH (Zl (Zb 1) (Zaa (Zb 3) Ze)) (Zl (Zb 1) (ZbF (ZH (Zb 3) Ze) (Zs Zq Zaf T.b_len PySem.boot_len (Za (Zb 0) Zd))))))
  (Zj (ZaV (Zcq (Zb 2) (ZH (Zb 7) (Zy (Zb 6) (Zl (Zb 1) (Zb 3)))))))))))
  (Zj (Zw (Zb 2)))))
noncomputable abbrev ZaO:Stmt:=top 69
noncomputable def Zeb:Sv:=(ZC (ZQ (gNm 2) (ZoC [(PySem.Str.ofString "bend",(ZcF [(PySem.Str.ofString "NotSmooth",false),(PySem.Str.ofString "NoRatio",false),(PySem.Str.ofString "NoHeight",false),(PySem.Str.ofString "NoBend",true)] (Zh 0))),(PySem.Str.ofString "body",(ZcF [(PySem.Str.ofString "NotSmooth",false),(PySem.Str.ofString "NoRatio",false),(PySem.Str.ofString "NoHeight",false),(PySem.Str.ofString "NoBend",false)] (Zh 0))),(PySem.Str.ofString "four",(ZcF [(PySem.Str.ofString "NotSmooth",false),(PySem.Str.ofString "NoRatio",false),(PySem.Str.ofString "NoHeight",false),(PySem.Str.ofString "NoBend",false)] (Zh 0))),(PySem.Str.ofString "height",(ZcF [(PySem.Str.ofString "NotSmooth",false),(PySem.Str.ofString "NoRatio",false),(PySem.Str.ofString "NoHeight",true),(PySem.Str.ofString "NoBend",false)] (Zh 0))),(PySem.Str.ofString "minus",(ZcF [(PySem.Str.ofString "NotSmooth",false),(PySem.Str.ofString "NoRatio",false),(PySem.Str.ofString "NoHeight",false),(PySem.Str.ofString "NoBend",false)] (Zh 0))),(PySem.Str.ofString "one",(ZcF [(PySem.Str.ofString "NotSmooth",false),(PySem.Str.ofString "NoRatio",false),(PySem.Str.ofString "NoHeight",false),(PySem.Str.ofString "NoBend",false)] (Zh 0))),(PySem.Str.ofString "place",(ZcF [(PySem.Str.ofString "NotSmooth",false),(PySem.Str.ofString "NoRatio",false),(PySem.Str.ofString "NoHeight",false),(PySem.Str.ofString "NoBend",false)] (Zh 0))),(PySem.Str.ofString "ratio",(ZcF [(PySem.Str.ofString "NotSmooth",false),(PySem.Str.ofString "NoRatio",true),(PySem.Str.ofString "NoHeight",false),(PySem.Str.ofString "NoBend",false)] (Zh 0))),(PySem.Str.ofString "round",(ZcF [(PySem.Str.ofString "NotSmooth",false),(PySem.Str.ofString "NoRatio",false),(PySem.Str.ofString "NoHeight",false),(PySem.Str.ofString "NoBend",false)] (Zh 0))),(PySem.Str.ofString "row",(ZcF [(PySem.Str.ofString "NotSmooth",false),(PySem.Str.ofString "NoRatio",false),(PySem.Str.ofString "NoHeight",false),(PySem.Str.ofString "NoBend",false)] (Zh 0))),(PySem.Str.ofString "text",(ZcF [(PySem.Str.ofString "NotSmooth",false),(PySem.Str.ofString "NoRatio",false),(PySem.Str.ofString "NoHeight",false),(PySem.Str.ofString "NoBend",false)] (Zh 0))),(PySem.Str.ofString "smooth",(ZcF [(PySem.Str.ofString "NotSmooth",true),(PySem.Str.ofString "NoRatio",false),(PySem.Str.ofString "NoHeight",false),(PySem.Str.ofString "NoBend",false)] (Zh 0))),(PySem.Str.ofString "turning",(ZcF [(PySem.Str.ofString "NotSmooth",false),(PySem.Str.ofString "NoRatio",false),(PySem.Str.ofString "NoHeight",false),(PySem.Str.ofString "NoBend",false)] (Zh 0))),(PySem.Str.ofString "wedge",(ZcF [(PySem.Str.ofString "NotSmooth",false),(PySem.Str.ofString "NoRatio",false),(PySem.Str.ofString "NoHeight",false),(PySem.Str.ofString "NoBend",false)] (Zh 0))),(PySem.Str.ofString "unknown",(ZcF [(PySem.Str.ofString "NotSmooth",false),(PySem.Str.ofString "NoRatio",false),(PySem.Str.ofString "NoHeight",false),(PySem.Str.ofString "NoBend",false)] (Zh 0)))]))
 (Zag (Zg8 (e2 dEq (Zay (ZoD (Zh 2)) 1 [2] (gNm 0) (tv (e2 Zmk (Zh 1) (Zh 0))) (Zh 0)) (Zbn (Zc (Zh 1) aNil))) (ZcF [(PySem.Str.ofString "NotSmooth",true),(PySem.Str.ofString "NoRatio",true),(PySem.Str.ofString "NoHeight",true),(PySem.Str.ofString "NoBend",true)] (Zh 0)))))
noncomputable def F_law_only:List D->Sto->Out D:=fnF Zeb 2 1
theorem ZdJ:FnScope ["_law_e","_law_kind","_law_kinds"] ["_law_e","_law_kind"] (Zi ZaO):=⟨rfl,rfl,rfl,by decide +kernel,rfl,by decide +kernel,by decide +kernel⟩
theorem Zgp {f:Addr} {fd:FuncData} (F:Fun K "_law_only" "_law_only" ZaO f fd) (T:Txt K mg):FnOk P w K mg base (CXE P w) 1 f fd ["_law_e","_law_kind"] (spD K F_law_only):=
 ZP F ZdJ rfl rfl fun cdv A outer s H E hr θ=>(Zf (Zr 2 ZdJ.nd (Zms (ZZ (Zba T.it_NoBend T.gl T.b_isinstance (Zb 0)) (ZZ (Zba T.it_NoBody T.gl T.b_isinstance (Zb 0)) (ZZ (Zba T.it_NoFour T.gl T.b_isinstance (Zb 0)) (ZZ (Zba T.it_NoHeight T.gl T.b_isinstance (Zb 0)) (ZZ (Zba T.it_NoMinus T.gl T.b_isinstance (Zb 0)) (ZZ (Zba T.it_NoOne T.gl T.b_isinstance (Zb 0)) (ZZ (Zba T.it_NoPlace T.gl T.b_isinstance (Zb 0)) (ZZ (Zba T.it_NoRatio T.gl T.b_isinstance (Zb 0)) (ZZ (Zba T.it_NoRound T.gl T.b_isinstance (Zb 0)) (ZZ (Zba T.it_NoRow T.gl T.b_isinstance (Zb 0)) (ZZ (Zba T.it_NoText T.gl T.b_isinstance (Zb 0)) (ZZ (Zba T.it_NotSmooth T.gl T.b_isinstance (Zb 0)) (ZZ (Zba T.it_NoTurning T.gl T.b_isinstance (Zb 0)) (ZZ (Zba T.it_NoWedge T.gl T.b_isinstance (Zb 0)) (ZZ (Zba T.it_Unknown T.gl T.b_isinstance (Zb 0)) Zmr))))))))))))))) (by decide +kernel) (by decide)))
  (Zj (Zw (ZkP (ZcU (Zb3 hr.units) ZdN (Zbj (Zk0 (XN:=["_law_e","_law_kind","_law_kinds"]) (dn:=(Zi ZaO).names) (N:=["_law_name","_law_kinds"]) (k:=1) (fr:=[2]) rfl rfl rfl rfl (by decide +kernel)) (Zkg (Zb 2)) (fun _ _ _ _=>(Zm 0 (show List.Nodup (["_law_name","_law_kinds"]:List Str) by decide +kernel))) (fun _ _ _ _=>(Or.inr ⟨_,rfl,(ZaD (Zml hr.units (Zb 1) (Zb 0)))⟩)) (fun _ _ _ _=>(Zb 0))) (ZG (Za (Zb 1) Zd))) (Zh5 (Zop T.ib_ValueError T.b_isinstance T.b_ValueError Zeo (Zb 0)))))))
noncomputable abbrev Z8:Stmt:=top 70
noncomputable def ZcA:Sv:=(ZC (Zme (Zb0 (eCV 1 [(PySem.Str.ofString "dots",F_dots),(PySem.Str.ofString "dots_by_crossing",F_dots_by_crossing),(PySem.Str.ofString "corners",F_corners),(PySem.Str.ofString "height_of",F_height_of)] (Zc (e2 dIx (Zh 2) (eC (.int 0))) (Zc (e2 dIx (Zh 2) (eC (.int 1))) aNil)))) [PySem.Str.ofString "NotSmooth",PySem.Str.ofString "NoRatio",PySem.Str.ofString "NoHeight",PySem.Str.ofString "NoBend"] [false,false,false,false] 3 (Zag (Zk F_law_only (Zc (Zh 3) (Zc (Zh 0) aNil)))))
 (Zag (eC (.bl false))))
noncomputable def F_law_refused:List D->Sto->Out D:=fnF ZcA 3 1
theorem Zb5:FnScope ["_law_kind","_law_make","_law_parts","_law_e"] ["_law_kind","_law_make","_law_parts"] (Zi Z8):=⟨rfl,rfl,rfl,by decide +kernel,rfl,by decide +kernel,by decide +kernel⟩
theorem ZdQ {f:Addr} {fd:FuncData} (F:Fun K "_law_refused" "_law_refused" Z8 f fd) (T:Txt K mg) (C_height_of:Cal P w K mg base "height_of" 105 2 F_height_of) (C_corners:Cal P w K mg base "corners" 106 2 F_corners) (C_dots_by_crossing:Cal P w K mg base "dots_by_crossing" 106 2 F_dots_by_crossing) (C_dots:Cal P w K mg base "dots" 107 2 F_dots) (C_law_only:Cal P w K mg base "_law_only" 1 2 F_law_only):FnOk P w K mg base (CXE P w) 108 f fd ["_law_kind","_law_make","_law_parts"] (spD K F_law_refused):=
 ZP F Zb5 rfl rfl fun cdv A outer s H E hr θ=>(Zf (Zos T.ct_RayError T.gl (hr.hd (by decide)) rfl rfl rfl Zb5.nd [false,false,false,false] (fun pn xe σ ξ' θ'=>(Zj (ZaV (Zkc (Zdf (hr.mono (by decide)) C_dots (Zdf (hr.mono (by decide)) C_dots_by_crossing (Zdf (hr.mono (by decide)) C_corners (Zdf (hr.mono (by decide)) C_height_of Zmp)))) T.gl θ' (Za (Zl (Zb 2) Ze) (Za (Zl (Zb 2) Ze) Zd)))))) (fun ea=>(Zj (Zw (Zg C_law_only Zma (Zis hr (by decide) (by decide)) (Za (Zb 3) (Za (Zb 0) Zd)))))))
  (Zj (Zw Zdl)))
noncomputable abbrev Zbv:Stmt:=top 71
noncomputable def ZbP:Sv:=(sIf (ZbZ (tv (Zk F_law_refused (Zc (Zh 0) (Zc (Zh 3) (Zc (Zap (Zc (Zk bList (Zc (Zh 1) aNil)) (Zc (Zk bList (Zc (Zh 2) aNil)) aNil))) aNil)))))) (Zag (eC (.bl false))) sNil)
noncomputable def ZfA:Sv:=(ZC (ZkX (gNm 3) (Zbn (Zc (eC (.fn (PySem.Str.ofString "dots"))) (Zc (eC (.fn (PySem.Str.ofString "dots_by_crossing"))) (Zc (eC (.fn (PySem.Str.ofString "corners"))) aNil)))) ZbP)
 (Zag (eC (.bl true))))
noncomputable def F_law_all:List D->Sto->Out D:=fnF ZfA 3 1
theorem Zec:FnScope ["_law_kind","_law_rays","_law_height","_law_make"] ["_law_kind","_law_rays","_law_height"] (Zi Zbv):=⟨rfl,rfl,rfl,by decide +kernel,rfl,by decide +kernel,by decide +kernel⟩
theorem Zhs {f:Addr} {fd:FuncData} (F:Fun K "_law_all" "_law_all" Zbv f fd) (T:Txt K mg) (C_law_refused:Cal P w K mg base "_law_refused" 108 3 F_law_refused):FnOk P w K mg base (CXE P w) 109 f fd ["_law_kind","_law_rays","_law_height"] (spD K F_law_all):=
 ZP F Zec rfl rfl fun cdv A outer s H E hr θ=>(Zf (Ze2 θ.own (ZG (Za (ZfY T.fn_dots T.gl) (Za (ZfY T.fn_dots_by_crossing T.gl) (Za (ZfY T.fn_corners T.gl) Zd)))) (Zm 3 Zec.nd) (Zj (Zac (ZbE (ZaD (Zg C_law_refused θ (hr.mono (by decide)) (Za (Zb 0) (Za (Zb 3) (Za (Zv (Za (Zae ZaP Zdp T.b_list ZcD (Za (Zb 1) Zd)) (Za (Zae ZaP Zdp T.b_list ZcD (Za (Zb 2) Zd)) Zd))) Zd)))))) (Zj (Zw Zdl)) ZD)))
  (Zj (Zw Zdl)))
noncomputable abbrev ZeE:Stmt:=top 72
noncomputable def ZgY:Sv:=(Zb0 (Zjm mApp (Zh 10) (Zc (e2 dSub (Zk F_law_take (Zc (Zh 2) (Zc (eC (.int 9)) aNil))) (eC (.int 2))) aNil)))
noncomputable def ZeF:Sv:=(sIf (ZbZ (tv (Zk F_law_refused (Zc (eC (.str (PySem.Str.ofString "bend"))) (Zc (Zh 14) (Zc (Zap (Zc (Zk bList (Zc (Zh 5) aNil)) (Zc (Zk bList (Zc (Zh 13) aNil)) aNil))) aNil)))))) (Zag (eC (.bl false))) sNil)
noncomputable def ZeG:Sv:=(ZC (ZQ (gNm 2) (Zk F_law_purse (Zc (Zh 0) (Zc (Zh 1) aNil))))
 (ZC (ZQ (gNm 3) (Zk F_law_table (Zc (Zh 2) aNil)))
 (ZC (ZQ (gNm 4) (Zbn (Zc (Zap (Zc (eC (.int 1)) (Zc (eC (.int 0)) aNil))) (Zc (Zap (Zc (eC (.int 0)) (Zc (eC (.int 1)) aNil))) (Zc (Zap (Zc (Zdo (eC (.int 1))) (Zc (Zdo (eC (.int 2))) aNil))) aNil)))))
 (ZC (ZQ (gTp (gCs (gNm 5) (gCs (gNm 6) gNl))) (Zk F_law_spun (Zc (Zh 3) (Zc (Zh 4) (Zc (Zh 4) (Zc (Zk F_law_take (Zc (Zh 2) (Zc (eC (.int 3)) aNil))) aNil))))))
 (ZC (ZQ (gNm 7) (Zk F_law_take (Zc (Zh 2) (Zc (eC (.int 6)) aNil))))
 (ZC (sIf (Zht (ZbZ (tv (Zk F_law_all (Zc (eC (.str (PySem.Str.ofString "smooth"))) (Zc (Zh 5) (Zc (e2 dRep (Zbn (Zc (Zap (Zc (eC (.int 2)) (Zc (eC (.int 1)) aNil))) aNil)) (Zh 7)) aNil)))))) (ZbZ (tv (Zk F_law_all (Zc (eC (.str (PySem.Str.ofString "smooth"))) (Zc (Zh 5) (Zc (e2 dRep (Zbn (Zc (Zap (Zc (eC (.int 1)) (Zc (eC (.int 2)) aNil))) aNil)) (eC (.int 3))) aNil))))))) (Zag (eC (.bl false))) sNil)
 (ZC (sIf (ZbZ (tv (Zk F_law_refused (Zc (eC (.str (PySem.Str.ofString "smooth"))) (Zc (eC (.fn (PySem.Str.ofString "height_of"))) (Zc (Zap (Zc (Zh 5) (Zc (Zbn (Zc (Zap (Zc (Zap (Zc (eC (.int 0)) (Zc (eC (.int 1)) aNil))) (Zc (Zap (Zc (eC (.int 0)) (Zc (eC (.int 1)) aNil))) aNil))) aNil)) aNil))) aNil)))))) (Zag (eC (.bl false))) sNil)
 (ZC (ZQ (gNm 8) (Zk F_law_base (Zc (Zh 2) (Zc (eC (.int 14)) aNil))))
 (ZC (ZQ (gTp (gCs (gNm 5) (gCs (gNm 6) gNl))) (Zk F_law_spun (Zc (Zh 3) (Zc (Zh 8) (Zc (Zh 8) (Zc (Zk F_law_take (Zc (Zh 2) (Zc (Zk bLen (Zc (Zh 8) aNil)) aNil))) aNil))))))
 (ZC (ZQ (gNm 9) (e2 dIx (Zbn (Zc (Zh 7) (Zc (e2 dAdd (e2 dAdd (Zk bLen (Zc (Zh 5) aNil)) (eC (.int 1))) (Zh 7)) aNil))) (Zk bInt (Zc (Zn6 (e2 dEq (Zh 7) (Zk bLen (Zc (Zh 5) aNil))) (e2 dEq (Zk F_law_take (Zc (Zh 2) (Zc (eC (.int 2)) aNil))) (eC (.int 0)))) aNil))))
 (ZC (sIf (Zht (ZbZ (tv (Zk F_law_all (Zc (eC (.str (PySem.Str.ofString "height"))) (Zc (Zh 5) (Zc (e2 dRep (Zbn (Zc (Zap (Zc (eC (.int 2)) (Zc (eC (.int 1)) aNil))) aNil)) (Zh 9)) aNil)))))) (ZbZ (tv (Zk F_law_all (Zc (eC (.str (PySem.Str.ofString "height"))) (Zc (Zh 5) (Zc (Zbn aNil) aNil))))))) (Zag (eC (.bl false))) sNil)
 (ZC (sIf (ZbZ (tv (Zk F_law_all (Zc (eC (.str (PySem.Str.ofString "height"))) (Zc (Zh 5) (Zc (e2 dRep (Zbn (Zc (Zap (Zc (eC (.int 1)) (Zc (eC (.int 2)) aNil))) aNil)) (Zh 9)) aNil)))))) (Zag (eC (.bl false))) sNil)
 (ZC (ZQ (gNm 10) (Zbn aNil))
 (ZC (Zb4 (gNm 11) (Zc (Zk bLen (Zc (Zh 5) aNil)) aNil) ZgY)
 (ZC (ZQ (gNm 12) (Zay (iSq (Zh 10)) 1 [] (gNm 0) (fun _ M=> .ok true M) (Zap (Zc (Zh 0) (Zc (eC (.int 1)) aNil)))))
 (ZC (sIf (Zdm (tv (e2 dLt (Zk (ZcH List.min?) (Zc (Zk F_law_bends (Zc (Zh 5) (Zc (Zh 10) aNil))) aNil)) (eC (.int 0)))) (ZbZ (tv (Zk F_law_refused (Zc (eC (.str (PySem.Str.ofString "bend"))) (Zc (eC (.fn (PySem.Str.ofString "corners"))) (Zc (Zap (Zc (Zh 5) (Zc (Zh 12) aNil))) aNil))))))) (Zag (eC (.bl false))) sNil)
 (ZC (ZQ (gNm 13) (e2 dRep (Zbn (Zc (Zap (Zc (eC (.int 0)) (Zc (eC (.int 1)) aNil))) aNil)) (Zk bLen (Zc (Zh 5) aNil))))
 (ZC (ZjP (Zh 13) (Zk F_law_take (Zc (Zh 2) (Zc (Zk bLen (Zc (Zh 5) aNil)) aNil))) (Zap (Zc (e2 dSub (e2 dSub (eC (.int 0)) (eC (.int 1))) (Zk F_law_take (Zc (Zh 2) (Zc (eC (.int 5)) aNil)))) (Zc (e2 dAdd (eC (.int 1)) (e2 dMul (Zk F_law_take (Zc (Zh 2) (Zc (eC (.int 2)) aNil))) (eC (.int 6)))) aNil))))
 (ZkX (gNm 14) (Zbn (Zc (eC (.fn (PySem.Str.ofString "corners"))) (Zc (eC (.fn (PySem.Str.ofString "dots_by_crossing"))) aNil))) ZeF)))))))))))))))))))
noncomputable def Zqb:Sv:=(ZC (Zb4 (gNm 1) (Zc (Zk bMax (Zc (eC (.int 1)) (Zc (Zk bMin (Zc (eC (.int 2)) (Zc (Zk bLen (Zc (Zh 0) aNil)) aNil))) aNil))) aNil) ZeG)
 (Zag (eC (.bl true))))
noncomputable def Zgq:List D->Sto->Out D:=fnF Zqb 1 14
theorem ZaT:FnScope ["_law_script","_law_k","_law_purse_here","_law_table_here","_law_bad","_law_led","_law_owns","_law_many","_law_rays","_law_other","_law_units","_law_turn","_law_height","_law_low","_law_make"] ["_law_script"] (Zi ZeE):=⟨rfl,rfl,rfl,by decide +kernel,rfl,by decide +kernel,by decide +kernel⟩
theorem Zqc {f:Addr} {fd:FuncData} (F:Fun K "law" "law" ZeE f fd) (T:Txt K mg) (C_law_purse:Cal P w K mg base "_law_purse" 1 2 F_law_purse) (C_law_table:Cal P w K mg base "_law_table" 101 1 F_law_table) (C_law_take:Cal P w K mg base "_law_take" 1 2 F_law_take) (C_law_spun:Cal P w K mg base "_law_spun" 101 4 F_law_spun) (C_law_all:Cal P w K mg base "_law_all" 109 3 F_law_all) (C_law_refused:Cal P w K mg base "_law_refused" 108 3 F_law_refused) (C_law_base:Cal P w K mg base "_law_base" 101 2 F_law_base) (C_law_bends:Cal P w K mg base "_law_bends" 101 2 F_law_bends):FnOk P w K mg base (CXE P w) 110 f fd ["_law_script"] (spD K Zgq):=
 ZP F ZaT rfl rfl fun cdv A outer s H E hr θ=>(Zf (ZbT θ.own T.b_range (Za (Zs (ZeL (Zz hr (by decide))) ZkS T.b_max ZdX (Za Ze (Za (Zs (ZhJ (Zz hr (by decide))) Zog T.b_min ZgI (Za Ze (Za (Zs Zq Zaf T.b_len PySem.boot_len (Za (Zb 0) Zd)) Zd))) Zd))) Zd) (Zm 1 ZaT.nd) (Zf (Zr 2 ZaT.nd (Zg C_law_purse θ (hr.mono (by decide)) (Za (Zb 0) (Za (Zb 1) Zd))))
  (Zf (Zr 3 ZaT.nd (Zg C_law_table θ (hr.mono (by decide)) (Za (Zb 2) Zd)))
  (Zf (Zr 4 ZaT.nd (ZG (Za (Zv (Za Ze (Za Ze Zd))) (Za (Zv (Za Ze (Za Ze Zd))) (Za (Zv (Za (Zax Ze) (Za (Zax Ze) Zd))) Zd)))))
  (Zf (ZdV (Zg C_law_spun θ (hr.mono (by decide)) (Za (Zb 3) (Za (Zb 4) (Za (Zb 4) (Za (Zg C_law_take θ (hr.mono (by decide)) (Za (Zb 2) (Za Ze Zd))) Zd))))) (Zar (Zz hr (by decide)) (Zp (Zm 5 ZaT.nd) (Zp (Zm 6 ZaT.nd) ZT)) (hlen:=(Zx (Zx (fun _ _ _ h=>ZU h))))))
  (Zf (Zr 7 ZaT.nd (Zg C_law_take θ (hr.mono (by decide)) (Za (Zb 2) (Za Ze Zd))))
  (Zf (Zac (ZfP (ZeV (ZbE (ZaD (Zg C_law_all θ (hr.mono (by decide)) (Za ZaQ (Za (Zb 5) (Za (Zfd (ZG (Za (Zv (Za Ze (Za Ze Zd))) Zd)) (Zb 7)) Zd)))))) (ZcV (ZbE (ZaD (Zg C_law_all θ (hr.mono (by decide)) (Za ZaQ (Za (Zb 5) (Za (Zfd (ZG (Za (Zv (Za Ze (Za Ze Zd))) Zd)) Ze) Zd))))))))) (Zj (Zw Zdl)) ZD)
  (Zf (Zac (ZbE (ZaD (Zg C_law_refused θ (hr.mono (by decide)) (Za ZaQ (Za (ZfY T.fn_height_of T.gl) (Za (Zv (Za (Zb 5) (Za (ZG (Za (Zv (Za (Zv (Za Ze (Za Ze Zd))) (Za (Zv (Za Ze (Za Ze Zd))) Zd))) Zd)) Zd))) Zd)))))) (Zj (Zw Zdl)) ZD)
  (Zf (Zr 8 ZaT.nd (Zg C_law_base θ (hr.mono (by decide)) (Za (Zb 2) (Za Ze Zd))))
  (Zf (ZdV (Zg C_law_spun θ (hr.mono (by decide)) (Za (Zb 3) (Za (Zb 8) (Za (Zb 8) (Za (Zg C_law_take θ (hr.mono (by decide)) (Za (Zb 2) (Za (Zs Zq Zaf T.b_len PySem.boot_len (Za (Zb 8) Zd)) Zd))) Zd))))) (Zar (Zz hr (by decide)) (Zp (Zm 5 ZaT.nd) (Zp (Zm 6 ZaT.nd) ZT)) (hlen:=(Zx (Zx (fun _ _ _ h=>ZU h))))))
  (Zf (Zr 9 ZaT.nd (Zl (ZG (Za (Zb 7) (Za (ZH (ZH (Zs Zq Zaf T.b_len PySem.boot_len (Za (Zb 5) Zd)) Ze) (Zb 7)) Zd))) (Zae ZbD ZeY T.b_int ZdW (Za (ZqS (ZcU (Zb3 hr.units) ZdN (Zb 7) (Zs Zq Zaf T.b_len PySem.boot_len (Za (Zb 5) Zd))) (Zh5 (ZcU (Zb3 hr.units) ZdN (Zg C_law_take θ (hr.mono (by decide)) (Za (Zb 2) (Za Ze Zd))) Ze))) Zd))))
  (Zf (Zac (ZfP (ZeV (ZbE (ZaD (Zg C_law_all θ (hr.mono (by decide)) (Za ZaQ (Za (Zb 5) (Za (Zfd (ZG (Za (Zv (Za Ze (Za Ze Zd))) Zd)) (Zb 9)) Zd)))))) (ZcV (ZbE (ZaD (Zg C_law_all θ (hr.mono (by decide)) (Za ZaQ (Za (Zb 5) (Za (ZG Zd) Zd))))))))) (Zj (Zw Zdl)) ZD)
  (Zf (Zac (ZbE (ZaD (Zg C_law_all θ (hr.mono (by decide)) (Za ZaQ (Za (Zb 5) (Za (Zfd (ZG (Za (Zv (Za Ze (Za Ze Zd))) Zd)) (Zb 9)) Zd)))))) (Zj (Zw Zdl)) ZD)
  (Zf (Zr 10 ZaT.nd (ZG Zd))
  (Zf (ZbT θ.own T.b_range (Za (Zs Zq Zaf T.b_len PySem.boot_len (Za (Zb 5) Zd)) Zd) (Zm 11 ZaT.nd) (Zj (ZaV (Zcq (Zb 10) (Zaa (Zg C_law_take θ (hr.mono (by decide)) (Za (Zb 2) (Za Ze Zd))) Ze)))))
  (Zf (ZcI 12 ZaT.nd (Zl5 (N:=["_law_own"]) (k:=1) (by decide +kernel) rfl (by decide +kernel) rfl) (Zbp (Zb 10)) (fun _ _ _ _=>(Zm 0 (show List.Nodup (["_law_own"]:List Str) by decide +kernel))) (fun _ _ _ _=>(Or.inl ⟨rfl,rfl⟩)) (fun _ _ _ _=>(Zv (Za (Zb 0) (Za Ze Zd)))))
  (Zf (Zac (ZfP (Zdn (ZJ Zc1 Zc3 (Zs (Zdv (Zz hr (by decide))) ZfW T.b_min ZgI (Za (Zg C_law_bends θ (hr.mono (by decide)) (Za (Zb 5) (Za (Zb 10) Zd))) Zd)) Ze) (Zb7 (ZbE (ZaD (Zg C_law_refused θ (hr.mono (by decide)) (Za ZaQ (Za (ZfY T.fn_corners T.gl) (Za (Zv (Za (Zb 5) (Za (Zb 12) Zd))) Zd))))))))) (Zj (Zw Zdl)) ZD)
  (Zf (Zr 13 ZaT.nd (Zfd (ZG (Za (Zv (Za Ze (Za Ze Zd))) Zd)) (Zs Zq Zaf T.b_len PySem.boot_len (Za (Zb 5) Zd))))
  (Zf (ZgG (Zb 13) (Zg C_law_take θ (hr.mono (by decide)) (Za (Zb 2) (Za (Zs Zq Zaf T.b_len PySem.boot_len (Za (Zb 5) Zd)) Zd))) (Zv (Za (Zaa (Zaa Ze Ze) (Zg C_law_take θ (hr.mono (by decide)) (Za (Zb 2) (Za Ze Zd)))) (Za (ZH Ze (Zy (Zg C_law_take θ (hr.mono (by decide)) (Za (Zb 2) (Za Ze Zd))) Ze)) Zd))))
  (Zj (Ze2 θ.own (ZG (Za (ZfY T.fn_corners T.gl) (Za (ZfY T.fn_dots_by_crossing T.gl) Zd))) (Zm 14 ZaT.nd) (Zj (Zac (ZbE (ZaD (Zg C_law_refused θ (hr.mono (by decide)) (Za ZaQ (Za (Zb 14) (Za (Zv (Za (Zae ZaP Zdp T.b_list ZcD (Za (Zb 5) Zd)) (Za (Zae ZaP Zdp T.b_list ZcD (Za (Zb 13) Zd)) Zd))) Zd)))))) (Zj (Zw Zdl)) ZD)))))))))))))))))))))))
  (Zj (Zw Zdl)))
end
theorem Zjo {α:Type} {P:List α->Prop} (h: ∀ x0,P [x0]): ∀ us:List α,us.length=1->P us
 | [x0],_=>h x0
theorem ZcT {α:Type} {P:List α->Prop} (h: ∀ x0 x1,P [x0,x1]): ∀ us:List α,us.length=2->P us
 | [x0,x1],_=>h x0 x1
theorem Zns {α:Type} {P:List α->Prop} (h: ∀ x0 x1 x2,P [x0,x1,x2]): ∀ us:List α,us.length=3->P us
 | [x0,x1,x2],_=>h x0 x1 x2
theorem Ztt {α:Type} {P:List α->Prop} (h: ∀ x0 x1 x2 x3,P [x0,x1,x2,x3]): ∀ us:List α,us.length=4->P us
 | [x0,x1,x2,x3],_=>h x0 x1 x2 x3
theorem Zqd {l:PySem.W.OpenLaw} {w:World} {K:PySem.W.Frag} {h:Heap} {mg:Str->Option Value} {fa f1 f2 f3 f4 f5 f6 f7 f8 f9 f10 f11 f12 f13 f14 f15 f16 f17 f18 f19 f20 f21 f22 f23 f24 f25 f26 f27 f28 f29 f30 f31 f32 f33 f34 f35 f36 f37 f38 f39 f40 f41 f42 f43 f44 f45 f46:Addr} (X:K.In h) (G:h.Ns mainGlobals mg) (hfa:mg "law"=some (.ref fa))
  {od1 an1 od2 an2 od3 an3 od4 an4 od5 an5 od6 an6 od7 an7 od8 an8 od9 an9 od10 an10 od11 an11 od12 an12 od13 an13 od14 an14 od15 an15 od16 an16 od17 an17 od18 an18 od19 an19 od20 an20 od21 an21 od22 an22 od23 an23 od24 an24 od25 an25 od26 an26 od27 an27 od28 an28 od29 an29 od30 an30 od31 an31 od32 an32 od33 an33 od34 an34 od35 an35 od36 an36 od37 an37 od38 an38 od39 an39 od40 an40 od41 an41 od42 an42 od43 an43 od44 an44 od45 an45 od46 an46:Option Addr} {sl1 sl2 sl3 sl4 sl5 sl6 sl7 sl8 sl9 sl10 sl11 sl12 sl13 sl14 sl15 sl16 sl17 sl18 sl19 sl20 sl21 sl22 sl23 sl24 sl25 sl26 sl27 sl28 sl29 sl30 sl31 sl32 sl33 sl34 sl35 sl36 sl37 sl38 sl39 sl40 sl41 sl42 sl43 sl44 sl45 sl46:Array (Option Value)} {oc1 kV1 dc1 pm1 cd1 ct1 oc2 kV2 dc2 pm2 cd2 ct2 oc3 kV3 dc3 pm3 cd3 ct3 oc4 kV4 dc4 pm4 cd4 ct4 oc5 kV5 dc5 pm5 cd5 ct5 oc6 kV6 dc6 pm6 cd6 ct6 oc7 kV7 dc7 pm7 cd7 ct7 oc8 kV8 dc8 pm8 cd8 ct8 oc9 kV9 dc9 pm9 cd9 ct9 oc10 kV10 dc10 pm10 cd10 ct10 oc11 kV11 dc11 pm11 cd11 ct11 oc12 kV12 dc12 pm12 cd12 ct12 oc13 kV13 dc13 pm13 cd13 ct13 oc14 kV14 dc14 pm14 cd14 ct14 oc15 kV15 dc15 pm15 cd15 ct15 oc16 kV16 dc16 pm16 cd16 ct16 oc17 kV17 dc17 pm17 cd17 ct17 oc18 kV18 dc18 pm18 cd18 ct18 oc19 kV19 dc19 pm19 cd19 ct19 oc20 kV20 dc20 pm20 cd20 ct20 oc21 kV21 dc21 pm21 cd21 ct21 oc22 kV22 dc22 pm22 cd22 ct22 oc23 kV23 dc23 pm23 cd23 ct23 oc24 kV24 dc24 pm24 cd24 ct24 oc25 kV25 dc25 pm25 cd25 ct25 oc26 kV26 dc26 pm26 cd26 ct26 oc27 kV27 dc27 pm27 cd27 ct27 oc28 kV28 dc28 pm28 cd28 ct28 oc29 kV29 dc29 pm29 cd29 ct29 oc30 kV30 dc30 pm30 cd30 ct30 oc31 kV31 dc31 pm31 cd31 ct31 oc32 kV32 dc32 pm32 cd32 ct32 oc33 kV33 dc33 pm33 cd33 ct33 oc34 kV34 dc34 pm34 cd34 ct34 oc35 kV35 dc35 pm35 cd35 ct35 oc36 kV36 dc36 pm36 cd36 ct36 oc37 kV37 dc37 pm37 cd37 ct37 oc38 kV38 dc38 pm38 cd38 ct38 oc39 kV39 dc39 pm39 cd39 ct39 oc40 kV40 dc40 pm40 cd40 ct40 oc41 kV41 dc41 pm41 cd41 ct41 oc42 kV42 dc42 pm42 cd42 ct42 oc43 kV43 dc43 pm43 cd43 ct43 oc44 kV44 dc44 pm44 cd44 ct44 oc45 kV45 dc45 pm45 cd45 ct45 oc46 kV46 dc46 pm46 cd46 ct46:Value}
  (a1:PySem.W.nsIn K mainGlobals "is_whole"=some (some (.ref f1))) (l1:K.lookup f1=some ⟨oc1,od1,.func (PySem.W.fnOf "is_whole" "is_whole" (Zo ZaX) (Zn ZaX) (Zi ZaX) .none kV1 dc1 pm1 an1 cd1 ct1),sl1⟩) (c1:PySem.W.codeIn K cd1 "is_whole"=true) (k1:PySem.W.keepIn K (.ref f1)=true)
  (a2:PySem.W.nsIn K mainGlobals "greatest_divisor"=some (some (.ref f2))) (l2:K.lookup f2=some ⟨oc2,od2,.func (PySem.W.fnOf "greatest_divisor" "greatest_divisor" (Zo ZK) (Zn ZK) (Zi ZK) .none kV2 dc2 pm2 an2 cd2 ct2),sl2⟩) (c2:PySem.W.codeIn K cd2 "greatest_divisor"=true) (k2:PySem.W.keepIn K (.ref f2)=true)
  (a3:PySem.W.nsIn K mainGlobals "crossed"=some (some (.ref f3))) (l3:K.lookup f3=some ⟨oc3,od3,.func (PySem.W.fnOf "crossed" "crossed" (Zo Zbr) (Zn Zbr) (Zi Zbr) .none kV3 dc3 pm3 an3 cd3 ct3),sl3⟩) (c3:PySem.W.codeIn K cd3 "crossed"=true) (k3:PySem.W.keepIn K (.ref f3)=true)
  (a4:PySem.W.nsIn K mainGlobals "product"=some (some (.ref f4))) (l4:K.lookup f4=some ⟨oc4,od4,.func (PySem.W.fnOf "product" "product" (Zo Zbs) (Zn Zbs) (Zi Zbs) .none kV4 dc4 pm4 an4 cd4 ct4),sl4⟩) (c4:PySem.W.codeIn K cd4 "product"=true) (k4:PySem.W.keepIn K (.ref f4)=true)
  (a5:PySem.W.nsIn K mainGlobals "following"=some (some (.ref f5))) (l5:K.lookup f5=some ⟨oc5,od5,.func (PySem.W.fnOf "following" "following" (Zo ZaG) (Zn ZaG) (Zi ZaG) .none kV5 dc5 pm5 an5 cd5 ct5),sl5⟩) (c5:PySem.W.codeIn K cd5 "following"=true) (k5:PySem.W.keepIn K (.ref f5)=true)
  (a6:PySem.W.nsIn K mainGlobals "unspanned"=some (some (.ref f6))) (l6:K.lookup f6=some ⟨oc6,od6,.func (PySem.W.fnOf "unspanned" "unspanned" (Zo ZaH) (Zn ZaH) (Zi ZaH) .none kV6 dc6 pm6 an6 cd6 ct6),sl6⟩) (c6:PySem.W.codeIn K cd6 "unspanned"=true) (k6:PySem.W.keepIn K (.ref f6)=true)
  (a7:PySem.W.nsIn K mainGlobals "ask_smooth"=some (some (.ref f7))) (l7:K.lookup f7=some ⟨oc7,od7,.func (PySem.W.fnOf "ask_smooth" "ask_smooth" (Zo Zat) (Zn Zat) (Zi Zat) .none kV7 dc7 pm7 an7 cd7 ct7),sl7⟩) (c7:PySem.W.codeIn K cd7 "ask_smooth"=true) (k7:PySem.W.keepIn K (.ref f7)=true)
  (a8:PySem.W.nsIn K mainGlobals "numbers"=some (some (.ref f8))) (l8:K.lookup f8=some ⟨oc8,od8,.func (PySem.W.fnOf "numbers" "numbers" (Zo Zbc) (Zn Zbc) (Zi Zbc) .none kV8 dc8 pm8 an8 cd8 ct8),sl8⟩) (c8:PySem.W.codeIn K cd8 "numbers"=true) (k8:PySem.W.keepIn K (.ref f8)=true)
  (a9:PySem.W.nsIn K mainGlobals "ratio"=some (some (.ref f9))) (l9:K.lookup f9=some ⟨oc9,od9,.func (PySem.W.fnOf "ratio" "ratio" (Zo ZcP) (Zn ZcP) (Zi ZcP) .none kV9 dc9 pm9 an9 cd9 ct9),sl9⟩) (c9:PySem.W.codeIn K cd9 "ratio"=true) (k9:PySem.W.keepIn K (.ref f9)=true)
  (a10:PySem.W.nsIn K mainGlobals "plus"=some (some (.ref f10))) (l10:K.lookup f10=some ⟨oc10,od10,.func (PySem.W.fnOf "plus" "plus" (Zo Zd8) (Zn Zd8) (Zi Zd8) .none kV10 dc10 pm10 an10 cd10 ct10),sl10⟩) (c10:PySem.W.codeIn K cd10 "plus"=true) (k10:PySem.W.keepIn K (.ref f10)=true)
  (a11:PySem.W.nsIn K mainGlobals "minus"=some (some (.ref f11))) (l11:K.lookup f11=some ⟨oc11,od11,.func (PySem.W.fnOf "minus" "minus" (Zo ZcQ) (Zn ZcQ) (Zi ZcQ) .none kV11 dc11 pm11 an11 cd11 ct11),sl11⟩) (c11:PySem.W.codeIn K cd11 "minus"=true) (k11:PySem.W.keepIn K (.ref f11)=true)
  (a12:PySem.W.nsIn K mainGlobals "times"=some (some (.ref f12))) (l12:K.lookup f12=some ⟨oc12,od12,.func (PySem.W.fnOf "times" "times" (Zo ZcR) (Zn ZcR) (Zi ZcR) .none kV12 dc12 pm12 an12 cd12 ct12),sl12⟩) (c12:PySem.W.codeIn K cd12 "times"=true) (k12:PySem.W.keepIn K (.ref f12)=true)
  (a13:PySem.W.nsIn K mainGlobals "less"=some (some (.ref f13))) (l13:K.lookup f13=some ⟨oc13,od13,.func (PySem.W.fnOf "less" "less" (Zo Zd9) (Zn Zd9) (Zi Zd9) .none kV13 dc13 pm13 an13 cd13 ct13),sl13⟩) (c13:PySem.W.codeIn K cd13 "less"=true) (k13:PySem.W.keepIn K (.ref f13)=true)
  (a14:PySem.W.nsIn K mainGlobals "greatest"=some (some (.ref f14))) (l14:K.lookup f14=some ⟨oc14,od14,.func (PySem.W.fnOf "greatest" "greatest" (Zo ZaY) (Zn ZaY) (Zi ZaY) .none kV14 dc14 pm14 an14 cd14 ct14),sl14⟩) (c14:PySem.W.codeIn K cd14 "greatest"=true) (k14:PySem.W.keepIn K (.ref f14)=true)
  (a15:PySem.W.nsIn K mainGlobals "common_bottom"=some (some (.ref f15))) (l15:K.lookup f15=some ⟨oc15,od15,.func (PySem.W.fnOf "common_bottom" "common_bottom" (Zo ZV) (Zn ZV) (Zi ZV) .none kV15 dc15 pm15 an15 cd15 ct15),sl15⟩) (c15:PySem.W.codeIn K cd15 "common_bottom"=true) (k15:PySem.W.keepIn K (.ref f15)=true)
  (a16:PySem.W.nsIn K mainGlobals "stretched"=some (some (.ref f16))) (l16:K.lookup f16=some ⟨oc16,od16,.func (PySem.W.fnOf "stretched" "stretched" (Zo ZaI) (Zn ZaI) (Zi ZaI) .none kV16 dc16 pm16 an16 cd16 ct16),sl16⟩) (c16:PySem.W.codeIn K cd16 "stretched"=true) (k16:PySem.W.keepIn K (.ref f16)=true)
  (a17:PySem.W.nsIn K mainGlobals "ask_height"=some (some (.ref f17))) (l17:K.lookup f17=some ⟨oc17,od17,.func (PySem.W.fnOf "ask_height" "ask_height" (Zo Zau) (Zn Zau) (Zi Zau) .none kV17 dc17 pm17 an17 cd17 ct17),sl17⟩) (c17:PySem.W.codeIn K cd17 "ask_height"=true) (k17:PySem.W.keepIn K (.ref f17)=true)
  (a18:PySem.W.nsIn K mainGlobals "bends"=some (some (.ref f18))) (l18:K.lookup f18=some ⟨oc18,od18,.func (PySem.W.fnOf "bends" "bends" (Zo ZcS) (Zn ZcS) (Zi ZcS) .none kV18 dc18 pm18 an18 cd18 ct18),sl18⟩) (c18:PySem.W.codeIn K cd18 "bends"=true) (k18:PySem.W.keepIn K (.ref f18)=true)
  (a19:PySem.W.nsIn K mainGlobals "crossing"=some (some (.ref f19))) (l19:K.lookup f19=some ⟨oc19,od19,.func (PySem.W.fnOf "crossing" "crossing" (Zo ZaZ) (Zn ZaZ) (Zi ZaZ) .none kV19 dc19 pm19 an19 cd19 ct19),sl19⟩) (c19:PySem.W.codeIn K cd19 "crossing"=true) (k19:PySem.W.keepIn K (.ref f19)=true)
  (a20:PySem.W.nsIn K mainGlobals "sloped"=some (some (.ref f20))) (l20:K.lookup f20=some ⟨oc20,od20,.func (PySem.W.fnOf "sloped" "sloped" (Zo ZbY) (Zn ZbY) (Zi ZbY) .none kV20 dc20 pm20 an20 cd20 ct20),sl20⟩) (c20:PySem.W.codeIn K cd20 "sloped"=true) (k20:PySem.W.keepIn K (.ref f20)=true)
  (a21:PySem.W.nsIn K mainGlobals "slope_through"=some (some (.ref f21))) (l21:K.lookup f21=some ⟨oc21,od21,.func (PySem.W.fnOf "slope_through" "slope_through" (Zo ZW) (Zn ZW) (Zi ZW) .none kV21 dc21 pm21 an21 cd21 ct21),sl21⟩) (c21:PySem.W.codeIn K cd21 "slope_through"=true) (k21:PySem.W.keepIn K (.ref f21)=true)
  (a22:PySem.W.nsIn K mainGlobals "bends_inwards"=some (some (.ref f22))) (l22:K.lookup f22=some ⟨oc22,od22,.func (PySem.W.fnOf "bends_inwards" "bends_inwards" (Zo ZX) (Zn ZX) (Zi ZX) .none kV22 dc22 pm22 an22 cd22 ct22),sl22⟩) (c22:PySem.W.codeIn K cd22 "bends_inwards"=true) (k22:PySem.W.keepIn K (.ref f22)=true)
  (a23:PySem.W.nsIn K mainGlobals "contrary"=some (some (.ref f23))) (l23:K.lookup f23=some ⟨oc23,od23,.func (PySem.W.fnOf "contrary" "contrary" (Zo Za0) (Zn Za0) (Zi Za0) .none kV23 dc23 pm23 an23 cd23 ct23),sl23⟩) (c23:PySem.W.codeIn K cd23 "contrary"=true) (k23:PySem.W.keepIn K (.ref f23)=true)
  (a24:PySem.W.nsIn K mainGlobals "corners"=some (some (.ref f24))) (l24:K.lookup f24=some ⟨oc24,od24,.func (PySem.W.fnOf "corners" "corners" (Zo Zbt) (Zn Zbt) (Zi Zbt) .none kV24 dc24 pm24 an24 cd24 ct24),sl24⟩) (c24:PySem.W.codeIn K cd24 "corners"=true) (k24:PySem.W.keepIn K (.ref f24)=true)
  (a25:PySem.W.nsIn K mainGlobals "height_of"=some (some (.ref f25))) (l25:K.lookup f25=some ⟨oc25,od25,.func (PySem.W.fnOf "height_of" "height_of" (Zo Z6) (Zn Z6) (Zi Z6) .none kV25 dc25 pm25 an25 cd25 ct25),sl25⟩) (c25:PySem.W.codeIn K cd25 "height_of"=true) (k25:PySem.W.keepIn K (.ref f25)=true)
  (a26:PySem.W.nsIn K mainGlobals "edge"=some (some (.ref f26))) (l26:K.lookup f26=some ⟨oc26,od26,.func (PySem.W.fnOf "edge" "edge" (Zo ZdG) (Zn ZdG) (Zi ZdG) .none kV26 dc26 pm26 an26 cd26 ct26),sl26⟩) (c26:PySem.W.codeIn K cd26 "edge"=true) (k26:PySem.W.keepIn K (.ref f26)=true)
  (a27:PySem.W.nsIn K mainGlobals "in_order"=some (some (.ref f27))) (l27:K.lookup f27=some ⟨oc27,od27,.func (PySem.W.fnOf "in_order" "in_order" (Zo Za1) (Zn Za1) (Zi Za1) .none kV27 dc27 pm27 an27 cd27 ct27),sl27⟩) (c27:PySem.W.codeIn K cd27 "in_order"=true) (k27:PySem.W.keepIn K (.ref f27)=true)
  (a28:PySem.W.nsIn K mainGlobals "body"=some (some (.ref f28))) (l28:K.lookup f28=some ⟨oc28,od28,.func (PySem.W.fnOf "body" "body" (Zo Zea) (Zn Zea) (Zi Zea) .none kV28 dc28 pm28 an28 cd28 ct28),sl28⟩) (c28:PySem.W.codeIn K cd28 "body"=true) (k28:PySem.W.keepIn K (.ref f28)=true)
  (a29:PySem.W.nsIn K mainGlobals "width"=some (some (.ref f29))) (l29:K.lookup f29=some ⟨oc29,od29,.func (PySem.W.fnOf "width" "width" (Zo Zci) (Zn Zci) (Zi Zci) .none kV29 dc29 pm29 an29 cd29 ct29),sl29⟩) (c29:PySem.W.codeIn K cd29 "width"=true) (k29:PySem.W.keepIn K (.ref f29)=true)
  (a30:PySem.W.nsIn K mainGlobals "lessened"=some (some (.ref f30))) (l30:K.lookup f30=some ⟨oc30,od30,.func (PySem.W.fnOf "lessened" "lessened" (Zo Za2) (Zn Za2) (Zi Za2) .none kV30 dc30 pm30 an30 cd30 ct30),sl30⟩) (c30:PySem.W.codeIn K cd30 "lessened"=true) (k30:PySem.W.keepIn K (.ref f30)=true)
  (a31:PySem.W.nsIn K mainGlobals "least_wide"=some (some (.ref f31))) (l31:K.lookup f31=some ⟨oc31,od31,.func (PySem.W.fnOf "least_wide" "least_wide" (Zo Zav) (Zn Zav) (Zi Zav) .none kV31 dc31 pm31 an31 cd31 ct31),sl31⟩) (c31:PySem.W.codeIn K cd31 "least_wide"=true) (k31:PySem.W.keepIn K (.ref f31)=true)
  (a32:PySem.W.nsIn K mainGlobals "two_ways"=some (some (.ref f32))) (l32:K.lookup f32=some ⟨oc32,od32,.func (PySem.W.fnOf "two_ways" "two_ways" (Zo Za3) (Zn Za3) (Zi Za3) .none kV32 dc32 pm32 an32 cd32 ct32),sl32⟩) (c32:PySem.W.codeIn K cd32 "two_ways"=true) (k32:PySem.W.keepIn K (.ref f32)=true)
  (a33:PySem.W.nsIn K mainGlobals "dots_across"=some (some (.ref f33))) (l33:K.lookup f33=some ⟨oc33,od33,.func (PySem.W.fnOf "dots_across" "dots_across" (Zo Z1) (Zn Z1) (Zi Z1) .none kV33 dc33 pm33 an33 cd33 ct33),sl33⟩) (c33:PySem.W.codeIn K cd33 "dots_across"=true) (k33:PySem.W.keepIn K (.ref f33)=true)
  (a34:PySem.W.nsIn K mainGlobals "dots"=some (some (.ref f34))) (l34:K.lookup f34=some ⟨oc34,od34,.func (PySem.W.fnOf "dots" "dots" (Zo ZcZ) (Zn ZcZ) (Zi ZcZ) .none kV34 dc34 pm34 an34 cd34 ct34),sl34⟩) (c34:PySem.W.codeIn K cd34 "dots"=true) (k34:PySem.W.keepIn K (.ref f34)=true)
  (a35:PySem.W.nsIn K mainGlobals "dots_by_crossing"=some (some (.ref f35))) (l35:K.lookup f35=some ⟨oc35,od35,.func (PySem.W.fnOf "dots_by_crossing" "dots_by_crossing" (Zo ZL) (Zn ZL) (Zi ZL) .none kV35 dc35 pm35 an35 cd35 ct35),sl35⟩) (c35:PySem.W.codeIn K cd35 "dots_by_crossing"=true) (k35:PySem.W.keepIn K (.ref f35)=true)
  (a36:PySem.W.nsIn K mainGlobals "_law_purse"=some (some (.ref f36))) (l36:K.lookup f36=some ⟨oc36,od36,.func (PySem.W.fnOf "_law_purse" "_law_purse" (Zo ZaK) (Zn ZaK) (Zi ZaK) .none kV36 dc36 pm36 an36 cd36 ct36),sl36⟩) (c36:PySem.W.codeIn K cd36 "_law_purse"=true) (k36:PySem.W.keepIn K (.ref f36)=true)
  (a37:PySem.W.nsIn K mainGlobals "_law_take"=some (some (.ref f37))) (l37:K.lookup f37=some ⟨oc37,od37,.func (PySem.W.fnOf "_law_take" "_law_take" (Zo Za4) (Zn Za4) (Zi Za4) .none kV37 dc37 pm37 an37 cd37 ct37),sl37⟩) (c37:PySem.W.codeIn K cd37 "_law_take"=true) (k37:PySem.W.keepIn K (.ref f37)=true)
  (a38:PySem.W.nsIn K mainGlobals "_law_short_put"=some (some (.ref f38))) (l38:K.lookup f38=some ⟨oc38,od38,.func (PySem.W.fnOf "_law_short_put" "_law_short_put" (Zo ZY) (Zn ZY) (Zi ZY) .none kV38 dc38 pm38 an38 cd38 ct38),sl38⟩) (c38:PySem.W.codeIn K cd38 "_law_short_put"=true) (k38:PySem.W.keepIn K (.ref f38)=true)
  (a39:PySem.W.nsIn K mainGlobals "_law_base"=some (some (.ref f39))) (l39:K.lookup f39=some ⟨oc39,od39,.func (PySem.W.fnOf "_law_base" "_law_base" (Zo Za5) (Zn Za5) (Zi Za5) .none kV39 dc39 pm39 an39 cd39 ct39),sl39⟩) (c39:PySem.W.codeIn K cd39 "_law_base"=true) (k39:PySem.W.keepIn K (.ref f39)=true)
  (a40:PySem.W.nsIn K mainGlobals "_law_table"=some (some (.ref f40))) (l40:K.lookup f40=some ⟨oc40,od40,.func (PySem.W.fnOf "_law_table" "_law_table" (Zo ZaL) (Zn ZaL) (Zi ZaL) .none kV40 dc40 pm40 an40 cd40 ct40),sl40⟩) (c40:PySem.W.codeIn K cd40 "_law_table"=true) (k40:PySem.W.keepIn K (.ref f40)=true)
  (a41:PySem.W.nsIn K mainGlobals "_law_spun"=some (some (.ref f41))) (l41:K.lookup f41=some ⟨oc41,od41,.func (PySem.W.fnOf "_law_spun" "_law_spun" (Zo ZaM) (Zn ZaM) (Zi ZaM) .none kV41 dc41 pm41 an41 cd41 ct41),sl41⟩) (c41:PySem.W.codeIn K cd41 "_law_spun"=true) (k41:PySem.W.keepIn K (.ref f41)=true)
  (a42:PySem.W.nsIn K mainGlobals "_law_bends"=some (some (.ref f42))) (l42:K.lookup f42=some ⟨oc42,od42,.func (PySem.W.fnOf "_law_bends" "_law_bends" (Zo ZaN) (Zn ZaN) (Zi ZaN) .none kV42 dc42 pm42 an42 cd42 ct42),sl42⟩) (c42:PySem.W.codeIn K cd42 "_law_bends"=true) (k42:PySem.W.keepIn K (.ref f42)=true)
  (a43:PySem.W.nsIn K mainGlobals "_law_only"=some (some (.ref f43))) (l43:K.lookup f43=some ⟨oc43,od43,.func (PySem.W.fnOf "_law_only" "_law_only" (Zo ZaO) (Zn ZaO) (Zi ZaO) .none kV43 dc43 pm43 an43 cd43 ct43),sl43⟩) (c43:PySem.W.codeIn K cd43 "_law_only"=true) (k43:PySem.W.keepIn K (.ref f43)=true)
  (a44:PySem.W.nsIn K mainGlobals "_law_refused"=some (some (.ref f44))) (l44:K.lookup f44=some ⟨oc44,od44,.func (PySem.W.fnOf "_law_refused" "_law_refused" (Zo Z8) (Zn Z8) (Zi Z8) .none kV44 dc44 pm44 an44 cd44 ct44),sl44⟩) (c44:PySem.W.codeIn K cd44 "_law_refused"=true) (k44:PySem.W.keepIn K (.ref f44)=true)
  (a45:PySem.W.nsIn K mainGlobals "_law_all"=some (some (.ref f45))) (l45:K.lookup f45=some ⟨oc45,od45,.func (PySem.W.fnOf "_law_all" "_law_all" (Zo Zbv) (Zn Zbv) (Zi Zbv) .none kV45 dc45 pm45 an45 cd45 ct45),sl45⟩) (c45:PySem.W.codeIn K cd45 "_law_all"=true) (k45:PySem.W.keepIn K (.ref f45)=true)
  (a46:PySem.W.nsIn K mainGlobals "law"=some (some (.ref f46))) (l46:K.lookup f46=some ⟨oc46,od46,.func (PySem.W.fnOf "law" "law" (Zo ZeE) (Zn ZeE) (Zi ZeE) .none kV46 dc46 pm46 an46 cd46 ct46),sl46⟩) (c46:PySem.W.codeIn K cd46 "law"=true) (k46:PySem.W.keepIn K (.ref f46)=true)
  (z_isinstance:PySem.W.nsIn K mainGlobals "isinstance"=some none)
  (z_int:PySem.W.nsIn K mainGlobals "int"=some none)
  (z_bool:PySem.W.nsIn K mainGlobals "bool"=some none)
  (z_abs:PySem.W.nsIn K mainGlobals "abs"=some none)
  (z_len:PySem.W.nsIn K mainGlobals "len"=some none)
  (z_enumerate:PySem.W.nsIn K mainGlobals "enumerate"=some none)
  (z_range:PySem.W.nsIn K mainGlobals "range"=some none)
  (z_zip:PySem.W.nsIn K mainGlobals "zip"=some none)
  (z_any:PySem.W.nsIn K mainGlobals "any"=some none)
  (z_list:PySem.W.nsIn K mainGlobals "list"=some none)
  (z_max:PySem.W.nsIn K mainGlobals "max"=some none)
  (z_min:PySem.W.nsIn K mainGlobals "min"=some none)
  (z_reversed:PySem.W.nsIn K mainGlobals "reversed"=some none)
  (z_ValueError:PySem.W.nsIn K mainGlobals "ValueError"=some none)
  (q_ex_NotSmooth:ZfS K "NotSmooth"=true)
  (q_ex_NoRatio:ZfS K "NoRatio"=true)
  (q_ex_NoHeight:ZfS K "NoHeight"=true)
  (q_ex_NoBend:ZfS K "NoBend"=true)
  (q_it_NoBend:Zah K "NoBend" [(PySem.Str.ofString "NotSmooth",false),(PySem.Str.ofString "NoRatio",false),(PySem.Str.ofString "NoHeight",false),(PySem.Str.ofString "NoBend",true)]=true)
  (q_it_NoBody:Zah K "NoBody" [(PySem.Str.ofString "NotSmooth",false),(PySem.Str.ofString "NoRatio",false),(PySem.Str.ofString "NoHeight",false),(PySem.Str.ofString "NoBend",false)]=true)
  (q_it_NoFour:Zah K "NoFour" [(PySem.Str.ofString "NotSmooth",false),(PySem.Str.ofString "NoRatio",false),(PySem.Str.ofString "NoHeight",false),(PySem.Str.ofString "NoBend",false)]=true)
  (q_it_NoHeight:Zah K "NoHeight" [(PySem.Str.ofString "NotSmooth",false),(PySem.Str.ofString "NoRatio",false),(PySem.Str.ofString "NoHeight",true),(PySem.Str.ofString "NoBend",false)]=true)
  (q_it_NoMinus:Zah K "NoMinus" [(PySem.Str.ofString "NotSmooth",false),(PySem.Str.ofString "NoRatio",false),(PySem.Str.ofString "NoHeight",false),(PySem.Str.ofString "NoBend",false)]=true)
  (q_it_NoOne:Zah K "NoOne" [(PySem.Str.ofString "NotSmooth",false),(PySem.Str.ofString "NoRatio",false),(PySem.Str.ofString "NoHeight",false),(PySem.Str.ofString "NoBend",false)]=true)
  (q_it_NoPlace:Zah K "NoPlace" [(PySem.Str.ofString "NotSmooth",false),(PySem.Str.ofString "NoRatio",false),(PySem.Str.ofString "NoHeight",false),(PySem.Str.ofString "NoBend",false)]=true)
  (q_it_NoRatio:Zah K "NoRatio" [(PySem.Str.ofString "NotSmooth",false),(PySem.Str.ofString "NoRatio",true),(PySem.Str.ofString "NoHeight",false),(PySem.Str.ofString "NoBend",false)]=true)
  (q_it_NoRound:Zah K "NoRound" [(PySem.Str.ofString "NotSmooth",false),(PySem.Str.ofString "NoRatio",false),(PySem.Str.ofString "NoHeight",false),(PySem.Str.ofString "NoBend",false)]=true)
  (q_it_NoRow:Zah K "NoRow" [(PySem.Str.ofString "NotSmooth",false),(PySem.Str.ofString "NoRatio",false),(PySem.Str.ofString "NoHeight",false),(PySem.Str.ofString "NoBend",false)]=true)
  (q_it_NoText:Zah K "NoText" [(PySem.Str.ofString "NotSmooth",false),(PySem.Str.ofString "NoRatio",false),(PySem.Str.ofString "NoHeight",false),(PySem.Str.ofString "NoBend",false)]=true)
  (q_it_NotSmooth:Zah K "NotSmooth" [(PySem.Str.ofString "NotSmooth",true),(PySem.Str.ofString "NoRatio",false),(PySem.Str.ofString "NoHeight",false),(PySem.Str.ofString "NoBend",false)]=true)
  (q_it_NoTurning:Zah K "NoTurning" [(PySem.Str.ofString "NotSmooth",false),(PySem.Str.ofString "NoRatio",false),(PySem.Str.ofString "NoHeight",false),(PySem.Str.ofString "NoBend",false)]=true)
  (q_it_NoWedge:Zah K "NoWedge" [(PySem.Str.ofString "NotSmooth",false),(PySem.Str.ofString "NoRatio",false),(PySem.Str.ofString "NoHeight",false),(PySem.Str.ofString "NoBend",false)]=true)
  (q_it_Unknown:Zah K "Unknown" [(PySem.Str.ofString "NotSmooth",false),(PySem.Str.ofString "NoRatio",false),(PySem.Str.ofString "NoHeight",false),(PySem.Str.ofString "NoBend",false)]=true)
  (q_ib_ValueError:Zip K "ValueError" [(PySem.Str.ofString "NotSmooth",true),(PySem.Str.ofString "NoRatio",true),(PySem.Str.ofString "NoHeight",true),(PySem.Str.ofString "NoBend",true)]=true)
  (q_ct_RayError:ZgK K "RayError" [PySem.Str.ofString "NotSmooth",PySem.Str.ofString "NoRatio",PySem.Str.ofString "NoHeight",PySem.Str.ofString "NoBend"]=true)
  : ∃ fd:FuncData,(∀ (s:Shared) (v:Value),BindsTo s fd ⟨[v],[]⟩ [("_law_script",v)])/\ ∀ base:Heap,K.In base->base.Ns mainGlobals mg->FnOk l.prog w K mg base (CXE l.prog w) 110 fa fd ["_law_script"] (spD K Zgq):=by
 have e:=hfa.symm.trans (PySem.W.mg_of X G a46)
 cases e
 have T:Txt K mg:=⟨fun c v e=>PySem.W.mg_of X G e,PySem.W.mg_none_of X G z_isinstance,PySem.W.mg_none_of X G z_int,PySem.W.mg_none_of X G z_bool,PySem.W.mg_none_of X G z_abs,PySem.W.mg_none_of X G z_len,PySem.W.mg_none_of X G z_enumerate,PySem.W.mg_none_of X G z_range,PySem.W.mg_none_of X G z_zip,PySem.W.mg_none_of X G z_any,PySem.W.mg_none_of X G z_list,PySem.W.mg_none_of X G z_max,PySem.W.mg_none_of X G z_min,PySem.W.mg_none_of X G z_reversed,PySem.W.mg_none_of X G z_ValueError,q_ex_NotSmooth,q_ex_NoRatio,q_ex_NoHeight,q_ex_NoBend,q_it_NoBend,q_it_NoBody,q_it_NoFour,q_it_NoHeight,q_it_NoMinus,q_it_NoOne,q_it_NoPlace,q_it_NoRatio,q_it_NoRound,q_it_NoRow,q_it_NoText,q_it_NotSmooth,q_it_NoTurning,q_it_NoWedge,q_it_Unknown,q_ib_ValueError,q_ct_RayError,⟨_,a24⟩,⟨_,a35⟩,⟨_,a34⟩,⟨_,a25⟩⟩
 have R1:=ZA (st:=ZaX) l1 c1 k1
 have R2:=ZA (st:=ZK) l2 c2 k2
 have R3:=ZA (st:=Zbr) l3 c3 k3
 have R4:=ZA (st:=Zbs) l4 c4 k4
 have R5:=ZA (st:=ZaG) l5 c5 k5
 have R6:=ZA (st:=ZaH) l6 c6 k6
 have R7:=ZA (st:=Zat) l7 c7 k7
 have R8:=ZA (st:=Zbc) l8 c8 k8
 have R9:=ZA (st:=ZcP) l9 c9 k9
 have R10:=ZA (st:=Zd8) l10 c10 k10
 have R11:=ZA (st:=ZcQ) l11 c11 k11
 have R12:=ZA (st:=ZcR) l12 c12 k12
 have R13:=ZA (st:=Zd9) l13 c13 k13
 have R14:=ZA (st:=ZaY) l14 c14 k14
 have R15:=ZA (st:=ZV) l15 c15 k15
 have R16:=ZA (st:=ZaI) l16 c16 k16
 have R17:=ZA (st:=Zau) l17 c17 k17
 have R18:=ZA (st:=ZcS) l18 c18 k18
 have R19:=ZA (st:=ZaZ) l19 c19 k19
 have R20:=ZA (st:=ZbY) l20 c20 k20
 have R21:=ZA (st:=ZW) l21 c21 k21
 have R22:=ZA (st:=ZX) l22 c22 k22
 have R23:=ZA (st:=Za0) l23 c23 k23
 have R24:=ZA (st:=Zbt) l24 c24 k24
 have R25:=ZA (st:=Z6) l25 c25 k25
 have R26:=ZA (st:=ZdG) l26 c26 k26
 have R27:=ZA (st:=Za1) l27 c27 k27
 have R28:=ZA (st:=Zea) l28 c28 k28
 have R29:=ZA (st:=Zci) l29 c29 k29
 have R30:=ZA (st:=Za2) l30 c30 k30
 have R31:=ZA (st:=Zav) l31 c31 k31
 have R32:=ZA (st:=Za3) l32 c32 k32
 have R33:=ZA (st:=Z1) l33 c33 k33
 have R34:=ZA (st:=ZcZ) l34 c34 k34
 have R35:=ZA (st:=ZL) l35 c35 k35
 have R36:=ZA (st:=ZaK) l36 c36 k36
 have R37:=ZA (st:=Za4) l37 c37 k37
 have R38:=ZA (st:=ZY) l38 c38 k38
 have R39:=ZA (st:=Za5) l39 c39 k39
 have R40:=ZA (st:=ZaL) l40 c40 k40
 have R41:=ZA (st:=ZaM) l41 c41 k41
 have R42:=ZA (st:=ZaN) l42 c42 k42
 have R43:=ZA (st:=ZaO) l43 c43 k43
 have R44:=ZA (st:=Z8) l44 c44 k44
 have R45:=ZA (st:=Zbv) l45 c45 k45
 have R46:=ZA (st:=ZeE) l46 c46 k46
 refine ⟨PySem.W.fnOf "law" "law" (Zo ZeE) (Zn ZeE) (Zi ZeE) .none kV46 dc46 pm46 an46 cd46 ct46,fun s v=> .of_eq rfl,fun base _ _=> ?_⟩
 have C1:Cal l.prog w K mg base "is_whole" 1 1 F_is_whole:=⟨f1,_,["thing"],Zga R1 T,PySem.W.mg_of X G a1,k1,rfl,R1.binds (ps:=["thing"]) fun _ _ _ _ _ _=>Zjo fun _=>rfl⟩
 have C2:Cal l.prog w K mg base "greatest_divisor" 101 2 F_greatest_divisor:=⟨f2,_,["one","other"],Zch R2 T,PySem.W.mg_of X G a2,k2,rfl,R2.binds (ps:=["one","other"]) fun _ _ _ _ _ _=>ZcT fun _ _=>rfl⟩
 have C3:Cal l.prog w K mg base "crossed" 1 2 F_crossed:=⟨f3,_,["one","other"],Zhj R3 T,PySem.W.mg_of X G a3,k3,rfl,R3.binds (ps:=["one","other"]) fun _ _ _ _ _ _=>ZcT fun _ _=>rfl⟩
 have C4:Cal l.prog w K mg base "product" 1 2 F_product:=⟨f4,_,["one","other"],Zhl R4 T,PySem.W.mg_of X G a4,k4,rfl,R4.binds (ps:=["one","other"]) fun _ _ _ _ _ _=>ZcT fun _ _=>rfl⟩
 have C5:Cal l.prog w K mg base "following" 1 2 F_following:=⟨f5,_,["things","at"],Zfq R5 T,PySem.W.mg_of X G a5,k5,rfl,R5.binds (ps:=["things","at"]) fun _ _ _ _ _ _=>ZcT fun _ _=>rfl⟩
 have C6:Cal l.prog w K mg base "unspanned" 101 1 F_unspanned:=⟨f6,_,["rays"],Zfr R6 T C5 C3,PySem.W.mg_of X G a6,k6,rfl,R6.binds (ps:=["rays"]) fun _ _ _ _ _ _=>Zjo fun _=>rfl⟩
 have C7:Cal l.prog w K mg base "ask_smooth" 102 1 F_ask_smooth:=⟨f7,_,["rays"],Zex R7 T C6,PySem.W.mg_of X G a7,k7,rfl,R7.binds (ps:=["rays"]) fun _ _ _ _ _ _=>Zjo fun _=>rfl⟩
 have C8:Cal l.prog w K mg base "numbers" 103 1 F_numbers:=⟨f8,_,["rays"],Zhn R8 T C7 C5 C3,PySem.W.mg_of X G a8,k8,rfl,R8.binds (ps:=["rays"]) fun _ _ _ _ _ _=>Zjo fun _=>rfl⟩
 have C9:Cal l.prog w K mg base "ratio" 102 2 F_ratio:=⟨f9,_,["top","bottom"],Zkx R9 T C1 C2,PySem.W.mg_of X G a9,k9,rfl,R9.binds (ps:=["top","bottom"]) fun _ _ _ _ _ _=>ZcT fun _ _=>rfl⟩
 have C10:Cal l.prog w K mg base "plus" 103 2 F_plus:=⟨f10,_,["one","other"],Znc R10 T C9,PySem.W.mg_of X G a10,k10,rfl,R10.binds (ps:=["one","other"]) fun _ _ _ _ _ _=>ZcT fun _ _=>rfl⟩
 have C11:Cal l.prog w K mg base "minus" 103 2 F_minus:=⟨f11,_,["one","other"],Zkz R11 T C9,PySem.W.mg_of X G a11,k11,rfl,R11.binds (ps:=["one","other"]) fun _ _ _ _ _ _=>ZcT fun _ _=>rfl⟩
 have C12:Cal l.prog w K mg base "times" 103 2 F_times:=⟨f12,_,["one","other"],ZkB R12 T C9,PySem.W.mg_of X G a12,k12,rfl,R12.binds (ps:=["one","other"]) fun _ _ _ _ _ _=>ZcT fun _ _=>rfl⟩
 have C13:Cal l.prog w K mg base "less" 1 2 F_less:=⟨f13,_,["one","other"],Zne R13 T,PySem.W.mg_of X G a13,k13,rfl,R13.binds (ps:=["one","other"]) fun _ _ _ _ _ _=>ZcT fun _ _=>rfl⟩
 have C14:Cal l.prog w K mg base "greatest" 2 1 F_greatest:=⟨f14,_,["ones"],Zgb R14 T C13,PySem.W.mg_of X G a14,k14,rfl,R14.binds (ps:=["ones"]) fun _ _ _ _ _ _=>Zjo fun _=>rfl⟩
 have C15:Cal l.prog w K mg base "common_bottom" 102 1 F_common_bottom:=⟨f15,_,["ones"],Zc5 R15 T C2,PySem.W.mg_of X G a15,k15,rfl,R15.binds (ps:=["ones"]) fun _ _ _ _ _ _=>Zjo fun _=>rfl⟩
 have C16:Cal l.prog w K mg base "stretched" 1 2 F_stretched:=⟨f16,_,["one","bottom"],Zft R16 T,PySem.W.mg_of X G a16,k16,rfl,R16.binds (ps:=["one","bottom"]) fun _ _ _ _ _ _=>ZcT fun _ _=>rfl⟩
 have C17:Cal l.prog w K mg base "ask_height" 101 2 F_ask_height:=⟨f17,_,["rays","height"],ZeA R17 T,PySem.W.mg_of X G a17,k17,rfl,R17.binds (ps:=["rays","height"]) fun _ _ _ _ _ _=>ZcT fun _ _=>rfl⟩
 have C18:Cal l.prog w K mg base "bends" 104 2 F_bends:=⟨f18,_,["rays","height"],ZkC R18 T C8 C17 C5 C10 C12,PySem.W.mg_of X G a18,k18,rfl,R18.binds (ps:=["rays","height"]) fun _ _ _ _ _ _=>ZcT fun _ _=>rfl⟩
 have C19:Cal l.prog w K mg base "crossing" 105 3 F_crossing:=⟨f19,_,["rays","one","other"],Zgd R19 T C18 C17 C12 C10,PySem.W.mg_of X G a19,k19,rfl,R19.binds (ps:=["rays","one","other"]) fun _ _ _ _ _ _=>Zns fun _ _ _=>rfl⟩
 have C20:Cal l.prog w K mg base "sloped" 104 2 F_sloped:=⟨f20,_,["m","ray"],Zjb R20 T C12 C10,PySem.W.mg_of X G a20,k20,rfl,R20.binds (ps:=["m","ray"]) fun _ _ _ _ _ _=>ZcT fun _ _=>rfl⟩
 have C21:Cal l.prog w K mg base "slope_through" 104 2 F_slope_through:=⟨f21,_,["rays","height"],Zc6 R21 T C12 C11,PySem.W.mg_of X G a21,k21,rfl,R21.binds (ps:=["rays","height"]) fun _ _ _ _ _ _=>ZcT fun _ _=>rfl⟩
 have C22:Cal l.prog w K mg base "bends_inwards" 105 2 F_bends_inwards:=⟨f22,_,["rays","height"],Zc8 R22 T C18 C13,PySem.W.mg_of X G a22,k22,rfl,R22.binds (ps:=["rays","height"]) fun _ _ _ _ _ _=>ZcT fun _ _=>rfl⟩
 have C23:Cal l.prog w K mg base "contrary" 104 1 F_contrary:=⟨f23,_,["one"],Zgf R23 T C11,PySem.W.mg_of X G a23,k23,rfl,R23.binds (ps:=["one"]) fun _ _ _ _ _ _=>Zjo fun _=>rfl⟩
 have C24:Cal l.prog w K mg base "corners" 106 2 F_corners:=⟨f24,_,["rays","height"],Zho R24 T C22 C5 C23 C21,PySem.W.mg_of X G a24,k24,rfl,R24.binds (ps:=["rays","height"]) fun _ _ _ _ _ _=>ZcT fun _ _=>rfl⟩
 have C25:Cal l.prog w K mg base "height_of" 105 2 F_height_of:=⟨f25,_,["rays","points"],Zfv R25 T C7 C20 C23 C14,PySem.W.mg_of X G a25,k25,rfl,R25.binds (ps:=["rays","points"]) fun _ _ _ _ _ _=>ZcT fun _ _=>rfl⟩
 have C26:Cal l.prog w K mg base "edge" 105 3 F_edge:=⟨f26,_,["rays","height","at"],Znf R26 T C5 C3 C13 C9 C21,PySem.W.mg_of X G a26,k26,rfl,R26.binds (ps:=["rays","height","at"]) fun _ _ _ _ _ _=>Zns fun _ _ _=>rfl⟩
 have C27:Cal l.prog w K mg base "in_order" 1 1 F_in_order:=⟨f27,_,["points"],Zgh R27 T,PySem.W.mg_of X G a27,k27,rfl,R27.binds (ps:=["points"]) fun _ _ _ _ _ _=>Zjo fun _=>rfl⟩
 have C28:Cal l.prog w K mg base "body" 106 2 F_body:=⟨f28,_,["rays","height"],Zng R28 T C7 C17 C26 C27,PySem.W.mg_of X G a28,k28,rfl,R28.binds (ps:=["rays","height"]) fun _ _ _ _ _ _=>ZcT fun _ _=>rfl⟩
 have C29:Cal l.prog w K mg base "width" 101 2 F_width:=⟨f29,_,["points","ray"],ZkD R29 T C4,PySem.W.mg_of X G a29,k29,rfl,R29.binds (ps:=["points","ray"]) fun _ _ _ _ _ _=>ZcT fun _ _=>rfl⟩
 have C30:Cal l.prog w K mg base "lessened" 1 3 F_lessened:=⟨f30,_,["wide","many","narrow"],Zgk R30 T,PySem.W.mg_of X G a30,k30,rfl,R30.binds (ps:=["wide","many","narrow"]) fun _ _ _ _ _ _=>Zns fun _ _ _=>rfl⟩
 have C31:Cal l.prog w K mg base "least_wide" 102 3 F_least_wide:=⟨f31,_,["points","wide","narrow"],ZeB R31 T C29 C30,PySem.W.mg_of X G a31,k31,rfl,R31.binds (ps:=["points","wide","narrow"]) fun _ _ _ _ _ _=>Zns fun _ _ _=>rfl⟩
 have C32:Cal l.prog w K mg base "two_ways" 103 1 F_two_ways:=⟨f32,_,["points"],Zgl R32 T C29 C31 C3,PySem.W.mg_of X G a32,k32,rfl,R32.binds (ps:=["points"]) fun _ _ _ _ _ _=>Zjo fun _=>rfl⟩
 have C33:Cal l.prog w K mg base "dots_across" 101 4 F_dots_across:=⟨f33,_,["rays","height","ways","given"],ZdP R33 T C3,PySem.W.mg_of X G a33,k33,rfl,R33.binds (ps:=["rays","height","ways","given"]) fun _ _ _ _ _ _=>Ztt fun _ _ _ _=>rfl⟩
 have C34:Cal l.prog w K mg base "dots" 107 2 F_dots:=⟨f34,_,["rays","height"],Zni R34 T C28 C16 C32 C4 C33,PySem.W.mg_of X G a34,k34,rfl,R34.binds (ps:=["rays","height"]) fun _ _ _ _ _ _=>ZcT fun _ _=>rfl⟩
 have C35:Cal l.prog w K mg base "dots_by_crossing" 106 2 F_dots_by_crossing:=⟨f35,_,["rays","height"],Zck R35 T C22 C15 C19 C10,PySem.W.mg_of X G a35,k35,rfl,R35.binds (ps:=["rays","height"]) fun _ _ _ _ _ _=>ZcT fun _ _=>rfl⟩
 have C36:Cal l.prog w K mg base "_law_purse" 1 2 F_law_purse:=⟨f36,_,["_law_script","_law_k"],Zfx R36 T,PySem.W.mg_of X G a36,k36,rfl,R36.binds (ps:=["_law_script","_law_k"]) fun _ _ _ _ _ _=>ZcT fun _ _=>rfl⟩
 have C37:Cal l.prog w K mg base "_law_take" 1 2 F_law_take:=⟨f37,_,["_law_purse_here","_law_many"],Zgm R37 T,PySem.W.mg_of X G a37,k37,rfl,R37.binds (ps:=["_law_purse_here","_law_many"]) fun _ _ _ _ _ _=>ZcT fun _ _=>rfl⟩
 have C38:Cal l.prog w K mg base "_law_short_put" 1 2 F_law_short_put:=⟨f38,_,["_law_rays","_law_at"],Zda R38 T,PySem.W.mg_of X G a38,k38,rfl,R38.binds (ps:=["_law_rays","_law_at"]) fun _ _ _ _ _ _=>ZcT fun _ _=>rfl⟩
 have C39:Cal l.prog w K mg base "_law_base" 101 2 F_law_base:=⟨f39,_,["_law_purse_here","_law_most"],Zgn R39 T C37 C38,PySem.W.mg_of X G a39,k39,rfl,R39.binds (ps:=["_law_purse_here","_law_most"]) fun _ _ _ _ _ _=>ZcT fun _ _=>rfl⟩
 have C40:Cal l.prog w K mg base "_law_table" 101 1 F_law_table:=⟨f40,_,["_law_purse_here"],Zfy R40 T C37,PySem.W.mg_of X G a40,k40,rfl,R40.binds (ps:=["_law_purse_here"]) fun _ _ _ _ _ _=>Zjo fun _=>rfl⟩
 have C41:Cal l.prog w K mg base "_law_spun" 101 4 F_law_spun:=⟨f41,_,["_law_table_here","_law_rays","_law_some","_law_at"],Zgo R41 T,PySem.W.mg_of X G a41,k41,rfl,R41.binds (ps:=["_law_table_here","_law_rays","_law_some","_law_at"]) fun _ _ _ _ _ _=>Ztt fun _ _ _ _=>rfl⟩
 have C42:Cal l.prog w K mg base "_law_bends" 101 2 F_law_bends:=⟨f42,_,["_law_rays","_law_heights"],Zfz R42 T,PySem.W.mg_of X G a42,k42,rfl,R42.binds (ps:=["_law_rays","_law_heights"]) fun _ _ _ _ _ _=>ZcT fun _ _=>rfl⟩
 have C43:Cal l.prog w K mg base "_law_only" 1 2 F_law_only:=⟨f43,_,["_law_e","_law_kind"],Zgp R43 T,PySem.W.mg_of X G a43,k43,rfl,R43.binds (ps:=["_law_e","_law_kind"]) fun _ _ _ _ _ _=>ZcT fun _ _=>rfl⟩
 have C44:Cal l.prog w K mg base "_law_refused" 108 3 F_law_refused:=⟨f44,_,["_law_kind","_law_make","_law_parts"],ZdQ R44 T C25 C24 C35 C34 C43,PySem.W.mg_of X G a44,k44,rfl,R44.binds (ps:=["_law_kind","_law_make","_law_parts"]) fun _ _ _ _ _ _=>Zns fun _ _ _=>rfl⟩
 have C45:Cal l.prog w K mg base "_law_all" 109 3 F_law_all:=⟨f45,_,["_law_kind","_law_rays","_law_height"],Zhs R45 T C44,PySem.W.mg_of X G a45,k45,rfl,R45.binds (ps:=["_law_kind","_law_rays","_law_height"]) fun _ _ _ _ _ _=>Zns fun _ _ _=>rfl⟩
 exact Zqc R46 T C36 C40 C37 C41 C45 C44 C39 C42
end K51
end
section
namespace K51
open PySem PySem.Spec L2 DL
open CR (rt Sz)
open CH (rts ZF)
open CF (Rgh ZgU)
open CN CU CV CD CO
open CB (ZiX ZaB)
noncomputable abbrev NoH:Str:=PySem.Str.ofString "NoHeight"
noncomputable abbrev NoB:Str:=PySem.Str.ofString "NoBend"
noncomputable abbrev NoR:Str:=PySem.Str.ofString "NoRatio"
section
variable {Q:D->Sto->Prop} {E:Str->Sto->Prop} {M M':Sto} {k n m o d:Nat} {rs:List Pt} {xs ys hs:List Rat} {N B C:Ro->Sto->Prop} {R:D->Sto->Prop}
noncomputable def Ref (c:Str) (F:List D->Sto->Out D) (ds:List D) (M:Sto):Prop:= ∀ (Q:D->Sto->Prop) (E:Str->Sto->Prop),(∀ M',Kp M M'->E c M')->wO (F ds M) Q E
noncomputable def ZuS (F:List D->Sto->Out D) (ds:List D) (M:Sto):Prop:= ∀ (Q:D->Sto->Prop) (E:Str->Sto->Prop),(∀ d M',Kp M M'->Q d M')->wO (F ds M) Q E
theorem l1:(PySem.Str.ofString "a height of ").length<=1000:=by rw[PySem.ofString_length];exact (by decide:(12:Nat)<=1000)
theorem l2:(PySem.Str.ofString " rays has not ").length<=1000:=by rw[PySem.ofString_length];exact (by decide:(14:Nat)<=1000)
theorem l3:(PySem.Str.ofString " ratios").length<=1000:=by rw[PySem.ofString_length];exact (by decide:(7:Nat)<=1000)
theorem Zc0 (h:M[n]?=some (.lst (prs rs))) (h':M[m]?=some (.lst (rts hs))) (ne:hs.length≠rs.length) (hl:rs.length<=1000) (hl':hs.length<=1000) (q:E NoH M):wO (CS.F_ask_height [.ref n,.ref m] M) Q E:=by
 simp![CS.F_ask_height,CS.Zbg,h,h',ZF]
 refine ZsK ?_ ?_
 ·refine Zpw l1 (by omega) ?_
  refine ZrA (i:=rs.length) (by simp[Zk,Zc,aNil,Zh,bLen,ZfQ,Out.bind,h,prs]) (by omega) (by omega) ?_
  refine Zpw l2 (by omega) ?_
  refine ZrA (i:=hs.length) (by simp[Zk,Zc,aNil,Zh,bLen,ZfQ,Out.bind,h',ZF]) (by omega) (by omega) ?_
  refine Zpw l3 (by omega) ?_
  exact Zlc (by omega)
 intro x
 simp![Zu]
 exact q
theorem Znj {d:D} (h:M[n]?=some (.lst (prs rs))) (hr:Rgh rs) (hb:Nr 200 rs) (hl:rs.length<=14):Ref ZgU F_bends [.ref n,d] M:=by
 intro Q E q
 simp![F_bends,ZdE]
 refine CF.ZiW h hr (fun p hp=>by have:=hb p hp;omega) (by omega) ?_
 exact q M Kp.refl
theorem Znk (h:M[n]?=some (.lst (prs rs))) (hs':Smo rs) (hb:Nr 200 rs) (hl:rs.length<=14) (h':M[m]?=some (.lst (rts hs))) (ne:hs.length≠rs.length) (hl':hs.length<=1000):Ref NoH F_bends [.ref n,.ref m] M:=by
 intro Q E q
 simp![F_bends,ZdE]
 refine CE.Zfm h hs' (by omega) (fun p hp=>by have:=hb p hp;omega) ?_
 have K:Kp M (M ++ [SO.lst (nts (Zcc rs))]):=Kp.app
 simp![Zu]
 refine Zc0 (K.get h) (K.get h') ne (by omega) hl' ?_
 exact q _ K
noncomputable def nmL:List Str:=[PySem.Str.ofString "bend",PySem.Str.ofString "body",PySem.Str.ofString "four",PySem.Str.ofString "height",PySem.Str.ofString "minus",PySem.Str.ofString "one",PySem.Str.ofString "place",PySem.Str.ofString "ratio",PySem.Str.ofString "round",PySem.Str.ofString "row",PySem.Str.ofString "text",PySem.Str.ofString "smooth",PySem.Str.ofString "turning",PySem.Str.ofString "wedge",PySem.Str.ofString "unknown"]
noncomputable def nm (i:Nat):Str:=nmL.getD i (PySem.Str.ofString "")
noncomputable def ps (j:Nat):List D:=(List.range 15).map fun i=> .tup [.str (nm i),.bl (decide (i=j))]
theorem isE {b:Bool} {c:Str} {tab:List (Str × Bool)} {ρ:Ro} (hl:tab.lookup c=some b) (h:ρ[0]?=some (some (.err c []))):ZcF tab (Zh 0) ρ M= .ok (.bl b) M:=by
 simp[ZcF,Zh,h,Out.bind,hl]
theorem lkS (a b c d:Bool):List.lookup ZgU [(PySem.Str.ofString "NotSmooth",a),(PySem.Str.ofString "NoRatio",b),(PySem.Str.ofString "NoHeight",c),(PySem.Str.ofString "NoBend",d)]=some a:=by cases a<;>rfl
theorem lkH (a b c d:Bool):List.lookup NoH [(PySem.Str.ofString "NotSmooth",a),(PySem.Str.ofString "NoRatio",b),(PySem.Str.ofString "NoHeight",c),(PySem.Str.ofString "NoBend",d)]=some c:=by cases c<;>rfl
theorem lkB (a b c d:Bool):List.lookup NoB [(PySem.Str.ofString "NotSmooth",a),(PySem.Str.ofString "NoRatio",b),(PySem.Str.ofString "NoHeight",c),(PySem.Str.ofString "NoBend",d)]=some d:=by cases d<;>rfl
theorem Zsw {kfs:List (Str × Ev)} {ρ:Ro} {ds:List D} (h:Zmq kfs ρ (M ++ [.lst []])= .ok ds (M ++ [.lst []])) (q:Q (.dk M.length) (M ++ [.lst ds])):wO (ZoC kfs ρ M) Q E:=by
 have e1:(M ++ [SO.lst []])[M.length]?=some (.lst []):=by simp
 have e2:(M ++ [SO.lst []]).set M.length (.lst ds)=M ++ [.lst ds]:=by simp
 have e:ZoC kfs ρ M= .ok (.dk M.length) (M ++ [.lst ds]):=by
  unfold ZoC
  simp only[h,Out.bind,e1,e2]
 rw[e]
 exact q
theorem Znl {i:Nat} {ρ:Ro} {r:List D} {QS:Src->Sto->Prop} (h:ρ[i]?=some (some (.dk d))) (hm:M[d]?=some (.lst r)) (hn:nfz r=true) (q:QS (.dct d) (M.set d (.lst (.non :: r)))):wO (ZoD (Zh i) ρ M) QS E:=by
 have e:ZoD (Zh i) ρ M= .ok (.dct d) (M.set d (.lst (.non :: r))):=by
  unfold ZoD Zh
  simp only[h,Out.bind,hm,hn,if_true]
 rw[e]
 exact q
theorem dv {j:Nat}: ∀ i,i < 15->ZiC kK (.inr (nm i)) (.non :: ps j)=some (.bl (decide (i=j))):=by
 intro i hi
 have:i=0\/i=1\/i=2\/i=3\/i=4\/i=5\/i=6\/i=7\/i=8\/i=9\/i=10\/i=11\/i=12\/i=13\/i=14:=by omega
 rcases this with rfl | rfl | rfl | rfl | rfl | rfl | rfl | rfl | rfl | rfl | rfl | rfl | rfl | rfl | rfl<;>rfl
theorem ZuP {i j:Nat} (h:M[d]?=some (.lst (.non :: ps j))) (hi:i < 15):wO (Zmk (.dk d) (.str (nm i)) M) Q E=Q (.bl (decide (i=j))) M:=by
 have e:Zmk (.dk d) (.str (nm i)) M= .ok (.bl (decide (i=j))) M:=by
  have e1:kK (.str (nm i))=some (.inr (nm i)):=rfl
  simp only[Zmk,Zhc,e1,h,dv i hi]
 rw[e]
 rfl
noncomputable def Kd (c:Str) (j:Nat):Prop:=(c=ZgU/\j=11)\/(c=NoH/\j=3)\/(c=NoB/\j=0)
theorem Zqe {c:Str} {j:Nat} (hj:Kd c j) (q: ∀ M',M.length<=M'.length->(∀ j < M.length,M'[j]?=M[j]?)->Q (.bl true) M'):wO (F_law_only [.err c [],.str (nm j)] M) Q E:=by
 have hj15:j < 15:=by rcases hj with ⟨_,rfl⟩ | ⟨_,rfl⟩ | ⟨_,rfl⟩<;>decide
 simp![F_law_only,Zeb]
 refine Zsw (ds:=ps j) (by
  rcases hj with ⟨rfl,rfl⟩ | ⟨rfl,rfl⟩ | ⟨rfl,rfl⟩
  ·have ie: ∀ (a b c d:Bool) (M:Sto),ZcF [(PySem.Str.ofString "NotSmooth",a),(PySem.Str.ofString "NoRatio",b),(PySem.Str.ofString "NoHeight",c),(PySem.Str.ofString "NoBend",d)] (Zh 0) [some (.err ZgU []),some (.str (nm 11)),none] M= .ok (.bl a) M:=fun a b c d M=>isE (lkS a b c d) rfl
   simp only[Zmq,ie,Out.bind]
   rfl
  ·have ie: ∀ (a b c d:Bool) (M:Sto),ZcF [(PySem.Str.ofString "NotSmooth",a),(PySem.Str.ofString "NoRatio",b),(PySem.Str.ofString "NoHeight",c),(PySem.Str.ofString "NoBend",d)] (Zh 0) [some (.err NoH []),some (.str (nm 3)),none] M= .ok (.bl c) M:=fun a b c d M=>isE (lkH a b c d) rfl
   simp only[Zmq,ie,Out.bind]
   rfl
  ·have ie: ∀ (a b c d:Bool) (M:Sto),ZcF [(PySem.Str.ofString "NotSmooth",a),(PySem.Str.ofString "NoRatio",b),(PySem.Str.ofString "NoHeight",c),(PySem.Str.ofString "NoBend",d)] (Zh 0) [some (.err NoB []),some (.str (nm 0)),none] M= .ok (.bl d) M:=fun a b c d M=>isE (lkB a b c d) rfl
   simp only[Zmq,ie,Out.bind]
   rfl) ?_
 simp![Zu]
 have K0:M.length<=(M ++ [SO.lst (ps j)]).length/\ ∀ z < M.length,(M ++ [SO.lst (ps j)])[z]?=M[z]?:=⟨by simp,fun j h=>Zbk h⟩
 have r0:(M ++ [SO.lst (ps j)])[M.length]?=some (.lst (ps j)):=by simp
 obtain ⟨d,hd⟩: ∃ d,M.length=d:=⟨_,rfl⟩
 rw[hd] at r0 ⊢
 generalize M ++ [SO.lst (ps j)]=M0 at *
 refine Znl rfl r0 rfl ?_
 have r1:(M0.set d (.lst (.non :: ps j)))[d]?=some (.lst (.non :: ps j)):=List.getElem?_set_self (ZM r0)
 have K1:M.length<=(M0.set d (.lst (.non :: ps j))).length/\ ∀ z < M.length,(M0.set d (.lst (.non :: ps j)))[z]?=M[z]?:=⟨by rw[List.length_set];exact K0.1,fun j h=>by rw[List.getElem?_set_ne (by omega)];exact K0.2 j h⟩
 generalize M0.set d (.lst (.non :: ps j))=M1 at *
 show wO (Zc4 (.dct d) (gNm 0) (tv (e2 Zmk (Zh 1) (Zh 0))) (Zh 0) M1.length (cnt (.dct d) M1) 0 [none,some (.dk d)] (M1 ++ [.lst []])) _ _
 have dl:=ZM r1
 refine Zk7 (xs:=(List.range 15).map fun i=>D.str (nm i)) (fun i ρ M'=>(∃ a,ρ=[a,some (.dk d)])/\M'=M1 ++ [.lst (if i<=j then [] else [.str (nm j)])]) _ 0 _ _ (by simp) (by simp only[cnt,r1];simp[ps]) ⟨⟨_,rfl⟩,rfl⟩ ?_ ?_ ?_
 ·rintro i ρ M' hi ⟨-,rfl⟩
  have r2:(M1 ++ [SO.lst (if i<=j then [] else [.str (nm j)])])[d]?=some (.lst (.non :: ps j)):=by rw[Zbk dl];exact r1
  have hi:i<=15:=by simpa using hi
  simp only[nxt,r2]
  by_cases c:i < 15
  ·simp[ps,c]
  ·simp[ps,c]
 ·rintro i ρ M' hi ⟨⟨a,rfl⟩,rfl⟩
  have hi:i < 15:=by simpa using hi
  have r2:(M1 ++ [SO.lst (if i<=j then [] else [.str (nm j)])])[d]?=some (.lst (.non :: ps j)):=by rw[Zbk dl];exact r1
  have e1:((List.range 15).map fun i=>D.str (nm i))[i]'(by simpa using hi)= .str (nm i):=by simp
  rw[e1]
  simp![ZuP r2 hi]
  by_cases c:i=j
  ·subst c
   rw[decide_eq_true rfl,Zq5]
   have r3:(M1 ++ [SO.lst (if i<=i then [] else [.str (nm i)])])[M1.length]?=some (.lst []):=by simp
   simp![r3]
  ·rw[decide_eq_false c,ZsJ]
   refine ⟨⟨_,rfl⟩,?_⟩
   by_cases c2:i + 1<=j
   ·rw[if_pos (by omega),if_pos c2]
   ·rw[if_neg (by omega),if_neg c2]
 ·rintro ρ M' ⟨-,rfl⟩
  have ei:(if ((List.range 15).map fun i=>D.str (nm i)).length<=j then [] else [.str (nm j)])=[D.str (nm j)]:=if_neg (by simp;omega)
  rw[ei]
  have r3:(M1 ++ [SO.lst [D.str (nm j)]])[M1.length]?=some (.lst [.str (nm j)]):=by simp
  have K3:M.length<=(M1 ++ [SO.lst [D.str (nm j)]]).length/\ ∀ z < M.length,(M1 ++ [SO.lst [D.str (nm j)]])[z]?=M[z]?:=⟨by rw[List.length_append];exact Nat.le_trans K1.1 (Nat.le_add_right _ _),fun j h=>by rw[Zbk (Nat.lt_of_lt_of_le h K1.1)];exact K1.2 j h⟩
  generalize M1 ++ [SO.lst [D.str (nm j)]]=M3 at *
  generalize M1.length=o3 at *
  have l3:=ZM r3
  have ie2: ∀ (M:Sto),ZcF [(PySem.Str.ofString "NotSmooth",true),(PySem.Str.ofString "NoRatio",true),(PySem.Str.ofString "NoHeight",true),(PySem.Str.ofString "NoBend",true)] (Zh 0) [some (.err c []),some (.str (nm j)),some (.dk d)] M= .ok (.bl true) M:=fun M=>by
   rcases hj with ⟨rfl,rfl⟩ | ⟨rfl,rfl⟩ | ⟨rfl,rfl⟩
   ·exact isE (lkS true true true true) rfl
   ·exact isE (lkH true true true true) rfl
   ·exact isE (lkB true true true true) rfl
  simp![Zu]
  have r4:(M3 ++ [SO.lst [D.str (nm j)]])[M3.length]?=some (.lst [.str (nm j)]):=by simp
  have r5:(M3 ++ [SO.lst [D.str (nm j)]])[o3]?=some (.lst [.str (nm j)]):=by rw[Zbk l3];exact r3
  have K4:M.length<=(M3 ++ [SO.lst [D.str (nm j)]]).length/\ ∀ z < M.length,(M3 ++ [SO.lst [D.str (nm j)]])[z]?=M[z]?:=⟨by rw[List.length_append];exact Nat.le_trans K3.1 (Nat.le_add_right _ _),fun j h=>by rw[Zbk (Nat.lt_of_lt_of_le h K3.1)];exact K3.2 j h⟩
  generalize M3 ++ [SO.lst [D.str (nm j)]]=M4 at *
  have e5:eqF 12 M4 (.ref o3) (.ref M3.length)=some true:=by
   rw[Zru r5 r4,if_pos rfl]
   simp[eqL,Zsn]
  simp![e5,ie2]
  exact q _ K4.1 K4.2
theorem ZuQ {i:Nat} {c:Str} {F:List D->Sto->Out D} {tab:List (Str × (List D->Sto->Out D))} {fs:Av} {ρ:Ro} (h:ρ[i]?=some (some (.fn c))) (ht:tab.lookup c=some F) (q:wO (fs ρ M) (fun ds M1=>wO (F ds M1) Q E) E):wO (eCV i tab fs ρ M) Q E:=by
 have e:eCV i tab fs ρ M=(fs ρ M).bind fun ds M1=>F ds M1:=by
  unfold eCV
  simp only[h,ht]
 rw[e,ZB]
 exact q
theorem ZbQ {kd f c:Str} {F:List D->Sto->Out D} {j a b:Nat} (hf:List.lookup f [(PySem.Str.ofString "dots",F_dots),(PySem.Str.ofString "dots_by_crossing",F_dots_by_crossing),(PySem.Str.ofString "corners",F_corners),(PySem.Str.ofString "height_of",F_height_of)]=some F) (hk:kd=nm j) (hj:Kd c j) (r:Ref c F [.ref a,.ref b] M) (q: ∀ M',Kp M M'->Q (.bl true) M'):wO (F_law_refused [.str kd,.fn f,.tup [.ref a,.ref b]] M) Q E:=by
 subst hk
 simp![F_law_refused,ZcA]
 refine ZuQ rfl hf ?_
 simp![Zu]
 refine r _ _ fun M1 K1=> ?_
 simp![Zu]
 refine ⟨by rcases hj with ⟨rfl,_⟩ | ⟨rfl,_⟩ | ⟨rfl,_⟩<;>decide +kernel,Zqe hj fun M2 l k=> ?_⟩
 exact q M2 (K1.trans (Kp.of l k))
theorem Zji {kd c:Str} {j a b:Nat} {ps ds:List D} (hk:kd=nm j) (hj:Kd c j) (h:M[a]?=some (.lst ps)) (h':M[b]?=some (.lst ds)) (l1:ps.length<=1000) (l2:ds.length<=1000)
  (r: ∀ M' a b,M'[a]?=some (.lst ps)->M'[b]?=some (.lst ds)->Ref c F_dots [.ref a,.ref b] M'/\Ref c F_dots_by_crossing [.ref a,.ref b] M'/\Ref c F_corners [.ref a,.ref b] M') (q: ∀ M',Kp M M'->Q (.bl true) M'):wO (F_law_all [.str kd,.ref a,.ref b] M) Q E:=by
 simp![F_law_all,ZfA]
 have K0:Kp M (M ++ [SO.lst [.fn (PySem.Str.ofString "dots"),.fn (PySem.Str.ofString "dots_by_crossing"),.fn (PySem.Str.ofString "corners")]]):=Kp.app
 have t0:(M ++ [SO.lst [.fn (PySem.Str.ofString "dots"),.fn (PySem.Str.ofString "dots_by_crossing"),.fn (PySem.Str.ofString "corners")]])[M.length]?=some (.lst [.fn (PySem.Str.ofString "dots"),.fn (PySem.Str.ofString "dots_by_crossing"),.fn (PySem.Str.ofString "corners")]):=by simp
 generalize M ++ [SO.lst [.fn (PySem.Str.ofString "dots"),.fn (PySem.Str.ofString "dots_by_crossing"),.fn (PySem.Str.ofString "corners")]]=M0 at *
 refine ZiO (fun t ρ M'=>Kp M0 M'/\ ∃ y,ρ=[some (.str kd),some (.ref a),some (.ref b),y]) t0 ⟨Kp.refl,_,rfl⟩ (fun t ρ M' hI=>hI.1.get t0) ?_ ?_
 ·rintro t ρ M1 ht ⟨K,y,rfl⟩
  have g1:=(K0.trans K).get h
  have g2:=(K0.trans K).get h'
  have g2':(M1 ++ [SO.lst ps])[b]?=some (.lst ds):=by rw[Zbk (ZM g2)];exact g2
  have fin: ∀ (f:Str) (F:List D->Sto->Out D),List.lookup f [(PySem.Str.ofString "dots",F_dots),(PySem.Str.ofString "dots_by_crossing",F_dots_by_crossing),(PySem.Str.ofString "corners",F_corners),(PySem.Str.ofString "height_of",F_height_of)]=some F->(∀ M' a b,M'[a]?=some (.lst ps)->M'[b]?=some (.lst ds)->Ref c F [.ref a,.ref b] M')-> ∀ (R':D->Sto->Prop) (N':Ro->Sto->Prop) (E':Str->Sto->Prop),wS (ZbP [some (.str kd),some (.ref a),some (.ref b),some (.fn f)] M1) (fun ρ M'=>Kp M0 M'/\ ∃ y,ρ=[some (.str kd),some (.ref a),some (.ref b),y]) R' N' (fun ρ M'=>Kp M0 M'/\ ∃ y,ρ=[some (.str kd),some (.ref a),some (.ref b),y]) E':=by
   intro f F hf hr R' N' E'
   simp![ZbP,g1]
   simp![g2']
   have K3:Kp M1 (M1 ++ [SO.lst ps,SO.lst ds]):=Kp.app
   have v1:(M1 ++ [SO.lst ps,SO.lst ds])[M1.length]?=some (.lst ps):=by rw[Zdx];rfl
   have v2:(M1 ++ [SO.lst ps,SO.lst ds])[M1.length + 1]?=some (.lst ds):=by rw[Zk8];rfl
   refine ZbQ hf hk hj (hr _ _ _ v1 v2) fun M4 K4=> ?_
   simp![Zu]
   exact ⟨(K.trans K3).trans K4,_,rfl⟩
  have:t=0\/t=1\/t=2:=by simp at ht;omega
  rcases this with rfl | rfl | rfl
  ·simp only[List.getElem_cons_zero]
   simp![Zu]
   exact fin (PySem.Str.ofString "dots") F_dots rfl (fun M a b h1 h2=>(r M a b h1 h2).1) _ _ _
  ·simp only[List.getElem_cons_succ,List.getElem_cons_zero]
   simp![Zu]
   exact fin (PySem.Str.ofString "dots_by_crossing") F_dots_by_crossing rfl (fun M a b h1 h2=>(r M a b h1 h2).2.1) _ _ _
  ·simp only[List.getElem_cons_succ,List.getElem_cons_zero]
   simp![Zu]
   exact fin (PySem.Str.ofString "corners") F_corners rfl (fun M a b h1 h2=>(r M a b h1 h2).2.2) _ _ _
 ·rintro ρ M1 ⟨K,y,rfl⟩
  simp![Zu]
  exact q _ (K0.trans K)
theorem Zqf {d:D} (h:M[n]?=some (.lst (prs rs))) (hr:Rgh rs) (hb:Nr 200 rs) (hl:rs.length<=14):Ref ZgU F_bends_inwards [.ref n,d] M:=by
 intro Q E q
 simp![F_bends_inwards,Z5]
 refine Znj h hr hb hl _ _ fun M' K=> ?_
 exact q M' K
theorem Zqg (h:M[n]?=some (.lst (prs rs))) (hs':Smo rs) (hb:Nr 200 rs) (hl:rs.length<=14) (h':M[m]?=some (.lst (rts hs))) (ne:hs.length≠rs.length) (hl':hs.length<=1000):Ref NoH F_bends_inwards [.ref n,.ref m] M:=by
 intro Q E q
 simp![F_bends_inwards,Z5]
 refine Znk h hs' hb hl h' ne hl' _ _ fun M' K=> ?_
 exact q M' K
theorem Zqh {d:D} (h:M[n]?=some (.lst (prs rs))) (hr:Rgh rs) (hb:Nr 200 rs) (hl:rs.length<=14):Ref ZgU F_dots [.ref n,d] M/\Ref ZgU F_dots_by_crossing [.ref n,d] M/\Ref ZgU F_corners [.ref n,d] M:=by
 refine ⟨fun Q E q=> ?_,fun Q E q=> ?_,fun Q E q=> ?_⟩
 ·simp![F_dots,Zjh,F_body,Zjf]
  refine CF.ZbL h hr (fun p hp=>by have:=hb p hp;omega) (by omega) ?_
  exact q M Kp.refl
 ·simp![F_dots_by_crossing,Z4]
  refine Zqf h hr hb hl _ _ fun M' K=> ?_
  exact q M' K
 ·simp![F_corners,ZbN]
  refine Zqf h hr hb hl _ _ fun M' K=> ?_
  exact q M' K
theorem Znm (h:M[n]?=some (.lst (prs rs))) (hs':Smo rs) (hb:Nr 200 rs) (hl:rs.length<=14) (h':M[m]?=some (.lst (rts hs))) (ne:hs.length≠rs.length) (hl':hs.length<=1000):Ref NoH F_dots [.ref n,.ref m] M/\Ref NoH F_dots_by_crossing [.ref n,.ref m] M/\Ref NoH F_corners [.ref n,.ref m] M:=by
 refine ⟨fun Q E q=> ?_,fun Q E q=> ?_,fun Q E q=> ?_⟩
 ·simp![F_dots,Zjh,F_body,Zjf]
  refine CC.ZcW h hs' (fun p hp=>by have:=hb p hp;omega) ?_
  simp![Zu]
  refine Zc0 h h' ne (by omega) hl' ?_
  exact q M Kp.refl
 ·simp![F_dots_by_crossing,Z4]
  refine Zqg h hs' hb hl h' ne hl' _ _ fun M' K=> ?_
  exact q M' K
 ·simp![F_corners,ZbN]
  refine Zqg h hs' hb hl h' ne hl' _ _ fun M' K=> ?_
  exact q M' K
theorem ZkE {d:D} (h:M[n]?=some (.lst (prs rs))) (hr:Rgh rs) (hb:Nr 200 rs) (hl:rs.length<=14):Ref ZgU F_height_of [.ref n,d] M:=by
 intro Q E q
 simp![F_height_of,Zcf]
 refine CF.ZbL h hr (fun p hp=>by have:=hb p hp;omega) (by omega) ?_
 exact q M Kp.refl
theorem Zjj {f:Nat->Bool} {N:Nat}:Zab ((List.range N).map fun i=>D.bl (f i))=some ((List.range N).map f):=by
 have: ∀ L:List Nat,Zab (L.map fun i=>D.bl (f i))=some (L.map f):=by
  intro L
  induction L with
  |nil=>rfl
  |cons x r ih=>rw[List.map_cons,Zab,ih];rfl
 exact this _
theorem Zqi (h:M[n]?=some (.lst (prs rs))) (hs':Smo rs) (hl:rs.length<=14) (hb:Nr 200 rs) (h':M[m]?=some (.lst (rts hs))) (e:hs.length=rs.length) (hz: ∀ x∈hs,Sz k x) (hk:k<=1000) (hp: ∃ i:Nat,i < rs.length/\bnd rs hs i < 0) (q: ∀ M',Kp M M'->Q (.bl true) M'):wO (F_bends_inwards [.ref n,.ref m] M) Q E:=by
 have h3:=hs'.len
 simp![F_bends_inwards,Z5]
 refine CN.Zm4 h hs' (by omega) hb h' e hz (by omega) fun m' M1 l1 r1 l2 g2=> ?_
 have K1:Kp M M1:=⟨l2,g2⟩
 have lr1:=ZM r1
 have bz:=Zp0 (l:=rs.length) hb hs'.ne (by omega) hz
 simp![Zu]
 refine Znr (fun ρ=> ∃ x,ρ=[x]) (fun (i:Nat)=>D.bl (decide (bnd rs hs i < 0))) r1 (by rw[ZF,ZcM];omega) ⟨_,rfl⟩ ?_ ?_
 ·rintro i hi ρ L ⟨x,rfl⟩
  rw[Zf7]
  rw[ZF,ZcM] at hi
  have z:=Zi5 (i:=i) bz (by rw[ZcM];omega)
  have e0:cq (bds rs hs rs.length) i=bnd rs hs i:=by rw[Zi4 (by rw[ZcM];omega)];simp[bds]
  simp![Zu]
  rw[show D.tup [D.int 0,D.int 1]=rt ((0:Int):Rat) from CS.Zi3 0,CD.Zp8 z (CS.Zfn (k:=1) (by decide) (by decide)) (by omega)]
  rw[e0]
  exact ⟨⟨_,rfl⟩,by norm_cast,rfl⟩
 rw[ZF,ZcM]
 simp![CO.Zsv,CO.Zp9,Zjj,CO.Zsu]
 obtain ⟨i,hi,hn⟩:=hp
 rw[show ((List.range rs.length).map fun (i:Nat)=>decide (bnd rs hs i < 0)).any id=true by
  rw[List.any_eq_true]
  exact ⟨true,List.mem_map.mpr ⟨i,List.mem_range.mpr hi,decide_eq_true hn⟩,rfl⟩]
 exact q _ (K1.trans Kp.app)
theorem ZfB (h:M[n]?=some (.lst (prs rs))) (hs':Smo rs) (hl:rs.length<=14) (hb:Nr 200 rs) (h':M[m]?=some (.lst (rts hs))) (e:hs.length=rs.length) (hz: ∀ x∈hs,Sz k x) (hk:k<=1000) (hp: ∃ i:Nat,i < rs.length/\bnd rs hs i < 0):Ref NoB F_corners [.ref n,.ref m] M/\Ref NoB F_dots_by_crossing [.ref n,.ref m] M:=by
 refine ⟨fun Q E q=> ?_,fun Q E q=> ?_⟩
 ·simp![F_corners,ZbN]
  refine Zqi h hs' hl hb h' e hz hk hp fun M' K=> ?_
  simp![Zu]
  exact q M' K
 ·simp![F_dots_by_crossing,Z4]
  refine Zqi h hs' hl hb h' e hz hk hp fun M' K=> ?_
  simp![Zu]
  exact q M' K
theorem ZgZ {q:Rat}: ∀ k:Nat,(List.replicate k [rt q]).flatten=rts (List.replicate k q)
 |0=>rfl
 |k + 1=>by
  rw[List.replicate_succ,List.flatten_cons,ZgZ k,List.replicate_succ]
  rfl
theorem Ztu {p q r:Pt} (h:X r p≠1):Rgh [p,q,r]/\Rgh [q,r,p]/\Rgh [r,p,q]:=
 ⟨⟨2,by simp,by simpa [cy] using h⟩,⟨1,by simp,by simpa [cy] using h⟩,⟨0,by simp,by simpa [cy] using h⟩⟩
theorem Znn {a b c d:Int} {st:Nat} (t:CA.Tn 14 a b c d) (h:st < 3):Rgh (sg (decide (a * d - b * c < 0)) st ([(1,0),(0,1),(-1,-2)].map (gg a b c d))):=by
 have hd:=t.det
 have go: ∀ u v:Pt,X (gg a b c d u) (gg a b c d v)=(a * d - b * c) * X u v:=fun u v=>Zqt u v
 have:st=0\/st=1\/st=2:=by omega
 rcases hd with hd | hd
 ·rw[hd] at go ⊢
  rw[show decide ((1:Int) < 0)=false from rfl]
  have x2:X (gg a b c d (-1,-2)) (gg a b c d (1,0))≠1:=by rw[go];decide
  have g:=Ztu (q:=gg a b c d (0,1)) x2
  rcases this with rfl | rfl | rfl
  ·exact g.1
  ·exact g.2.1
  ·exact g.2.2
 ·rw[hd] at go ⊢
  rw[show decide ((-1:Int) < 0)=true from rfl]
  have x2:X (gg a b c d (1,0)) (gg a b c d (-1,-2))≠1:=by rw[go];decide
  have g:=Ztu (q:=gg a b c d (0,1)) x2
  rcases this with rfl | rfl | rfl
  ·exact g.1
  ·exact g.2.1
  ·exact g.2.2
noncomputable def ra (us:List Int):List Rat:=us.map fun (u:Int)=>(u:Rat)
theorem Zlr {us:List Int}:(ra us).length=us.length:=List.length_map _
theorem ZkF {us:List Int} (i:Int):cq (ra us) i=(cn us i:Rat):=by
 unfold cq cn ra
 rw[List.length_map,List.getD_eq_getElem?_getD,List.getD_eq_getElem?_getD,List.getElem?_map]
 cases us[(i % us.length).toNat]? with
 |none=>simp
 |some x=>simp
theorem Zqj {us:List Int} {i:Int}:bnd rs (ra us) i=((cn us (i - 1) + cn us (i + 1) + T rs i * cn us i:Int):Rat):=by
 unfold bnd
 rw[ZkF,ZkF,ZkF,Rat.intCast_add,Rat.intCast_add,Rat.intCast_mul]
theorem ZkG {us:List Int} {v:Int} (h:(bnI rs us).min?=some v) (hv:v < 0): ∃ i:Nat,i < rs.length/\bnd rs (ra us) i < 0:=by
 have hm:=List.min?_mem h
 unfold bnI at hm
 obtain ⟨i,hi,e⟩:=List.mem_map.mp hm
 refine ⟨i,List.mem_range.mp hi,?_⟩
 rw[Zqj]
 have:cn us ((i:Int) - 1) + cn us ((i:Int) + 1) + T rs i * cn us i < 0:=by
  have e2:T rs i=0 - X (cy rs ((i:Int) - 1)) (cy rs ((i:Int) + 1)):=rfl
  rw[e2,e]
  exact hv
 exact Rat.intCast_neg_iff.mpr this
theorem Zno {N p:Nat} {q:Rat} (hq:q < 0) (hN:rs.length=N) (h3:3<=N) (hp:p < N): ∃ i:Nat,i < rs.length/\bnd rs ((List.replicate N (0:Rat)).set p q) i < 0:=by
 have hl:((List.replicate N (0:Rat)).set p q).length=N:=by simp
 have at': ∀ i:Int,cq ((List.replicate N (0:Rat)).set p q) i=if (i % N).toNat=p then q else 0:=by
  intro i
  unfold cq
  rw[hl,List.getD_eq_getElem?_getD]
  have em:=ZaA (i:=i) (m:=N) (by omega)
  by_cases c:(i % N).toNat=p
  ·rw[if_pos c,c,List.getElem?_set_self (by simp;omega)]
   rfl
  ·rw[if_neg c,List.getElem?_set_ne (Ne.symm c),List.getElem?_replicate,if_pos (by omega)]
   rfl
 refine ⟨(((p:Int) + 1) % N).toNat,?_,?_⟩
 ·have:=ZaA (i:=(p:Int) + 1) (m:=N) (by omega)
  omega
 ·have em:=ZaA (i:=(p:Int) + 1) (m:=N) (by omega)
  unfold bnd
  rw[at',at',at']
  have c:((p:Int) + 1) % N=if p + 1=N then 0 else (p:Int) + 1:=by
   by_cases z:p + 1=N
   ·rw[if_pos z,show (p:Int) + 1=N by omega,Int.emod_self]
   ·rw[if_neg z,Int.emod_eq_of_lt (by omega) (by omega)]
  have e0:((((((p:Int) + 1) % N).toNat:Nat):Int))=((p:Int) + 1) % N:=by omega
  rw[e0]
  have m1:((((p:Int) + 1) % N - 1) % N).toNat=p:=by
   rw[Int.emod_sub_emod,show (p:Int) + 1 - 1=p by omega,Int.emod_eq_of_lt (by omega) (by omega)]
   omega
  have m2:((((p:Int) + 1) % N + 1) % N).toNat≠p:=by
   rw[Int.emod_add_emod,show (p:Int) + 1 + 1=p + 2 by omega]
   by_cases z:p + 2 < N
   ·rw[Int.emod_eq_of_lt (by omega) (by omega)]
    omega
   ·rw[<- Int.sub_emod_right,Int.emod_eq_of_lt (by omega) (by omega)]
    omega
  have m3:((((p:Int) + 1) % N) % N).toNat≠p:=by
   rw[Int.emod_emod_of_dvd _ (Int.dvd_refl _),c]
   split<;>omega
  rw[if_pos m1,if_neg m2,if_neg m3]
  grind
theorem Zjk {F:List D->Sto->Out D} {ds:List D} {L:Sto} {k:Nat} {o:SO} (hk:L[k]?=some o) (q: ∀ M3,Kp M M3->M3[M.length + k]?=some o->wO (F ds M3) Q E):wO (F ds (M ++ L)) Q E:=q _ Kp.app (by rw[Zk8];exact hk)
theorem Znp {ns:List Int} {i:Nat} {x2 x3 x4 x5 x6 x7 x8 x9 x10 x11 x12 x13 x14:Option D} (hi0:i < 1000) (hN: ∀ x2 x3 x4 x5 x6 x7 x8 x9 x10 x11 x12 x13 x14 M',N [some (.rol (ns.map D.int)),some (.int i),x2,x3,x4,x5,x6,x7,x8,x9,x10,x11,x12,x13,x14] M'):wS (ZeG [some (.rol (ns.map D.int)),some (.int i),x2,x3,x4,x5,x6,x7,x8,x9,x10,x11,x12,x13,x14] M) N R B C E:=by
 simp![ZeG]
 refine ZiX hi0 fun a0 b0 ha=> ?_
 have B0:Bag M.length (M ++ [.lst [.int a0,.int b0]]):=⟨a0,b0,ha,by simp⟩
 generalize M ++ [SO.lst [.int a0,.int b0]]=M0 at *
 generalize M.length=n at *
 simp![Zu]
 refine Zm9 B0 fun a b c d p M1 t lp tp g1=> ?_
 have n0:=B0.lt
 simp![Zu]
 have B1:Bag n (M1 ++ [SO.lst [D.tup [D.int 1,D.int 0],D.tup [D.int 0,D.int 1],D.tup [D.int (-1),D.int (-2)]]]):=g1.bag.app _
 have K1:Kp M1 (M1 ++ [SO.lst [D.tup [D.int 1,D.int 0],D.tup [D.int 0,D.int 1],D.tup [D.int (-1),D.int (-2)]]]):=Kp.app
 have l1:=g1.len
 have bad1:(M1 ++ [SO.lst [D.tup [D.int 1,D.int 0],D.tup [D.int 0,D.int 1],D.tup [D.int (-1),D.int (-2)]]])[M1.length]?=some (.lst (prs [(1,0),(0,1),(-1,-2)])):=by rw[Zdx];rfl
 generalize M1 ++ [SO.lst [D.tup [D.int 1,D.int 0],D.tup [D.int 0,D.int 1],D.tup [D.int (-1),D.int (-2)]]]=M2 at *
 have tp2:=K1.get tp
 have l2:=K1.1
 refine ZaB B1 (by decide) fun st M3 st0 st1 g3=> ?_
 have bad3:=CA.Gr.up bad1 g3 (by omega)
 have tp3:=CA.Gr.up tp2 g3 (by omega)
 have l3:=g3.len
 simp![Zu]
 refine Zlq bad3 bad3 rfl tp3 t (by intro q hq;simp at hq;rcases hq with rfl | rfl | rfl<;>decide) (by decide) ⟨st0,by simp;omega⟩ fun o1 o2 M4 K4 lo1 lo2 oo r1 r2=> ?_
 have rg:=Znn (st:=st.toNat) t (by omega)
 have rn:Nr 200 (sg (decide (a * d - b * c < 0)) st.toNat ([(1,0),(0,1),(-1,-2)].map (gg a b c d))):=Zp7 (by intro q hq;simp at hq;rcases hq with rfl | rfl | rfl<;>decide) t
 have rl:(sg (decide (a * d - b * c < 0)) st.toNat ([((1:Int),(0:Int)),(0,1),(-1,-2)].map (gg a b c d))).length=3:=by rw[ZgW];rfl
 have tp4:=K4.get tp3
 have B4:=K4.bag g3.bag
 generalize sg (decide (a * d - b * c < 0)) st.toNat ([((1:Int),(0:Int)),(0,1),(-1,-2)].map (gg a b c d))=bs at *
 have l4:=K4.1
 simp![Zu]
 refine ZaB B4 (by decide) fun mn M5 mn0 mn1 g5=> ?_
 have l5:=g5.len
 have r5:=CA.Gr.up r1 g5 (by omega)
 have tp5:=CA.Gr.up tp4 g5 (by omega)
 have B5:=g5.bag
 obtain ⟨mn,rfl⟩: ∃ k:Nat,mn=k:=⟨mn.toNat,by omega⟩
 simp![Zu]
 have e2:(List.replicate mn [D.tup [D.int 2,D.int 1]]).flatten=rts (List.replicate mn 2):=ZgZ (q:=2) mn
 rw[show ((mn:Int)).toNat=mn by omega,e2]
 refine ⟨by omega,?_⟩
 refine Zjk (k:=1) rfl fun M6 K6 r6=> ?_
 refine Zji (c:=ZgU) (j:=11) rfl (.inl ⟨rfl,rfl⟩) (K6.get r5) r6 (by rw[Zad];omega) (by rw[ZF,List.length_replicate];omega) (fun M' a b h1 h2=>Zqh h1 rg rn (by omega)) fun M7 K7=> ?_
 have r7:=(K6.trans K7).get r5
 simp![Zu]
 refine ⟨by omega,?_⟩
 refine Zjk (k:=1) rfl fun M8 K8 r8=> ?_
 refine Zji (c:=ZgU) (j:=11) rfl (.inl ⟨rfl,rfl⟩) (K8.get r7) r8 (by rw[Zad];omega) (by simp) (fun M' a b h1 h2=>Zqh h1 rg rn (by omega)) fun M9 K9=> ?_
 have r9:=(K8.trans K9).get r7
 simp![Zu]
 have K10:Kp M9 (M9 ++ [SO.lst [D.tup [D.tup [D.int 0,D.int 1],D.tup [D.int 0,D.int 1]]]]):=Kp.app
 refine ZbQ (F:=F_height_of) (j:=11) rfl rfl (.inl ⟨rfl,rfl⟩) (ZkE (K10.get r9) rg rn (by omega)) fun M11 K11=> ?_
 have KK:=(((K6.trans K7).trans (K8.trans K9)).trans K10).trans K11
 have tp11:=KK.get tp5
 have B11:=KK.bag B5
 have l11:=KK.1
 clear K11 K10 r9 K9 K8 r8 r7 K7 K6 r6 KK r5 tp5 B5 g5 rg rn rl r1 r2 bad1 bad3 tp2 tp3 tp4 B4 K4 g3 B1 K1
 simp![Zu]
 refine Zp2 (by decide) B11 fun ss ms M12 s1 s2 s3 s4 s5 g12=> ?_
 have tp12:=CA.Gr.up tp11 g12 (by omega)
 have l12:=g12.len
 have s6:=s1.len
 simp![s5]
 refine ZaB g12.bag (by omega) fun st2 M13 u0 u1 g13=> ?_
 have s13:=CA.Gr.up s5 g13 (by omega)
 have tp13:=CA.Gr.up tp12 g13 (by omega)
 have l13:=g13.len
 simp![Zu]
 refine Zlq s13 s13 (by rw[Zad]) tp13 t s2 (by omega) ⟨u0,by omega⟩ fun o3 o4 M14 K14 lo3 lo4 oo2 r3 r4=> ?_
 have sm:=Zp6 (k:=st2.toNat) s1 (by omega) t.det
 have rn:Nr 200 (sg (decide (a * d - b * c < 0)) st2.toNat (ss.map (gg a b c d))):=Zp7 s2 t
 have rl:(sg (decide (a * d - b * c < 0)) st2.toNat (ss.map (gg a b c d))).length=ss.length:=by rw[ZgW,List.length_map]
 have B14:=K14.bag g13.bag
 generalize sg (decide (a * d - b * c < 0)) st2.toNat (ss.map (gg a b c d))=rs at *
 have l14:=K14.1
 clear K14 g13 g12 s13 tp13 tp12 tp11 B11 s5 r4
 simp![r3]
 have r3':(M14 ++ [SO.lst [D.int mn,D.int (rs.length + 1 + mn)]])[o3]?=some (.lst (prs rs)):=by rw[Zbk (ZM r3)];exact r3
 have k15:(M14 ++ [SO.lst [D.int mn,D.int (rs.length + 1 + mn)]])[M14.length]?=some (.lst [D.int mn,D.int (rs.length + 1 + mn)]):=by rw[Zdx];rfl
 have B15:Bag n (M14 ++ [SO.lst [D.int mn,D.int (rs.length + 1 + mn)]]):=B14.app _
 have l15:M14.length < (M14 ++ [SO.lst [D.int mn,D.int (rs.length + 1 + mn)]]).length:=by simp
 generalize M14 ++ [SO.lst [D.int mn,D.int (rs.length + 1 + mn)]]=M15 at *
 simp![r3']
 refine ZrH (fun y M'=> ∃ b:Bool,y= .bl b/\Bag n M'/\M'[o3]?=some (.lst (prs rs))/\M'[M14.length]?=some (.lst [D.int mn,D.int (rs.length + 1 + mn)])/\M14.length < M'.length/\(b=false->(mn:Int)≠rs.length)) ?_ ?_
 ·refine brO (fun z=> ?_) (fun z=> ?_)
  ·simp![Zu]
   exact ⟨true,rfl,B15,r3',k15,l15,fun h=>by cases h⟩
  ·simp![Zu]
   refine ZaB B15 (by decide) fun r M16 _ _ g16=> ?_
   simp![Zu]
   exact ⟨_,rfl,g16.bag,CA.Gr.up r3' g16 (by omega),CA.Gr.up k15 g16 (by omega),by have:=g16.len;omega,fun _=>z⟩
 clear B15 r3' k15 l15
 rintro _ M16 ⟨bb,rfl,B16,r16,k16,l16,hb⟩
 obtain ⟨ot,hot,otn,otl⟩: ∃ ot:Nat,atI [D.int mn,D.int (rs.length + 1 + mn)] (if bb=true then 1 else 0)=some (.int ot)/\ot≠rs.length/\ot<=1000:=by
  cases bb with
  |true=>exact ⟨rs.length + 1 + mn,rfl,by omega,by omega⟩
  |false=>exact ⟨mn,rfl,by have:=hb rfl;omega,by omega⟩
 simp![k16,hot]
 have f2:(List.replicate ot [D.tup [D.int 2,D.int 1]]).flatten=rts (List.replicate ot 2):=ZgZ (q:=2) ot
 rw[show ((ot:Int)).toNat=ot by omega,f2]
 refine ⟨by omega,?_⟩
 refine Zjk (k:=1) rfl fun M17 K17 r17=> ?_
 refine Zji (c:=NoH) (j:=3) rfl (.inr (.inl ⟨rfl,rfl⟩)) (K17.get r16) r17 (by rw[Zad];omega) (by rw[ZF,List.length_replicate];omega) (fun M' a b h1 h2=>Znm h1 sm rn (by omega) h2 (by rw[List.length_replicate];omega) (by rw[List.length_replicate];omega)) fun M18 K18=> ?_
 have r18:=(K17.trans K18).get r16
 simp![Zu]
 refine Zjk (k:=0) rfl fun M19 K19 r19=> ?_
 refine Zji (c:=NoH) (j:=3) rfl (.inr (.inl ⟨rfl,rfl⟩)) (K19.get r18) r19 (by rw[Zad];omega) (by simp) (fun M' a b h1 h2=>Znm (hs:=[]) h1 sm rn (by omega) h2 (by simp;omega) (by simp)) fun M20 K20=> ?_
 have r20:=(K19.trans K20).get r18
 simp![Zu]
 have f3:(List.replicate ot [D.tup [D.int 1,D.int 2]]).flatten=rts (List.replicate ot (⟨1,2,by decide,by decide⟩:Rat)):=ZgZ (q:=(⟨1,2,by decide,by decide⟩:Rat)) ot
 rw[show ((ot:Int)).toNat=ot by omega,f3]
 refine ⟨by omega,?_⟩
 refine Zjk (k:=1) rfl fun M21 K21 r21=> ?_
 refine Zji (c:=NoH) (j:=3) rfl (.inr (.inl ⟨rfl,rfl⟩)) (K21.get r20) r21 (by rw[Zad];omega) (by rw[ZF,List.length_replicate];omega) (fun M' a b h1 h2=>Znm h1 sm rn (by omega) h2 (by rw[List.length_replicate];omega) (by rw[List.length_replicate];omega)) fun M22 K22=> ?_
 have KK:=(((K17.trans K18).trans (K19.trans K20)).trans K21).trans K22
 have r22:=KK.get r16
 have B22:=KK.bag B16
 have l22:=KK.1
 clear K22 K21 r21 r20 K20 K19 r19 r18 K18 K17 r17 KK r16 k16 B16 r3 B14
 have nl22:=B22.lt
 have lo22:=ZM r22
 simp![Zu]
 have r23:(M22 ++ [SO.lst []])[o3]?=some (.lst (prs rs)):=by rw[Zbk (ZM r22)];exact r22
 have B23:Bag n (M22 ++ [SO.lst []]):=B22.app _
 have u23:(M22 ++ [SO.lst []])[M22.length]?=some (.lst (nts [])):=by rw[Zdx];rfl
 have l23:(M22 ++ [SO.lst []]).length=M22.length + 1:=by simp
 generalize M22 ++ [SO.lst []]=M23 at *
 simp![r22]
 refine ⟨by omega,?_⟩
 rw[show ((rs.length:Int)).toNat=rs.length by omega]
 refine Zff (fun k ρ M'=>(∃ y,ρ=[some (.rol (ns.map D.int)),some (.int i),some (.ref n),some (.ref p),some (.ref M1.length),some (.ref o3),some (.ref o4),some (.int mn),some (.ref ms),some (.int ot),some (.ref M22.length),y,x12,x13,x14])/\Bag n M'/\M'[o3]?=some (.lst (prs rs))/\M22.length < M'.length/\ ∃ us:List Int,us.length=k/\(∀ u∈us,-2<=u/\u<=6)/\M'[M22.length]?=some (.lst (nts us))) ⟨⟨_,rfl⟩,B23,r23,by omega,[],rfl,by simp,u23⟩ ?_ ?_
 ·rintro k ρ M24 hk ⟨⟨y,rfl⟩,B24,r24,l24,us,us1,us2,u24⟩
  simp![ZgY,u24]
  refine ZaB B24 (by decide) fun r M25 w0 w1 g25=> ?_
  have u25:=CA.Gr.up u24 g25 (by omega)
  have r25:=CA.Gr.up r24 g25 (by omega)
  have l25:=g25.len
  simp![u25]
  refine ⟨by rw[us1];omega,⟨_,rfl⟩,?_,?_,by rw[List.length_set];omega,us ++ [r - 2],by simp[us1],?_,?_⟩
  ·exact Zna (k:=M22.length) g25.bag (by omega)
  ·exact r25
  ·intro u hu
   rcases List.mem_append.mp hu with hu | hu
   ·exact us2 u hu
   ·simp at hu;omega
  ·exact rfl
 rintro ρ M26 ⟨⟨y,rfl⟩,B26,r26,l26,us,us1,us2,u26⟩
 clear B23 r23 u23 l23 B22 r22
 simp![Zu]
 refine Znr (fun ρ=> ∃ x,ρ=[x]) (fun (i:Nat)=>rt (cq (ra us) i)) u26 (by rw[Zdy];omega) ⟨_,rfl⟩ ?_ ?_
 ·rintro k hk ρ L ⟨x,rfl⟩
  rw[Zm5 hk,ZkF]
  simp![Zu]
  exact ⟨⟨_,rfl⟩,CS.Zi3 _⟩
 rw[Zdy]
 have f4:(List.range us.length).map (fun (i:Nat)=>rt (cq (ra us) i))=rts (ra us):=CU.Zm6 (F:=fun k=>cq (ra us) k) Zlr (fun i hi=>rfl)
 rw[f4]
 have K27:Kp M26 (M26 ++ [SO.lst (rts (ra us))]):=Kp.app
 have h27:(M26 ++ [SO.lst (rts (ra us))])[M26.length]?=some (.lst (rts (ra us))):=by rw[Zdx];rfl
 have rz: ∀ x∈ra us,Sz 10 x:=fun x hx=>by
  obtain ⟨u,hu,rfl⟩:=List.mem_map.mp hx
  exact CS.Zfn (by have:=us2 u hu;omega) (by decide)
 generalize M26 ++ [SO.lst (rts (ra us))]=M27 at *
 have r27:=K27.get r26
 have u27:=K27.get u26
 have B27:=K27.bag B26
 have l27:=K27.1
 simp![Zu]
 refine CO.Zkw r27 rn sm.ne (by omega) u27 (by omega) ?_
 obtain ⟨v,hv⟩: ∃ v,(bnI rs us).min?=some v:=by
  cases e:(bnI rs us).min? with
  |some v=>exact ⟨v,rfl⟩
  |none=>
   rw[List.min?_eq_none_iff] at e
   have:(bnI rs us).length=rs.length:=by simp[bnI]
   rw[e] at this
   simp at this
   omega
 have K28:Kp M27 (M27 ++ [SO.lst (nts (bnI rs us))]):=Kp.app
 simp![CD.Zcx,hv]
 generalize M27 ++ [SO.lst (nts (bnI rs us))]=M28 at *
 refine ZrH (fun y M'=>y=false/\Kp M28 M') ?_ ?_
 ·refine brO (fun z=> ?_) (fun z=> ?_)
  ·simp![Zu]
   refine ZbQ (F:=F_corners) (j:=0) rfl rfl (.inr (.inr ⟨rfl,rfl⟩)) (ZfB (K28.get r27) sm (by omega) rn (K28.get h27) (by rw[Zlr];omega) rz (by omega) (ZkG hv z)).1 fun M29 K29=> ?_
   simp![Zu]
   exact K29
  ·simp![Zu]
   exact Kp.refl
 rintro _ M29 ⟨rfl,K29⟩
 have KK:=K28.trans K29
 have r29:=KK.get r27
 have B29:=KK.bag B27
 have l29:=KK.1
 simp![r29]
 have r30:(M29 ++ [SO.lst [D.tup [D.int 0,D.int 1]]])[o3]?=some (.lst (prs rs)):=by rw[Zbk (ZM r29)];exact r29
 simp![r30]
 refine ⟨by omega,?_⟩
 have f5:List.replicate rs.length (D.tup [D.int 0,D.int 1])=rts (List.replicate rs.length 0):=by
  show _=(List.replicate rs.length (0:Rat)).map rt
  rw[List.map_replicate]
  rfl
 rw[f5]
 have K31:Kp M29 (M29 ++ [SO.lst [D.tup [D.int 0,D.int 1]],SO.lst (rts (List.replicate rs.length 0))]):=Kp.app
 have w31:(M29 ++ [SO.lst [D.tup [D.int 0,D.int 1]],SO.lst (rts (List.replicate rs.length 0))])[M29.length + 1]?=some (.lst (rts (List.replicate rs.length 0))):=by rw[Zk8];rfl
 generalize M29 ++ [SO.lst [D.tup [D.int 0,D.int 1]],SO.lst (rts (List.replicate rs.length 0))]=M31 at *
 have r31:=K31.get r29
 have B31:=K31.bag B29
 have nl29:=B29.lt
 have l31:=K31.1
 refine ZaB B31 (by decide) fun t5 M32 t50 t51 g32=> ?_
 simp![Zu]
 refine ZaB g32.bag (by decide) fun t2 M33 t20 t21 g33=> ?_
 have r33:=CA.Gr.up (CA.Gr.up r31 g32 (by omega)) g33 (by omega)
 have w33:=CA.Gr.up (CA.Gr.up w31 g32 (by omega)) g33 (by omega)
 simp![r33]
 refine ZaB g33.bag (by omega) fun pp M34 p0 p1 g34=> ?_
 have r34:=CA.Gr.up r33 g34 (by omega)
 have w34:=CA.Gr.up w33 g34 (by omega)
 have lw:=ZM w34
 obtain ⟨pp,rfl⟩: ∃ k:Nat,pp=k:=⟨pp.toNat,by omega⟩
 obtain ⟨q,hq,q0,qz⟩: ∃ q:Rat,D.tup [D.int (-1 - t5),D.int (1 + t2 * 6)]=rt q/\q < 0/\Sz 10 q:=by
  have h5:t5=0\/t5=1\/t5=2\/t5=3\/t5=4:=by omega
  have h2:t2=0\/t2=1:=by omega
  rcases h5 with rfl | rfl | rfl | rfl | rfl<;>rcases h2 with rfl | rfl
  ·exact ⟨⟨-1,1,by decide,by decide⟩,rfl,by decide,⟨by decide,by decide⟩⟩
  ·exact ⟨⟨-1,7,by decide,by decide⟩,rfl,by decide,⟨by decide,by decide⟩⟩
  ·exact ⟨⟨-2,1,by decide,by decide⟩,rfl,by decide,⟨by decide,by decide⟩⟩
  ·exact ⟨⟨-2,7,by decide,by decide⟩,rfl,by decide,⟨by decide,by decide⟩⟩
  ·exact ⟨⟨-3,1,by decide,by decide⟩,rfl,by decide,⟨by decide,by decide⟩⟩
  ·exact ⟨⟨-3,7,by decide,by decide⟩,rfl,by decide,⟨by decide,by decide⟩⟩
  ·exact ⟨⟨-4,1,by decide,by decide⟩,rfl,by decide,⟨by decide,by decide⟩⟩
  ·exact ⟨⟨-4,7,by decide,by decide⟩,rfl,by decide,⟨by decide,by decide⟩⟩
  ·exact ⟨⟨-5,1,by decide,by decide⟩,rfl,by decide,⟨by decide,by decide⟩⟩
  ·exact ⟨⟨-5,7,by decide,by decide⟩,rfl,by decide,⟨by decide,by decide⟩⟩
 rw[hq]
 simp![w34,ZF,List.length_replicate,ZmW]
 have f6:(rts (List.replicate rs.length 0)).set pp (rt q)=rts ((List.replicate rs.length 0).set pp q):=by unfold rts;rw[List.map_set]
 rw[f6]
 have r35:(List.set M34 (M29.length + 1) (SO.lst (rts ((List.replicate rs.length 0).set pp q))))[o3]?=some (.lst (prs rs)):=by rw[List.getElem?_set_ne (by have:=ZM r29;omega)];exact r34
 have w35:(List.set M34 (M29.length + 1) (SO.lst (rts ((List.replicate rs.length 0).set pp q))))[M29.length + 1]?=some (.lst (rts ((List.replicate rs.length 0).set pp q))):=List.getElem?_set_self lw
 generalize List.set M34 (M29.length + 1) (SO.lst (rts ((List.replicate rs.length 0).set pp q)))=M35 at *
 have low:=Zno (rs:=rs) (p:=pp) q0 rfl (by omega) (by omega)
 have lz: ∀ x∈(List.replicate rs.length (0:Rat)).set pp q,Sz 10 x:=fun x hx=>by
  rcases List.mem_or_eq_of_mem_set hx with hx | rfl
  ·rw[List.eq_of_mem_replicate hx]
   exact ⟨by decide,by decide⟩
  ·exact qz
 have ll:((List.replicate rs.length (0:Rat)).set pp q).length=rs.length:=by simp
 generalize (List.replicate rs.length (0:Rat)).set pp q=low' at *
 have K36:Kp M35 (M35 ++ [SO.lst [D.fn (PySem.Str.ofString "corners"),D.fn (PySem.Str.ofString "dots_by_crossing")]]):=Kp.app
 have t36:(M35 ++ [SO.lst [D.fn (PySem.Str.ofString "corners"),D.fn (PySem.Str.ofString "dots_by_crossing")]])[M35.length]?=some (.lst [D.fn (PySem.Str.ofString "corners"),D.fn (PySem.Str.ofString "dots_by_crossing")]):=by rw[Zdx];rfl
 generalize M35 ++ [SO.lst [D.fn (PySem.Str.ofString "corners"),D.fn (PySem.Str.ofString "dots_by_crossing")]]=M36 at *
 refine ZiO (fun t ρ M'=>Kp M36 M'/\ ∃ y',ρ=[some (.rol (ns.map D.int)),some (.int i),some (.ref n),some (.ref p),some (.ref M1.length),some (.ref o3),some (.ref o4),some (.int mn),some (.ref ms),some (.int ot),some (.ref M22.length),y,some (.ref M26.length),some (.ref (M29.length + 1)),y']) t36 ⟨Kp.refl,_,rfl⟩ (fun t ρ M' hI=>hI.1.get t36) ?_ ?_
 ·rintro t ρ M37 ht ⟨K,y',rfl⟩
  have g1:=(K36.trans K).get r35
  have g2:=(K36.trans K).get w35
  have g2':(M37 ++ [SO.lst (prs rs)])[M29.length + 1]?=some (.lst (rts low')):=by rw[Zbk (ZM g2)];exact g2
  have K3:Kp M37 (M37 ++ [SO.lst (prs rs),SO.lst (rts low')]):=Kp.app
  have v1:(M37 ++ [SO.lst (prs rs),SO.lst (rts low')])[M37.length]?=some (.lst (prs rs)):=by rw[Zdx];rfl
  have v2:(M37 ++ [SO.lst (prs rs),SO.lst (rts low')])[M37.length + 1]?=some (.lst (rts low')):=by rw[Zk8];rfl
  have cb:=ZfB v1 sm (by omega) rn v2 ll lz (by omega) low
  have:t=0\/t=1:=by simp at ht;omega
  rcases this with rfl | rfl
  ·simp only[List.getElem_cons_zero]
   simp![ZeF,g1]
   simp![g2']
   refine ZbQ (F:=F_corners) (j:=0) rfl rfl (.inr (.inr ⟨rfl,rfl⟩)) cb.1 fun M38 K38=> ?_
   simp![Zu]
   exact ⟨(K.trans K3).trans K38,_,rfl⟩
  ·simp only[List.getElem_cons_succ,List.getElem_cons_zero]
   simp![ZeF,g1]
   simp![g2']
   refine ZbQ (F:=F_dots_by_crossing) (j:=0) rfl rfl (.inr (.inr ⟨rfl,rfl⟩)) cb.2 fun M38 K38=> ?_
   simp![Zu]
   exact ⟨(K.trans K3).trans K38,_,rfl⟩
 ·rintro ρ M37 ⟨K,y',rfl⟩
  exact hN _ _ _ _ _ _ _ _ _ _ _ _ _ _
theorem law_true (ns:List Int) (h:ns.length<=63): ∃ M',Zgq [.rol (ns.map D.int)] []= .ok (.bl true) M':=by
 have w:wO (Zgq [.rol (ns.map D.int)] []) (fun d _=>d= .bl true) (fun _ _=>False):=by
  simp![Zgq,Zqb]
  refine ⟨by omega,?_⟩
  refine Zff (fun _ ρ _=> ∃ x1 x2 x3 x4 x5 x6 x7 x8 x9 x10 x11 x12 x13 x14,ρ=[some (.rol (ns.map D.int)),x1,x2,x3,x4,x5,x6,x7,x8,x9,x10,x11,x12,x13,x14]) ⟨_,_,_,_,_,_,_,_,_,_,_,_,_,_,rfl⟩ ?_ ?_
  ·rintro i ρ M hi ⟨x1,x2,x3,x4,x5,x6,x7,x8,x9,x10,x11,x12,x13,x14,rfl⟩
   rw[show (0:Int) + (i:Int)=i by omega]
   simp![Zu]
   exact Znp (by omega) fun _ _ _ _ _ _ _ _ _ _ _ _ _ _=>⟨_,_,_,_,_,_,_,_,_,_,_,_,_,_,rfl⟩
  ·rintro ρ M ⟨x1,x2,x3,x4,x5,x6,x7,x8,x9,x10,x11,x12,x13,x14,rfl⟩
   simp![Zu]
 obtain ⟨d,M',e,rfl⟩:=ZoP w
 exact ⟨M',e⟩
end
end K51
end
namespace K51
open PySem PySem.Spec L2 DL
noncomputable abbrev zz1 (P:Params) (s:String) (n:Nat) (v:Value):DictEntry:={ hash:=PyData.keyHash P (Str.ofString s),key:=Value.str (Str.ofString s) n,val:=v }
noncomputable abbrev zz2 (x:Array Value):Obj:={ cls:=Value.type "code",data:=Data.fields x }
noncomputable abbrev zz3 (s:String) (n:Nat):Value:=Value.str (Str.ofString s) n
noncomputable abbrev zz4 (n:Int):Value:=Value.int n 0
noncomputable def fO (n:Str) (st:Stmt) (cd:Nat) (m:Str) (t:Nat):Obj:=⟨.type "function",none,.func (PySem.W.fnOf n n (Zo st) (Zn st) (Zi st) .none .none .none (.str m t) none (.ref cd) .none),#[]⟩
noncomputable def Zbe (p:Program) (i:Nat):Stmt:=p.main.body.getD i (.Pass ⟨0,0,0,0⟩)
noncomputable def Kf (p:Program) (P:Params):PySem.W.Frag:=[(3,{ cls:=Value.type "dict",data:=Data.dict #[zz1 P "__name__" 165 (zz3 "law_rayround_k51_no_dots_no_corners" 774),zz1 P "__doc__" 166 (Value.none),zz1 P "__package__" 167 (Value.none),zz1 P "__loader__" 168 (Value.builtin "__main__.__loader__#opaque"),zz1 P "__spec__" 169 (Value.none),zz1 P "__annotations__" 170 (Value.ref 6),zz1 P "__builtins__" 171 (Value.ref 4),zz1 P "__file__" 173 (zz3 "/claim/cut.py" 172),zz1 P "__cached__" 174 (Value.none),zz1 P "RayError" 206 (Value.ref 24),zz1 P "NoRatio" 222 (Value.ref 37),zz1 P "NoTurning" 238 (Value.ref 49),zz1 P "NoRound" 265 (Value.ref 68),zz1 P "NotSmooth" 281 (Value.ref 80),zz1 P "NoWedge" 297 (Value.ref 92),zz1 P "NoRow" 313 (Value.ref 104),zz1 P "NoPlace" 329 (Value.ref 116),zz1 P "NoMinus" 345 (Value.ref 128),zz1 P "NoFour" 361 (Value.ref 140),zz1 P "NoHeight" 377 (Value.ref 152),zz1 P "NoBend" 393 (Value.ref 164),zz1 P "NoBody" 409 (Value.ref 176),zz1 P "NoOne" 425 (Value.ref 188),zz1 P "NoText" 441 (Value.ref 200),zz1 P "Unknown" 457 (Value.ref 212),zz1 P "is_whole" 466 (Value.ref 221),zz1 P "greatest_divisor" 476 (Value.ref 228),zz1 P "crossed" 486 (Value.ref 235),zz1 P "product" 494 (Value.ref 242),zz1 P "following" 504 (Value.ref 249),zz1 P "unspanned" 513 (Value.ref 256),zz1 P "ask_smooth" 521 (Value.ref 263),zz1 P "numbers" 529 (Value.ref 268),zz1 P "ratio" 540 (Value.ref 275),zz1 P "plus" 548 (Value.ref 282),zz1 P "minus" 556 (Value.ref 289),zz1 P "times" 564 (Value.ref 296),zz1 P "less" 572 (Value.ref 303),zz1 P "greatest" 581 (Value.ref 310),zz1 P "common_bottom" 590 (Value.ref 317),zz1 P "stretched" 598 (Value.ref 324),zz1 P "ask_height" 608 (Value.ref 331),zz1 P "bends" 621 (Value.ref 338),zz1 P "crossing" 634 (Value.ref 345),zz1 P "sloped" 642 (Value.ref 352),zz1 P "slope_through" 656 (Value.ref 359),zz1 P "bends_inwards" 664 (Value.ref 364),zz1 P "contrary" 671 (Value.ref 371),zz1 P "corners" 683 (Value.ref 378),zz1 P "height_of" 689 (Value.ref 383),zz1 P "edge" 697 (Value.ref 388),zz1 P "in_order" 703 (Value.ref 393),zz1 P "body" 714 (Value.ref 400),zz1 P "width" 722 (Value.ref 405),zz1 P "lessened" 731 (Value.ref 412),zz1 P "least_wide" 745 (Value.ref 419),zz1 P "two_ways" 755 (Value.ref 426),zz1 P "dots_across" 761 (Value.ref 431),zz1 P "dots" 767 (Value.ref 436),zz1 P "dots_by_crossing" 773 (Value.ref 441),zz1 P "_law_purse" 785 (Value.ref 448),zz1 P "_law_take" 794 (Value.ref 455),zz1 P "_law_short_put" 803 (Value.ref 462),zz1 P "_law_base" 809 (Value.ref 467),zz1 P "_law_table" 815 (Value.ref 472),zz1 P "_law_spun" 821 (Value.ref 477),zz1 P "_law_bends" 835 (Value.ref 484),zz1 P "_law_only" 841 (Value.ref 489),zz1 P "_law_refused" 851 (Value.ref 496),zz1 P "_law_all" 861 (Value.ref 503),zz1 P "law" 867 (Value.ref 508)] 71 }),
 (221,fO "is_whole" (Zbe p 18) 220 "rayround.wholes" 458),
 (220,zz2 #[zz3 "is_whole" 460,zz3 "is_whole" 461,zz3 "/claim/cut.py" 462,zz4 39,zz4 1,zz4 0,zz4 0,zz4 3,Value.ref 215,Value.bool true,zz4 181,Value.ref 216,Value.none,Value.ref 217,Value.ref 218,Value.ref 219,zz4 464,zz4 39,zz3 "/claim/cut.py" 465]),
 (228,fO "greatest_divisor" (Zbe p 19) 227 "rayround.wholes" 458),
 (227,zz2 #[zz3 "greatest_divisor" 467,zz3 "greatest_divisor" 468,zz3 "/claim/cut.py" 469,zz4 41,zz4 2,zz4 0,zz4 0,zz4 3,Value.ref 222,Value.bool true,zz4 181,Value.ref 223,Value.none,Value.ref 224,Value.ref 225,Value.ref 226,zz4 474,zz4 41,zz3 "/claim/cut.py" 475]),
 (235,fO "crossed" (Zbe p 21) 234 "rayround.pairs" 477),
 (234,zz2 #[zz3 "crossed" 479,zz3 "crossed" 480,zz3 "/claim/cut.py" 481,zz4 47,zz4 2,zz4 0,zz4 0,zz4 3,Value.ref 229,Value.bool true,zz4 181,Value.ref 230,Value.none,Value.ref 231,Value.ref 232,Value.ref 233,zz4 484,zz4 47,zz3 "/claim/cut.py" 485]),
 (242,fO "product" (Zbe p 22) 241 "rayround.pairs" 477),
 (241,zz2 #[zz3 "product" 487,zz3 "product" 488,zz3 "/claim/cut.py" 489,zz4 49,zz4 2,zz4 0,zz4 0,zz4 3,Value.ref 236,Value.bool true,zz4 181,Value.ref 237,Value.none,Value.ref 238,Value.ref 239,Value.ref 240,zz4 492,zz4 49,zz3 "/claim/cut.py" 493]),
 (249,fO "following" (Zbe p 24) 248 "rayround.rounds" 495),
 (248,zz2 #[zz3 "following" 497,zz3 "following" 498,zz3 "/claim/cut.py" 499,zz4 52,zz4 2,zz4 0,zz4 0,zz4 3,Value.ref 243,Value.bool true,zz4 181,Value.ref 244,Value.none,Value.ref 245,Value.ref 246,Value.ref 247,zz4 502,zz4 52,zz3 "/claim/cut.py" 503]),
 (256,fO "unspanned" (Zbe p 25) 255 "rayround.rounds" 495),
 (255,zz2 #[zz3 "unspanned" 505,zz3 "unspanned" 506,zz3 "/claim/cut.py" 507,zz4 54,zz4 1,zz4 0,zz4 0,zz4 3,Value.ref 250,Value.bool true,zz4 181,Value.ref 251,Value.none,Value.ref 252,Value.ref 253,Value.ref 254,zz4 511,zz4 54,zz3 "/claim/cut.py" 512]),
 (263,fO "ask_smooth" (Zbe p 26) 262 "rayround.rounds" 495),
 (262,zz2 #[zz3 "ask_smooth" 514,zz3 "ask_smooth" 515,zz3 "/claim/cut.py" 516,zz4 59,zz4 1,zz4 0,zz4 0,zz4 3,Value.ref 257,Value.bool true,zz4 181,Value.ref 258,Value.none,Value.ref 259,Value.ref 260,Value.ref 261,zz4 519,zz4 59,zz3 "/claim/cut.py" 520]),
 (268,fO "numbers" (Zbe p 28) 267 "rayround.numbers" 522),
 (267,zz2 #[zz3 "numbers" 524,zz3 "numbers" 525,zz3 "/claim/cut.py" 526,zz4 64,zz4 1,zz4 0,zz4 0,zz4 3,Value.ref 264,Value.bool true,zz4 181,Value.ref 265,Value.none,Value.none,Value.none,Value.ref 266,zz4 527,zz4 64,zz3 "/claim/cut.py" 528]),
 (275,fO "ratio" (Zbe p 30) 274 "rayround.ratios" 530),
 (274,zz2 #[zz3 "ratio" 532,zz3 "ratio" 533,zz3 "/claim/cut.py" 534,zz4 68,zz4 2,zz4 0,zz4 0,zz4 3,Value.ref 269,Value.bool true,zz4 181,Value.ref 270,Value.none,Value.ref 271,Value.ref 272,Value.ref 273,zz4 538,zz4 68,zz3 "/claim/cut.py" 539]),
 (282,fO "plus" (Zbe p 31) 281 "rayround.ratios" 530),
 (281,zz2 #[zz3 "plus" 541,zz3 "plus" 542,zz3 "/claim/cut.py" 543,zz4 77,zz4 2,zz4 0,zz4 0,zz4 3,Value.ref 276,Value.bool true,zz4 181,Value.ref 277,Value.none,Value.ref 278,Value.ref 279,Value.ref 280,zz4 546,zz4 77,zz3 "/claim/cut.py" 547]),
 (289,fO "minus" (Zbe p 32) 288 "rayround.ratios" 530),
 (288,zz2 #[zz3 "minus" 549,zz3 "minus" 550,zz3 "/claim/cut.py" 551,zz4 79,zz4 2,zz4 0,zz4 0,zz4 3,Value.ref 283,Value.bool true,zz4 181,Value.ref 284,Value.none,Value.ref 285,Value.ref 286,Value.ref 287,zz4 554,zz4 79,zz3 "/claim/cut.py" 555]),
 (296,fO "times" (Zbe p 33) 295 "rayround.ratios" 530),
 (295,zz2 #[zz3 "times" 557,zz3 "times" 558,zz3 "/claim/cut.py" 559,zz4 81,zz4 2,zz4 0,zz4 0,zz4 3,Value.ref 290,Value.bool true,zz4 181,Value.ref 291,Value.none,Value.ref 292,Value.ref 293,Value.ref 294,zz4 562,zz4 81,zz3 "/claim/cut.py" 563]),
 (303,fO "less" (Zbe p 34) 302 "rayround.ratios" 530),
 (302,zz2 #[zz3 "less" 565,zz3 "less" 566,zz3 "/claim/cut.py" 567,zz4 83,zz4 2,zz4 0,zz4 0,zz4 3,Value.ref 297,Value.bool true,zz4 181,Value.ref 298,Value.none,Value.ref 299,Value.ref 300,Value.ref 301,zz4 570,zz4 83,zz3 "/claim/cut.py" 571]),
 (310,fO "greatest" (Zbe p 35) 309 "rayround.ratios" 530),
 (309,zz2 #[zz3 "greatest" 573,zz3 "greatest" 574,zz3 "/claim/cut.py" 575,zz4 85,zz4 1,zz4 0,zz4 0,zz4 3,Value.ref 304,Value.bool true,zz4 181,Value.ref 305,Value.none,Value.ref 306,Value.ref 307,Value.ref 308,zz4 579,zz4 85,zz3 "/claim/cut.py" 580]),
 (317,fO "common_bottom" (Zbe p 36) 316 "rayround.ratios" 530),
 (316,zz2 #[zz3 "common_bottom" 582,zz3 "common_bottom" 583,zz3 "/claim/cut.py" 584,zz4 91,zz4 1,zz4 0,zz4 0,zz4 3,Value.ref 311,Value.bool true,zz4 181,Value.ref 312,Value.none,Value.ref 313,Value.ref 314,Value.ref 315,zz4 588,zz4 91,zz3 "/claim/cut.py" 589]),
 (324,fO "stretched" (Zbe p 37) 323 "rayround.ratios" 530),
 (323,zz2 #[zz3 "stretched" 591,zz3 "stretched" 592,zz3 "/claim/cut.py" 593,zz4 96,zz4 2,zz4 0,zz4 0,zz4 3,Value.ref 318,Value.bool true,zz4 181,Value.ref 319,Value.none,Value.ref 320,Value.ref 321,Value.ref 322,zz4 596,zz4 96,zz3 "/claim/cut.py" 597]),
 (331,fO "ask_height" (Zbe p 39) 330 "rayround.heights" 599),
 (330,zz2 #[zz3 "ask_height" 601,zz3 "ask_height" 602,zz3 "/claim/cut.py" 603,zz4 99,zz4 2,zz4 0,zz4 0,zz4 3,Value.ref 325,Value.bool true,zz4 181,Value.ref 326,Value.none,Value.ref 327,Value.ref 328,Value.ref 329,zz4 606,zz4 99,zz3 "/claim/cut.py" 607]),
 (338,fO "bends" (Zbe p 40) 337 "rayround.heights" 599),
 (337,zz2 #[zz3 "bends" 609,zz3 "bends" 610,zz3 "/claim/cut.py" 611,zz4 102,zz4 2,zz4 0,zz4 0,zz4 3,Value.ref 332,Value.bool true,zz4 181,Value.ref 333,Value.none,Value.ref 334,Value.ref 335,Value.ref 336,zz4 619,zz4 102,zz3 "/claim/cut.py" 620]),
 (345,fO "crossing" (Zbe p 41) 344 "rayround.heights" 599),
 (344,zz2 #[zz3 "crossing" 622,zz3 "crossing" 623,zz3 "/claim/cut.py" 624,zz4 110,zz4 3,zz4 0,zz4 0,zz4 3,Value.ref 339,Value.bool true,zz4 181,Value.ref 340,Value.none,Value.ref 341,Value.ref 342,Value.ref 343,zz4 632,zz4 110,zz3 "/claim/cut.py" 633]),
 (352,fO "sloped" (Zbe p 42) 351 "rayround.heights" 599),
 (351,zz2 #[zz3 "sloped" 635,zz3 "sloped" 636,zz3 "/claim/cut.py" 637,zz4 117,zz4 2,zz4 0,zz4 0,zz4 3,Value.ref 346,Value.bool true,zz4 181,Value.ref 347,Value.none,Value.ref 348,Value.ref 349,Value.ref 350,zz4 640,zz4 117,zz3 "/claim/cut.py" 641]),
 (359,fO "slope_through" (Zbe p 43) 358 "rayround.heights" 599),
 (358,zz2 #[zz3 "slope_through" 643,zz3 "slope_through" 644,zz3 "/claim/cut.py" 645,zz4 119,zz4 2,zz4 0,zz4 0,zz4 3,Value.ref 353,Value.bool true,zz4 181,Value.ref 354,Value.none,Value.ref 355,Value.ref 356,Value.ref 357,zz4 654,zz4 119,zz3 "/claim/cut.py" 655]),
 (364,fO "bends_inwards" (Zbe p 45) 363 "rayround.corners" 657),
 (363,zz2 #[zz3 "bends_inwards" 659,zz3 "bends_inwards" 660,zz3 "/claim/cut.py" 661,zz4 124,zz4 2,zz4 0,zz4 0,zz4 3,Value.ref 360,Value.bool true,zz4 181,Value.ref 361,Value.none,Value.none,Value.none,Value.ref 362,zz4 662,zz4 124,zz3 "/claim/cut.py" 663]),
 (371,fO "contrary" (Zbe p 46) 370 "rayround.corners" 657),
 (370,zz2 #[zz3 "contrary" 665,zz3 "contrary" 666,zz3 "/claim/cut.py" 667,zz4 126,zz4 1,zz4 0,zz4 0,zz4 3,Value.ref 365,Value.bool true,zz4 181,Value.ref 366,Value.none,Value.ref 367,Value.ref 368,Value.ref 369,zz4 669,zz4 126,zz3 "/claim/cut.py" 670]),
 (378,fO "corners" (Zbe p 47) 377 "rayround.corners" 657),
 (377,zz2 #[zz3 "corners" 672,zz3 "corners" 673,zz3 "/claim/cut.py" 674,zz4 128,zz4 2,zz4 0,zz4 0,zz4 3,Value.ref 372,Value.bool true,zz4 181,Value.ref 373,Value.none,Value.ref 374,Value.ref 375,Value.ref 376,zz4 681,zz4 128,zz3 "/claim/cut.py" 682]),
 (383,fO "height_of" (Zbe p 48) 382 "rayround.corners" 657),
 (382,zz2 #[zz3 "height_of" 684,zz3 "height_of" 685,zz3 "/claim/cut.py" 686,zz4 136,zz4 2,zz4 0,zz4 0,zz4 3,Value.ref 379,Value.bool true,zz4 181,Value.ref 380,Value.none,Value.none,Value.none,Value.ref 381,zz4 687,zz4 136,zz3 "/claim/cut.py" 688]),
 (388,fO "edge" (Zbe p 50) 387 "rayround.bodies" 690),
 (387,zz2 #[zz3 "edge" 692,zz3 "edge" 693,zz3 "/claim/cut.py" 694,zz4 140,zz4 3,zz4 0,zz4 0,zz4 3,Value.ref 384,Value.bool true,zz4 181,Value.ref 385,Value.none,Value.none,Value.none,Value.ref 386,zz4 695,zz4 140,zz3 "/claim/cut.py" 696]),
 (393,fO "in_order" (Zbe p 51) 392 "rayround.bodies" 690),
 (392,zz2 #[zz3 "in_order" 698,zz3 "in_order" 699,zz3 "/claim/cut.py" 700,zz4 157,zz4 1,zz4 0,zz4 0,zz4 3,Value.ref 389,Value.bool true,zz4 181,Value.ref 390,Value.none,Value.none,Value.none,Value.ref 391,zz4 701,zz4 157,zz3 "/claim/cut.py" 702]),
 (400,fO "body" (Zbe p 52) 399 "rayround.bodies" 690),
 (399,zz2 #[zz3 "body" 704,zz3 "body" 705,zz3 "/claim/cut.py" 706,zz4 160,zz4 2,zz4 0,zz4 0,zz4 3,Value.ref 394,Value.bool true,zz4 181,Value.ref 395,Value.none,Value.ref 396,Value.ref 397,Value.ref 398,zz4 712,zz4 160,zz3 "/claim/cut.py" 713]),
 (405,fO "width" (Zbe p 54) 404 "rayround.dots" 715),
 (404,zz2 #[zz3 "width" 717,zz3 "width" 718,zz3 "/claim/cut.py" 719,zz4 169,zz4 2,zz4 0,zz4 0,zz4 3,Value.ref 401,Value.bool true,zz4 181,Value.ref 402,Value.none,Value.none,Value.none,Value.ref 403,zz4 720,zz4 169,zz3 "/claim/cut.py" 721]),
 (412,fO "lessened" (Zbe p 55) 411 "rayround.dots" 715),
 (411,zz2 #[zz3 "lessened" 723,zz3 "lessened" 724,zz3 "/claim/cut.py" 725,zz4 172,zz4 3,zz4 0,zz4 0,zz4 3,Value.ref 406,Value.bool true,zz4 181,Value.ref 407,Value.none,Value.ref 408,Value.ref 409,Value.ref 410,zz4 729,zz4 172,zz3 "/claim/cut.py" 730]),
 (419,fO "least_wide" (Zbe p 56) 418 "rayround.dots" 715),
 (418,zz2 #[zz3 "least_wide" 732,zz3 "least_wide" 733,zz3 "/claim/cut.py" 734,zz4 174,zz4 3,zz4 0,zz4 0,zz4 3,Value.ref 413,Value.bool true,zz4 181,Value.ref 414,Value.none,Value.ref 415,Value.ref 416,Value.ref 417,zz4 743,zz4 174,zz3 "/claim/cut.py" 744]),
 (426,fO "two_ways" (Zbe p 57) 425 "rayround.dots" 715),
 (425,zz2 #[zz3 "two_ways" 746,zz3 "two_ways" 747,zz3 "/claim/cut.py" 748,zz4 185,zz4 1,zz4 0,zz4 0,zz4 3,Value.ref 420,Value.bool true,zz4 181,Value.ref 421,Value.none,Value.ref 422,Value.ref 423,Value.ref 424,zz4 753,zz4 185,zz3 "/claim/cut.py" 754]),
 (431,fO "dots_across" (Zbe p 58) 430 "rayround.dots" 715),
 (430,zz2 #[zz3 "dots_across" 756,zz3 "dots_across" 757,zz3 "/claim/cut.py" 758,zz4 196,zz4 4,zz4 0,zz4 0,zz4 3,Value.ref 427,Value.bool true,zz4 181,Value.ref 428,Value.none,Value.none,Value.none,Value.ref 429,zz4 759,zz4 196,zz3 "/claim/cut.py" 760]),
 (436,fO "dots" (Zbe p 59) 435 "rayround.dots" 715),
 (435,zz2 #[zz3 "dots" 762,zz3 "dots" 763,zz3 "/claim/cut.py" 764,zz4 207,zz4 2,zz4 0,zz4 0,zz4 3,Value.ref 432,Value.bool true,zz4 181,Value.ref 433,Value.none,Value.none,Value.none,Value.ref 434,zz4 765,zz4 207,zz3 "/claim/cut.py" 766]),
 (441,fO "dots_by_crossing" (Zbe p 60) 440 "rayround.dots" 715),
 (440,zz2 #[zz3 "dots_by_crossing" 768,zz3 "dots_by_crossing" 769,zz3 "/claim/cut.py" 770,zz4 219,zz4 2,zz4 0,zz4 0,zz4 3,Value.ref 437,Value.bool true,zz4 181,Value.ref 438,Value.none,Value.none,Value.none,Value.ref 439,zz4 771,zz4 219,zz3 "/claim/cut.py" 772]),
 (448,fO "_law_purse" (Zbe p 62) 447 "law_rayround_k51_no_dots_no_corners" 774),
 (447,zz2 #[zz3 "_law_purse" 776,zz3 "_law_purse" 777,zz3 "/claim/cut.py" 778,zz4 226,zz4 2,zz4 0,zz4 0,zz4 3,Value.ref 442,Value.bool true,zz4 181,Value.ref 443,Value.none,Value.ref 444,Value.ref 445,Value.ref 446,zz4 783,zz4 226,zz3 "/claim/cut.py" 784]),
 (455,fO "_law_take" (Zbe p 63) 454 "law_rayround_k51_no_dots_no_corners" 774),
 (454,zz2 #[zz3 "_law_take" 786,zz3 "_law_take" 787,zz3 "/claim/cut.py" 788,zz4 232,zz4 2,zz4 0,zz4 0,zz4 3,Value.ref 449,Value.bool true,zz4 181,Value.ref 450,Value.none,Value.ref 451,Value.ref 452,Value.ref 453,zz4 792,zz4 232,zz3 "/claim/cut.py" 793]),
 (462,fO "_law_short_put" (Zbe p 64) 461 "law_rayround_k51_no_dots_no_corners" 774),
 (461,zz2 #[zz3 "_law_short_put" 795,zz3 "_law_short_put" 796,zz3 "/claim/cut.py" 797,zz4 239,zz4 2,zz4 0,zz4 0,zz4 3,Value.ref 456,Value.bool true,zz4 181,Value.ref 457,Value.none,Value.ref 458,Value.ref 459,Value.ref 460,zz4 801,zz4 239,zz3 "/claim/cut.py" 802]),
 (467,fO "_law_base" (Zbe p 65) 466 "law_rayround_k51_no_dots_no_corners" 774),
 (466,zz2 #[zz3 "_law_base" 804,zz3 "_law_base" 805,zz3 "/claim/cut.py" 806,zz4 242,zz4 2,zz4 0,zz4 0,zz4 3,Value.ref 463,Value.bool true,zz4 181,Value.ref 464,Value.none,Value.none,Value.none,Value.ref 465,zz4 807,zz4 242,zz3 "/claim/cut.py" 808]),
 (472,fO "_law_table" (Zbe p 66) 471 "law_rayround_k51_no_dots_no_corners" 774),
 (471,zz2 #[zz3 "_law_table" 810,zz3 "_law_table" 811,zz3 "/claim/cut.py" 812,zz4 251,zz4 1,zz4 0,zz4 0,zz4 3,Value.ref 468,Value.bool true,zz4 181,Value.ref 469,Value.none,Value.none,Value.none,Value.ref 470,zz4 813,zz4 251,zz3 "/claim/cut.py" 814]),
 (477,fO "_law_spun" (Zbe p 67) 476 "law_rayround_k51_no_dots_no_corners" 774),
 (476,zz2 #[zz3 "_law_spun" 816,zz3 "_law_spun" 817,zz3 "/claim/cut.py" 818,zz4 264,zz4 4,zz4 0,zz4 0,zz4 3,Value.ref 473,Value.bool true,zz4 181,Value.ref 474,Value.none,Value.none,Value.none,Value.ref 475,zz4 819,zz4 264,zz3 "/claim/cut.py" 820]),
 (484,fO "_law_bends" (Zbe p 68) 483 "law_rayround_k51_no_dots_no_corners" 774),
 (483,zz2 #[zz3 "_law_bends" 822,zz3 "_law_bends" 823,zz3 "/claim/cut.py" 824,zz4 270,zz4 2,zz4 0,zz4 0,zz4 3,Value.ref 478,Value.bool true,zz4 181,Value.ref 479,Value.none,Value.ref 480,Value.ref 481,Value.ref 482,zz4 833,zz4 270,zz3 "/claim/cut.py" 834]),
 (489,fO "_law_only" (Zbe p 69) 488 "law_rayround_k51_no_dots_no_corners" 774),
 (488,zz2 #[zz3 "_law_only" 836,zz3 "_law_only" 837,zz3 "/claim/cut.py" 838,zz4 278,zz4 2,zz4 0,zz4 0,zz4 3,Value.ref 485,Value.bool true,zz4 181,Value.ref 486,Value.none,Value.none,Value.none,Value.ref 487,zz4 839,zz4 278,zz3 "/claim/cut.py" 840]),
 (496,fO "_law_refused" (Zbe p 70) 495 "law_rayround_k51_no_dots_no_corners" 774),
 (495,zz2 #[zz3 "_law_refused" 842,zz3 "_law_refused" 843,zz3 "/claim/cut.py" 844,zz4 281,zz4 3,zz4 0,zz4 0,zz4 3,Value.ref 490,Value.bool true,zz4 181,Value.ref 491,Value.none,Value.ref 492,Value.ref 493,Value.ref 494,zz4 849,zz4 281,zz3 "/claim/cut.py" 850]),
 (503,fO "_law_all" (Zbe p 71) 502 "law_rayround_k51_no_dots_no_corners" 774),
 (502,zz2 #[zz3 "_law_all" 852,zz3 "_law_all" 853,zz3 "/claim/cut.py" 854,zz4 287,zz4 3,zz4 0,zz4 0,zz4 3,Value.ref 497,Value.bool true,zz4 181,Value.ref 498,Value.none,Value.ref 499,Value.ref 500,Value.ref 501,zz4 859,zz4 287,zz3 "/claim/cut.py" 860]),
 (508,fO "law" (Zbe p 72) 507 "law_rayround_k51_no_dots_no_corners" 774),
 (507,zz2 #[zz3 "law" 862,zz3 "law" 863,zz3 "/claim/cut.py" 864,zz4 292,zz4 1,zz4 0,zz4 0,zz4 3,Value.ref 504,Value.bool true,zz4 181,Value.ref 505,Value.none,Value.none,Value.none,Value.ref 506,zz4 865,zz4 292,zz3 "/claim/cut.py" 866]),
 (23,{ cls:=Value.type "dict",data:=Data.dict #[zz1 P "__module__" 196 (zz3 "rayround.errors" 187),zz1 P "__firstlineno__" 200 (Value.int 2 199),zz1 P "__static_attributes__" 201 (Value.ref 22),zz1 P "__weakref__" 203 (Value.ref 25),zz1 P "__doc__" 204 (Value.none)] 3 }),
 (24,{ cls:=Value.type "type",data:=Data.cls { name:=Str.ofString "RayError",bases:=[Value.type "ValueError"],mro:=[Value.ref 24,Value.type "ValueError",Value.type "Exception",Value.type "BaseException",Value.type "object"],ns:=23,qualname:=Str.ofString "RayError",subclasses:=[Value.ref 37,Value.ref 49,Value.ref 68,Value.ref 80,Value.ref 92,Value.ref 104,Value.ref 116,Value.ref 128,Value.ref 140,Value.ref 152,Value.ref 164,Value.ref 176,Value.ref 188,Value.ref 200,Value.ref 212] },slots:= #[some (Value.ref 15),none,some (zz3 "RayError" 189),some (zz3 "RayError" 197),some (Value.builtin "ValueError.__new__"),some (Value.bool true)] }),
 (36,{ cls:=Value.type "dict",data:=Data.dict #[zz1 P "__module__" 214 (zz3 "rayround.errors" 187),zz1 P "__firstlineno__" 218 (Value.int 4 217),zz1 P "__static_attributes__" 219 (Value.ref 35),zz1 P "__doc__" 220 (Value.none)] 2 }),
 (37,{ cls:=Value.type "type",data:=Data.cls { name:=Str.ofString "NoRatio",bases:=[Value.ref 24],mro:=[Value.ref 37,Value.ref 24,Value.type "ValueError",Value.type "Exception",Value.type "BaseException",Value.type "object"],ns:=36,qualname:=Str.ofString "NoRatio" },slots:= #[some (Value.ref 28),none,some (zz3 "NoRatio" 207),some (zz3 "NoRatio" 215),some (Value.builtin "ValueError.__new__"),some (Value.bool true)] }),
 (48,{ cls:=Value.type "dict",data:=Data.dict #[zz1 P "__module__" 230 (zz3 "rayround.errors" 187),zz1 P "__firstlineno__" 234 (Value.int 6 233),zz1 P "__static_attributes__" 235 (Value.ref 47),zz1 P "__doc__" 236 (Value.none)] 2 }),
 (49,{ cls:=Value.type "type",data:=Data.cls { name:=Str.ofString "NoTurning",bases:=[Value.ref 24],mro:=[Value.ref 49,Value.ref 24,Value.type "ValueError",Value.type "Exception",Value.type "BaseException",Value.type "object"],ns:=48,qualname:=Str.ofString "NoTurning" },slots:= #[some (Value.ref 40),none,some (zz3 "NoTurning" 223),some (zz3 "NoTurning" 231),some (Value.builtin "ValueError.__new__"),some (Value.bool true)] }),
 (67,{ cls:=Value.type "dict",data:=Data.dict #[zz1 P "__module__" 246 (zz3 "rayround.errors" 187),zz1 P "__firstlineno__" 250 (Value.int 8 249),zz1 P "__init__" 259 (Value.ref 65),zz1 P "__static_attributes__" 262 (Value.ref 66),zz1 P "__doc__" 263 (Value.none)] 2 }),
 (68,{ cls:=Value.type "type",data:=Data.cls { name:=Str.ofString "NoRound",bases:=[Value.ref 24],mro:=[Value.ref 68,Value.ref 24,Value.type "ValueError",Value.type "Exception",Value.type "BaseException",Value.type "object"],ns:=67,qualname:=Str.ofString "NoRound" },slots:= #[some (Value.ref 52),none,some (zz3 "NoRound" 239),some (zz3 "NoRound" 247),some (Value.builtin "ValueError.__new__"),some (Value.bool true)] }),
 (79,{ cls:=Value.type "dict",data:=Data.dict #[zz1 P "__module__" 273 (zz3 "rayround.errors" 187),zz1 P "__firstlineno__" 277 (Value.int 14 276),zz1 P "__static_attributes__" 278 (Value.ref 78),zz1 P "__doc__" 279 (Value.none)] 2 }),
 (80,{ cls:=Value.type "type",data:=Data.cls { name:=Str.ofString "NotSmooth",bases:=[Value.ref 24],mro:=[Value.ref 80,Value.ref 24,Value.type "ValueError",Value.type "Exception",Value.type "BaseException",Value.type "object"],ns:=79,qualname:=Str.ofString "NotSmooth" },slots:= #[some (Value.ref 71),none,some (zz3 "NotSmooth" 266),some (zz3 "NotSmooth" 274),some (Value.builtin "ValueError.__new__"),some (Value.bool true)] }),
 (91,{ cls:=Value.type "dict",data:=Data.dict #[zz1 P "__module__" 289 (zz3 "rayround.errors" 187),zz1 P "__firstlineno__" 293 (Value.int 16 292),zz1 P "__static_attributes__" 294 (Value.ref 90),zz1 P "__doc__" 295 (Value.none)] 2 }),
 (92,{ cls:=Value.type "type",data:=Data.cls { name:=Str.ofString "NoWedge",bases:=[Value.ref 24],mro:=[Value.ref 92,Value.ref 24,Value.type "ValueError",Value.type "Exception",Value.type "BaseException",Value.type "object"],ns:=91,qualname:=Str.ofString "NoWedge" },slots:= #[some (Value.ref 83),none,some (zz3 "NoWedge" 282),some (zz3 "NoWedge" 290),some (Value.builtin "ValueError.__new__"),some (Value.bool true)] }),
 (103,{ cls:=Value.type "dict",data:=Data.dict #[zz1 P "__module__" 305 (zz3 "rayround.errors" 187),zz1 P "__firstlineno__" 309 (Value.int 18 308),zz1 P "__static_attributes__" 310 (Value.ref 102),zz1 P "__doc__" 311 (Value.none)] 2 }),
 (104,{ cls:=Value.type "type",data:=Data.cls { name:=Str.ofString "NoRow",bases:=[Value.ref 24],mro:=[Value.ref 104,Value.ref 24,Value.type "ValueError",Value.type "Exception",Value.type "BaseException",Value.type "object"],ns:=103,qualname:=Str.ofString "NoRow" },slots:= #[some (Value.ref 95),none,some (zz3 "NoRow" 298),some (zz3 "NoRow" 306),some (Value.builtin "ValueError.__new__"),some (Value.bool true)] }),
 (115,{ cls:=Value.type "dict",data:=Data.dict #[zz1 P "__module__" 321 (zz3 "rayround.errors" 187),zz1 P "__firstlineno__" 325 (Value.int 20 324),zz1 P "__static_attributes__" 326 (Value.ref 114),zz1 P "__doc__" 327 (Value.none)] 2 }),
 (116,{ cls:=Value.type "type",data:=Data.cls { name:=Str.ofString "NoPlace",bases:=[Value.ref 24],mro:=[Value.ref 116,Value.ref 24,Value.type "ValueError",Value.type "Exception",Value.type "BaseException",Value.type "object"],ns:=115,qualname:=Str.ofString "NoPlace" },slots:= #[some (Value.ref 107),none,some (zz3 "NoPlace" 314),some (zz3 "NoPlace" 322),some (Value.builtin "ValueError.__new__"),some (Value.bool true)] }),
 (127,{ cls:=Value.type "dict",data:=Data.dict #[zz1 P "__module__" 337 (zz3 "rayround.errors" 187),zz1 P "__firstlineno__" 341 (Value.int 22 340),zz1 P "__static_attributes__" 342 (Value.ref 126),zz1 P "__doc__" 343 (Value.none)] 2 }),
 (128,{ cls:=Value.type "type",data:=Data.cls { name:=Str.ofString "NoMinus",bases:=[Value.ref 24],mro:=[Value.ref 128,Value.ref 24,Value.type "ValueError",Value.type "Exception",Value.type "BaseException",Value.type "object"],ns:=127,qualname:=Str.ofString "NoMinus" },slots:= #[some (Value.ref 119),none,some (zz3 "NoMinus" 330),some (zz3 "NoMinus" 338),some (Value.builtin "ValueError.__new__"),some (Value.bool true)] }),
 (139,{ cls:=Value.type "dict",data:=Data.dict #[zz1 P "__module__" 353 (zz3 "rayround.errors" 187),zz1 P "__firstlineno__" 357 (Value.int 24 356),zz1 P "__static_attributes__" 358 (Value.ref 138),zz1 P "__doc__" 359 (Value.none)] 2 }),
 (140,{ cls:=Value.type "type",data:=Data.cls { name:=Str.ofString "NoFour",bases:=[Value.ref 24],mro:=[Value.ref 140,Value.ref 24,Value.type "ValueError",Value.type "Exception",Value.type "BaseException",Value.type "object"],ns:=139,qualname:=Str.ofString "NoFour" },slots:= #[some (Value.ref 131),none,some (zz3 "NoFour" 346),some (zz3 "NoFour" 354),some (Value.builtin "ValueError.__new__"),some (Value.bool true)] }),
 (151,{ cls:=Value.type "dict",data:=Data.dict #[zz1 P "__module__" 369 (zz3 "rayround.errors" 187),zz1 P "__firstlineno__" 373 (Value.int 26 372),zz1 P "__static_attributes__" 374 (Value.ref 150),zz1 P "__doc__" 375 (Value.none)] 2 }),
 (152,{ cls:=Value.type "type",data:=Data.cls { name:=Str.ofString "NoHeight",bases:=[Value.ref 24],mro:=[Value.ref 152,Value.ref 24,Value.type "ValueError",Value.type "Exception",Value.type "BaseException",Value.type "object"],ns:=151,qualname:=Str.ofString "NoHeight" },slots:= #[some (Value.ref 143),none,some (zz3 "NoHeight" 362),some (zz3 "NoHeight" 370),some (Value.builtin "ValueError.__new__"),some (Value.bool true)] }),
 (163,{ cls:=Value.type "dict",data:=Data.dict #[zz1 P "__module__" 385 (zz3 "rayround.errors" 187),zz1 P "__firstlineno__" 389 (Value.int 28 388),zz1 P "__static_attributes__" 390 (Value.ref 162),zz1 P "__doc__" 391 (Value.none)] 2 }),
 (164,{ cls:=Value.type "type",data:=Data.cls { name:=Str.ofString "NoBend",bases:=[Value.ref 24],mro:=[Value.ref 164,Value.ref 24,Value.type "ValueError",Value.type "Exception",Value.type "BaseException",Value.type "object"],ns:=163,qualname:=Str.ofString "NoBend" },slots:= #[some (Value.ref 155),none,some (zz3 "NoBend" 378),some (zz3 "NoBend" 386),some (Value.builtin "ValueError.__new__"),some (Value.bool true)] }),
 (175,{ cls:=Value.type "dict",data:=Data.dict #[zz1 P "__module__" 401 (zz3 "rayround.errors" 187),zz1 P "__firstlineno__" 405 (Value.int 30 404),zz1 P "__static_attributes__" 406 (Value.ref 174),zz1 P "__doc__" 407 (Value.none)] 2 }),
 (176,{ cls:=Value.type "type",data:=Data.cls { name:=Str.ofString "NoBody",bases:=[Value.ref 24],mro:=[Value.ref 176,Value.ref 24,Value.type "ValueError",Value.type "Exception",Value.type "BaseException",Value.type "object"],ns:=175,qualname:=Str.ofString "NoBody" },slots:= #[some (Value.ref 167),none,some (zz3 "NoBody" 394),some (zz3 "NoBody" 402),some (Value.builtin "ValueError.__new__"),some (Value.bool true)] }),
 (187,{ cls:=Value.type "dict",data:=Data.dict #[zz1 P "__module__" 417 (zz3 "rayround.errors" 187),zz1 P "__firstlineno__" 421 (Value.int 32 420),zz1 P "__static_attributes__" 422 (Value.ref 186),zz1 P "__doc__" 423 (Value.none)] 2 }),
 (188,{ cls:=Value.type "type",data:=Data.cls { name:=Str.ofString "NoOne",bases:=[Value.ref 24],mro:=[Value.ref 188,Value.ref 24,Value.type "ValueError",Value.type "Exception",Value.type "BaseException",Value.type "object"],ns:=187,qualname:=Str.ofString "NoOne" },slots:= #[some (Value.ref 179),none,some (zz3 "NoOne" 410),some (zz3 "NoOne" 418),some (Value.builtin "ValueError.__new__"),some (Value.bool true)] }),
 (199,{ cls:=Value.type "dict",data:=Data.dict #[zz1 P "__module__" 433 (zz3 "rayround.errors" 187),zz1 P "__firstlineno__" 437 (Value.int 34 436),zz1 P "__static_attributes__" 438 (Value.ref 198),zz1 P "__doc__" 439 (Value.none)] 2 }),
 (200,{ cls:=Value.type "type",data:=Data.cls { name:=Str.ofString "NoText",bases:=[Value.ref 24],mro:=[Value.ref 200,Value.ref 24,Value.type "ValueError",Value.type "Exception",Value.type "BaseException",Value.type "object"],ns:=199,qualname:=Str.ofString "NoText" },slots:= #[some (Value.ref 191),none,some (zz3 "NoText" 426),some (zz3 "NoText" 434),some (Value.builtin "ValueError.__new__"),some (Value.bool true)] }),
 (211,{ cls:=Value.type "dict",data:=Data.dict #[zz1 P "__module__" 449 (zz3 "rayround.errors" 187),zz1 P "__firstlineno__" 453 (Value.int 36 452),zz1 P "__static_attributes__" 454 (Value.ref 210),zz1 P "__doc__" 455 (Value.none)] 2 }),
 (212,{ cls:=Value.type "type",data:=Data.cls { name:=Str.ofString "Unknown",bases:=[Value.ref 24],mro:=[Value.ref 212,Value.ref 24,Value.type "ValueError",Value.type "Exception",Value.type "BaseException",Value.type "object"],ns:=211,qualname:=Str.ofString "Unknown" },slots:= #[some (Value.ref 203),none,some (zz3 "Unknown" 442),some (zz3 "Unknown" 450),some (Value.builtin "ValueError.__new__"),some (Value.bool true)] })]
noncomputable def asK:List Addr:=[3,221,220,228,227,235,234,242,241,249,248,256,255,263,262,268,267,275,274,282,281,289,288,296,295,303,302,310,309,317,316,324,323,331,330,338,337,345,344,352,351,359,358,364,363,371,370,378,377,383,382,388,387,393,392,400,399,405,404,412,411,419,418,426,425,431,430,436,435,441,440,448,447,455,454,462,461,467,466,472,471,477,476,484,483,489,488,496,495,503,502,508,507,23,24,36,37,48,49,67,68,79,80,91,92,103,104,115,116,127,128,139,140,151,152,163,164,175,176,187,188,199,200,211,212]
theorem Zqk (p:Program) (P:Params):asK=(Kf p P).map (·.1):=rfl
noncomputable def qf (p:Program):Program:={ p with main:={ p.main with body:=[Zbe p 72] } }
noncomputable def lo:List Str:=[("__name__":Str),("RayError":Str),("NoRatio":Str),("NoTurning":Str),("NoRound":Str),("NotSmooth":Str),("NoWedge":Str),("NoRow":Str),("NoPlace":Str),("NoMinus":Str),("NoFour":Str),("NoHeight":Str),("NoBend":Str),("NoBody":Str),("NoOne":Str),("NoText":Str),("Unknown":Str),("is_whole":Str),("greatest_divisor":Str),("crossed":Str),("product":Str),("following":Str),("unspanned":Str),("ask_smooth":Str),("numbers":Str),("ratio":Str),("plus":Str),("minus":Str),("times":Str),("less":Str),("greatest":Str),("common_bottom":Str),("stretched":Str),("ask_height":Str),("bends":Str),("crossing":Str),("sloped":Str),("slope_through":Str),("bends_inwards":Str),("contrary":Str),("corners":Str),("height_of":Str),("edge":Str),("in_order":Str),("body":Str),("width":Str),("lessened":Str),("least_wide":Str),("two_ways":Str),("dots_across":Str),("dots":Str),("dots_by_crossing":Str),("_law_purse":Str),("_law_take":Str),("_law_short_put":Str),("_law_base":Str),("_law_table":Str),("_law_spun":Str),("_law_bends":Str),("_law_only":Str),("_law_refused":Str),("_law_all":Str)]
theorem ZuR {l:PySem.W.OpenLaw} {q:Program} {loose:List Str} {XP:(Str->Option Value)->Heap->Prop} {YP:World->Heap->Prop} {d:DefRec} {K:Params->PySem.W.Frag} (hn:l.most=some 63) (hdf:d.params.defaults=[])
  (hY: ∀ (w:World) (h:Heap),YP w h->(K w.params).In h)
  (F: ∀ (w:World) (mg:Str->Option Value) (fa:Addr) (h:Heap),(K w.params).In h->h.Ns mainGlobals mg->mg d.name=some (.ref fa)->
   ∃ fd:FuncData,(∀ (s:Shared) (u:Value),BindsTo s fd ⟨[u],[]⟩ [("_law_script",u)])/\ ∀ base:Heap,(K w.params).In base->base.Ns mainGlobals mg->FnOk l.prog w (K w.params) mg base (CXE l.prog w) 110 fa fd ["_law_script"] (spD (K w.params) Zgq)):
  PySem.W.WalkO q loose XP YP l.row.toRowW d [] (fun f vs=>PySem.call f vs):=
 L2.ZlM (n:=63) (k:=110) (x:="_law_script") (CX:=fun w=>CXE l.prog w) (sp:=fun w=>spD (K w.params) Zgq) hn (by decide) hdf ⟨fun _=>rfl,rfl,by decide,by decide⟩ hY F (fun _ _ a ns hl hO hS=>DL.Zok hl hO hS (law_true ns hl)) fun _ _ _ _ _ ⟨_,_,_,_,_,_,_,_,_,_,_,_,_,q⟩=>q
end K51
open PySem PySem.W PyProof.Rows
lay_quick PySem.Challenge.pw_rayround_k51_no_dots_no_corners
namespace K51
noncomputable abbrev Hk:Hook:=kHook (Kf PySem.Challenge.pw_rayround_k51_no_dots_no_corners) asK (Zqk PySem.Challenge.pw_rayround_k51_no_dots_no_corners)
noncomputable def Xs (s:Shared):Bool:=xlAt (qf PySem.Challenge.pw_rayround_k51_no_dots_no_corners) [] s && recOk (RowW.records (OpenRow.toRowW (OpenLaw.row PySem.Challenge.rw_rayround_k51_no_dots_no_corners))) s
set_option maxRecDepth 1000000 in
set_option maxHeartbeats 0 in
theorem Zq3 (w:World) (os:OsState):(HD.Zqr through (HD.Zki (stepOk 11 (some (.ref 6))) (stepT (denote treeTable) PySem.Challenge.pw_rayround_k51_no_dots_no_corners w)) 4931 (HD.T0 w os) (topStub PySem.Challenge.pw_rayround_k51_no_dots_no_corners)).map (fun s=>((staticsOk (importedModules PySem.Challenge.pw_rayround_k51_no_dots_no_corners.main.body) (boot_heap w.params) s.abs.heap && namesBound PySem.Challenge.pw_rayround_k51_no_dots_no_corners s.abs.heap && gensDone s.abs && laidKept (boot_heap w.params) s.abs.heap),
  openSeen (qf PySem.Challenge.pw_rayround_k51_no_dots_no_corners) lo (importedModules PySem.Challenge.pw_rayround_k51_no_dots_no_corners.main.body) (fun s=>xlAt (qf PySem.Challenge.pw_rayround_k51_no_dots_no_corners) [] s && recOk [] s) true s.abs,asK.map s.abs.heap.get?))=some (true,openGood (qf PySem.Challenge.pw_rayround_k51_no_dots_no_corners) lo,(Kf PySem.Challenge.pw_rayround_k51_no_dots_no_corners w.params).map fun x=>some x.2):=by
 rw[HD.Zq4,HD.Zmw,HD.ZoL,HD.ZoM,HD.Zmx,HD.ZoN,PySem.W.Fast.te16838389381162129085]
 kernel_rfl
end K51
set_option maxRecDepth 1000000 in
set_option maxHeartbeats 0 in
theorem PySem.Challenge.cw_rayround_k51_no_dots_no_corners_holds : PySem.Challenge.rw_rayround_k51_no_dots_no_corners.Holds := by
 w_on;o_law
 refine holds_open (q:=K51.qf PySem.Challenge.pw_rayround_k51_no_dots_no_corners) (loose:=K51.lo) (Xt:=fun s=>xlAt (K51.qf PySem.Challenge.pw_rayround_k51_no_dots_no_corners) [] s && recOk [] s) (XP:=XL (K51.qf PySem.Challenge.pw_rayround_k51_no_dots_no_corners) []) (Yf:=Hook.obs K51.Hk) (Ya:=Hook.val K51.Hk) (YP:=Hook.says K51.Hk) (N:=5531) ?hl (Hook.of K51.Hk) (Hook.keeps K51.Hk) (fun s e=>xl_of s (Bool.and_eq_true_iff.mp e).1) XL.keeps (by rfl) (by rfl) (by rfl) (fun s e=>recFacts_of (Bool.and_eq_true_iff.mp e).2) (by rfl) (by first | assumption | decide +kernel) (by decide +kernel) ⟨rfl,rfl,rfl,rfl,rfl,by decide +kernel⟩ ?hw ?hc
 case hl=>exact HD.ZiL rfl (by decide) (fun s=>rfl) (by decide) K51.Zq3
 case hw=>w_witness2
 case hc=>
  refine K51.ZuR (l:=PySem.Challenge.rw_rayround_k51_no_dots_no_corners) rfl rfl (fun w h Y=>PySem.W.kIn_of Y) ?F
  intro w mg fa h KX G hmg
  refine K51.Zqd (f1:=221) (od1:=none) (an1:=none) (sl1:= #[]) (oc1:= .type "function") (kV1:= .none) (dc1:= .none) (pm1:= .str "rayround.wholes" 458) (cd1:= .ref 220) (ct1:= .none) (f2:=228) (od2:=none) (an2:=none) (sl2:= #[]) (oc2:= .type "function") (kV2:= .none) (dc2:= .none) (pm2:= .str "rayround.wholes" 458) (cd2:= .ref 227) (ct2:= .none) (f3:=235) (od3:=none) (an3:=none) (sl3:= #[]) (oc3:= .type "function") (kV3:= .none) (dc3:= .none) (pm3:= .str "rayround.pairs" 477) (cd3:= .ref 234) (ct3:= .none) (f4:=242) (od4:=none) (an4:=none) (sl4:= #[]) (oc4:= .type "function") (kV4:= .none) (dc4:= .none) (pm4:= .str "rayround.pairs" 477) (cd4:= .ref 241) (ct4:= .none) (f5:=249) (od5:=none) (an5:=none) (sl5:= #[]) (oc5:= .type "function") (kV5:= .none) (dc5:= .none) (pm5:= .str "rayround.rounds" 495) (cd5:= .ref 248) (ct5:= .none) (f6:=256) (od6:=none) (an6:=none) (sl6:= #[]) (oc6:= .type "function") (kV6:= .none) (dc6:= .none) (pm6:= .str "rayround.rounds" 495) (cd6:= .ref 255) (ct6:= .none) (f7:=263) (od7:=none) (an7:=none) (sl7:= #[]) (oc7:= .type "function") (kV7:= .none) (dc7:= .none) (pm7:= .str "rayround.rounds" 495) (cd7:= .ref 262) (ct7:= .none) (f8:=268) (od8:=none) (an8:=none) (sl8:= #[]) (oc8:= .type "function") (kV8:= .none) (dc8:= .none) (pm8:= .str "rayround.numbers" 522) (cd8:= .ref 267) (ct8:= .none) (f9:=275) (od9:=none) (an9:=none) (sl9:= #[]) (oc9:= .type "function") (kV9:= .none) (dc9:= .none) (pm9:= .str "rayround.ratios" 530) (cd9:= .ref 274) (ct9:= .none) (f10:=282) (od10:=none) (an10:=none) (sl10:= #[]) (oc10:= .type "function") (kV10:= .none) (dc10:= .none) (pm10:= .str "rayround.ratios" 530) (cd10:= .ref 281) (ct10:= .none) (f11:=289) (od11:=none) (an11:=none) (sl11:= #[]) (oc11:= .type "function") (kV11:= .none) (dc11:= .none) (pm11:= .str "rayround.ratios" 530) (cd11:= .ref 288) (ct11:= .none) (f12:=296) (od12:=none) (an12:=none) (sl12:= #[]) (oc12:= .type "function") (kV12:= .none) (dc12:= .none) (pm12:= .str "rayround.ratios" 530) (cd12:= .ref 295) (ct12:= .none) (f13:=303) (od13:=none) (an13:=none) (sl13:= #[]) (oc13:= .type "function") (kV13:= .none) (dc13:= .none) (pm13:= .str "rayround.ratios" 530) (cd13:= .ref 302) (ct13:= .none) (f14:=310) (od14:=none) (an14:=none) (sl14:= #[]) (oc14:= .type "function") (kV14:= .none) (dc14:= .none) (pm14:= .str "rayround.ratios" 530) (cd14:= .ref 309) (ct14:= .none) (f15:=317) (od15:=none) (an15:=none) (sl15:= #[]) (oc15:= .type "function") (kV15:= .none) (dc15:= .none) (pm15:= .str "rayround.ratios" 530) (cd15:= .ref 316) (ct15:= .none) (f16:=324) (od16:=none) (an16:=none) (sl16:= #[]) (oc16:= .type "function") (kV16:= .none) (dc16:= .none) (pm16:= .str "rayround.ratios" 530) (cd16:= .ref 323) (ct16:= .none) (f17:=331) (od17:=none) (an17:=none) (sl17:= #[]) (oc17:= .type "function") (kV17:= .none) (dc17:= .none) (pm17:= .str "rayround.heights" 599) (cd17:= .ref 330) (ct17:= .none) (f18:=338) (od18:=none) (an18:=none) (sl18:= #[]) (oc18:= .type "function") (kV18:= .none) (dc18:= .none) (pm18:= .str "rayround.heights" 599) (cd18:= .ref 337) (ct18:= .none) (f19:=345) (od19:=none) (an19:=none) (sl19:= #[]) (oc19:= .type "function") (kV19:= .none) (dc19:= .none) (pm19:= .str "rayround.heights" 599) (cd19:= .ref 344) (ct19:= .none) (f20:=352) (od20:=none) (an20:=none) (sl20:= #[]) (oc20:= .type "function") (kV20:= .none) (dc20:= .none) (pm20:= .str "rayround.heights" 599) (cd20:= .ref 351) (ct20:= .none) (f21:=359) (od21:=none) (an21:=none) (sl21:= #[]) (oc21:= .type "function") (kV21:= .none) (dc21:= .none) (pm21:= .str "rayround.heights" 599) (cd21:= .ref 358) (ct21:= .none) (f22:=364) (od22:=none) (an22:=none) (sl22:= #[]) (oc22:= .type "function") (kV22:= .none) (dc22:= .none) (pm22:= .str "rayround.corners" 657) (cd22:= .ref 363) (ct22:= .none) (f23:=371) (od23:=none) (an23:=none) (sl23:= #[]) (oc23:= .type "function") (kV23:= .none) (dc23:= .none) (pm23:= .str "rayround.corners" 657) (cd23:= .ref 370) (ct23:= .none) (f24:=378) (od24:=none) (an24:=none) (sl24:= #[]) (oc24:= .type "function") (kV24:= .none) (dc24:= .none) (pm24:= .str "rayround.corners" 657) (cd24:= .ref 377) (ct24:= .none) (f25:=383) (od25:=none) (an25:=none) (sl25:= #[]) (oc25:= .type "function") (kV25:= .none) (dc25:= .none) (pm25:= .str "rayround.corners" 657) (cd25:= .ref 382) (ct25:= .none) (f26:=388) (od26:=none) (an26:=none) (sl26:= #[]) (oc26:= .type "function") (kV26:= .none) (dc26:= .none) (pm26:= .str "rayround.bodies" 690) (cd26:= .ref 387) (ct26:= .none) (f27:=393) (od27:=none) (an27:=none) (sl27:= #[]) (oc27:= .type "function") (kV27:= .none) (dc27:= .none) (pm27:= .str "rayround.bodies" 690) (cd27:= .ref 392) (ct27:= .none) (f28:=400) (od28:=none) (an28:=none) (sl28:= #[]) (oc28:= .type "function") (kV28:= .none) (dc28:= .none) (pm28:= .str "rayround.bodies" 690) (cd28:= .ref 399) (ct28:= .none) (f29:=405) (od29:=none) (an29:=none) (sl29:= #[]) (oc29:= .type "function") (kV29:= .none) (dc29:= .none) (pm29:= .str "rayround.dots" 715) (cd29:= .ref 404) (ct29:= .none) (f30:=412) (od30:=none) (an30:=none) (sl30:= #[]) (oc30:= .type "function") (kV30:= .none) (dc30:= .none) (pm30:= .str "rayround.dots" 715) (cd30:= .ref 411) (ct30:= .none) (f31:=419) (od31:=none) (an31:=none) (sl31:= #[]) (oc31:= .type "function") (kV31:= .none) (dc31:= .none) (pm31:= .str "rayround.dots" 715) (cd31:= .ref 418) (ct31:= .none) (f32:=426) (od32:=none) (an32:=none) (sl32:= #[]) (oc32:= .type "function") (kV32:= .none) (dc32:= .none) (pm32:= .str "rayround.dots" 715) (cd32:= .ref 425) (ct32:= .none) (f33:=431) (od33:=none) (an33:=none) (sl33:= #[]) (oc33:= .type "function") (kV33:= .none) (dc33:= .none) (pm33:= .str "rayround.dots" 715) (cd33:= .ref 430) (ct33:= .none) (f34:=436) (od34:=none) (an34:=none) (sl34:= #[]) (oc34:= .type "function") (kV34:= .none) (dc34:= .none) (pm34:= .str "rayround.dots" 715) (cd34:= .ref 435) (ct34:= .none) (f35:=441) (od35:=none) (an35:=none) (sl35:= #[]) (oc35:= .type "function") (kV35:= .none) (dc35:= .none) (pm35:= .str "rayround.dots" 715) (cd35:= .ref 440) (ct35:= .none) (f36:=448) (od36:=none) (an36:=none) (sl36:= #[]) (oc36:= .type "function") (kV36:= .none) (dc36:= .none) (pm36:= .str "law_rayround_k51_no_dots_no_corners" 774) (cd36:= .ref 447) (ct36:= .none) (f37:=455) (od37:=none) (an37:=none) (sl37:= #[]) (oc37:= .type "function") (kV37:= .none) (dc37:= .none) (pm37:= .str "law_rayround_k51_no_dots_no_corners" 774) (cd37:= .ref 454) (ct37:= .none) (f38:=462) (od38:=none) (an38:=none) (sl38:= #[]) (oc38:= .type "function") (kV38:= .none) (dc38:= .none) (pm38:= .str "law_rayround_k51_no_dots_no_corners" 774) (cd38:= .ref 461) (ct38:= .none) (f39:=467) (od39:=none) (an39:=none) (sl39:= #[]) (oc39:= .type "function") (kV39:= .none) (dc39:= .none) (pm39:= .str "law_rayround_k51_no_dots_no_corners" 774) (cd39:= .ref 466) (ct39:= .none) (f40:=472) (od40:=none) (an40:=none) (sl40:= #[]) (oc40:= .type "function") (kV40:= .none) (dc40:= .none) (pm40:= .str "law_rayround_k51_no_dots_no_corners" 774) (cd40:= .ref 471) (ct40:= .none) (f41:=477) (od41:=none) (an41:=none) (sl41:= #[]) (oc41:= .type "function") (kV41:= .none) (dc41:= .none) (pm41:= .str "law_rayround_k51_no_dots_no_corners" 774) (cd41:= .ref 476) (ct41:= .none) (f42:=484) (od42:=none) (an42:=none) (sl42:= #[]) (oc42:= .type "function") (kV42:= .none) (dc42:= .none) (pm42:= .str "law_rayround_k51_no_dots_no_corners" 774) (cd42:= .ref 483) (ct42:= .none) (f43:=489) (od43:=none) (an43:=none) (sl43:= #[]) (oc43:= .type "function") (kV43:= .none) (dc43:= .none) (pm43:= .str "law_rayround_k51_no_dots_no_corners" 774) (cd43:= .ref 488) (ct43:= .none) (f44:=496) (od44:=none) (an44:=none) (sl44:= #[]) (oc44:= .type "function") (kV44:= .none) (dc44:= .none) (pm44:= .str "law_rayround_k51_no_dots_no_corners" 774) (cd44:= .ref 495) (ct44:= .none) (f45:=503) (od45:=none) (an45:=none) (sl45:= #[]) (oc45:= .type "function") (kV45:= .none) (dc45:= .none) (pm45:= .str "law_rayround_k51_no_dots_no_corners" 774) (cd45:= .ref 502) (ct45:= .none) (f46:=508) (od46:=none) (an46:=none) (sl46:= #[]) (oc46:= .type "function") (kV46:= .none) (dc46:= .none) (pm46:= .str "law_rayround_k51_no_dots_no_corners" 774) (cd46:= .ref 507) (ct46:= .none) KX G hmg ?a1 ?l1 ?c1 ?k1 ?a2 ?l2 ?c2 ?k2 ?a3 ?l3 ?c3 ?k3 ?a4 ?l4 ?c4 ?k4 ?a5 ?l5 ?c5 ?k5 ?a6 ?l6 ?c6 ?k6 ?a7 ?l7 ?c7 ?k7 ?a8 ?l8 ?c8 ?k8 ?a9 ?l9 ?c9 ?k9 ?a10 ?l10 ?c10 ?k10 ?a11 ?l11 ?c11 ?k11 ?a12 ?l12 ?c12 ?k12 ?a13 ?l13 ?c13 ?k13 ?a14 ?l14 ?c14 ?k14 ?a15 ?l15 ?c15 ?k15 ?a16 ?l16 ?c16 ?k16 ?a17 ?l17 ?c17 ?k17 ?a18 ?l18 ?c18 ?k18 ?a19 ?l19 ?c19 ?k19 ?a20 ?l20 ?c20 ?k20 ?a21 ?l21 ?c21 ?k21 ?a22 ?l22 ?c22 ?k22 ?a23 ?l23 ?c23 ?k23 ?a24 ?l24 ?c24 ?k24 ?a25 ?l25 ?c25 ?k25 ?a26 ?l26 ?c26 ?k26 ?a27 ?l27 ?c27 ?k27 ?a28 ?l28 ?c28 ?k28 ?a29 ?l29 ?c29 ?k29 ?a30 ?l30 ?c30 ?k30 ?a31 ?l31 ?c31 ?k31 ?a32 ?l32 ?c32 ?k32 ?a33 ?l33 ?c33 ?k33 ?a34 ?l34 ?c34 ?k34 ?a35 ?l35 ?c35 ?k35 ?a36 ?l36 ?c36 ?k36 ?a37 ?l37 ?c37 ?k37 ?a38 ?l38 ?c38 ?k38 ?a39 ?l39 ?c39 ?k39 ?a40 ?l40 ?c40 ?k40 ?a41 ?l41 ?c41 ?k41 ?a42 ?l42 ?c42 ?k42 ?a43 ?l43 ?c43 ?k43 ?a44 ?l44 ?c44 ?k44 ?a45 ?l45 ?c45 ?k45 ?a46 ?l46 ?c46 ?k46 ?z_isinstance ?z_int ?z_bool ?z_abs ?z_len ?z_enumerate ?z_range ?z_zip ?z_any ?z_list ?z_max ?z_min ?z_reversed ?z_ValueError ?q_ex_NotSmooth ?q_ex_NoRatio ?q_ex_NoHeight ?q_ex_NoBend ?q_it_NoBend ?q_it_NoBody ?q_it_NoFour ?q_it_NoHeight ?q_it_NoMinus ?q_it_NoOne ?q_it_NoPlace ?q_it_NoRatio ?q_it_NoRound ?q_it_NoRow ?q_it_NoText ?q_it_NotSmooth ?q_it_NoTurning ?q_it_NoWedge ?q_it_Unknown ?q_ib_ValueError ?q_ct_RayError
  all_goals kernel_rfl
