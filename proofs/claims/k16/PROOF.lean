import PyProof.Rows.All
import Wide.All
import OpenK.AllK
import Wide.FinOn
import Lean
import PyProof.EqAt
import PyProof.EqKinds
import PyProof.TupleCall
import PySem.Challenge.RW_rayround_k16_no_wedges
set_option maxRecDepth 100000
set_option linter.all false
set_option Elab.async false
set_option maxHeartbeats 4000000
noncomputable section
set_option bootstrap.genMatcherCode false
set_option genSizeOf false
set_option genSizeOfSpec false
set_option compiler.extract_closed false
section
namespace DQ
open PySem PySem.Spec PyProof.Rows
noncomputable def Zac (A:Around) (h:Heap):Prop:=A.handled=none\/ ∃ ea oe vs,A.handled=some (.ref ea)/\h.get? ea=some oe/\oe.data= .fields vs/\vs[2]?=some .none
theorem Zac.keeps {A:Around} {h h':Heap} (q:Zac A h) (k: ∀ b o,h.get? b=some o->h'.get? b=some o):Zac A h':=by
 rcases q with q | ⟨ea,oe,vs,e1,e2,e3,e4⟩
 ·exact .inl q
 ·exact .inr ⟨ea,oe,vs,e1,k _ _ e2,e3,e4⟩
theorem ZbJ:entryFor table "proto.unchain"=some Builtin.«proto.unchain» :=entryFor_of_fast (by kernel_rfl)
section
variable {prog:Program} {w:World} {A:Around} {E:Value->Shared->Prop} {s:Shared}
theorem Zcv {α:Type} {Q:α->Shared->Prop} {e:Addr} {oe:Obj} {vs:Array Value} (q:Zac A s.heap) (he:s.heap.get? e=some oe) (hd:oe.data= .fields vs) (hz:2 < vs.size)
  (h: ∀ h',(∀ b o,b≠e->s.heap.get? b=some o->h'.get? b=some o)->(∃ o,h'.get? e=some o/\o.cls=oe.cls)->E (.ref e) { s with heap:=h' }):wpAny (model prog w) A (raiseNew (.ref e):Sem α) Q E s:=by
 have same:E (.ref e) s:=h s.heap (fun _ _ _ x=>x) ⟨oe,he,rfl⟩
 unfold raiseNew
 refine wpAny_bind (wpAny_handled ?_)
 rcases q with q | ⟨ea,oa,ws,q1,q2,q3,q4⟩
 ·rw[q]
  exact wpAny_bind (wpAny_pure (wpAny_throw same))
 ·rw[q1]
  dsimp only
  by_cases c:(Value.ref ea != Value.ref e)=true
  ·rw[if_pos c]
   refine wpAny_bind (wpAny_holding (wpAny_runValue (codeAny_builtin ZbJ ?_)))
   unfold Builtin.«proto.unchain»
   refine wpAny_bind (wpAny_field q2 q3 q4 ?_)
   refine wpAny_bind (wpAny_pure ?_)
   have sf:wpAny (model prog w) A (setField (.ref e) 2 (.ref ea)) (fun _ s'=>wpAny (model prog w) A (throw (Value.ref e):Sem α) Q E s') E s:=by
    refine wpAny_setField he hd hz (wpAny_throw (h _ (fun b o hb x=> ?_) ⟨_,Heap.get?_update_self _ he (Obj.isFreed_of_fields (Obj.data_mapFields hd _)),Obj.cls_mapFields _ _⟩))
    rw[Heap.get?_update_other _ _ (Ne.symm hb)]
    exact x
   exact wpAny_pure (wpAny_bind sf)
  ·rw[if_neg c]
   exact wpAny_throw same
theorem Zam {α:Type} {Q:α->Shared->Prop} (q:Zac A s.heap)
  (h: ∀ h' e,(∀ b o,s.heap.get? b=some o->h'.get? b=some o)->(∃ o,h'.get? e=some o/\o.cls= .type "StopIteration")->E (.ref e) { s with heap:=h' }):
  wpAny (model prog w) A (newExc (.type "StopIteration") [] >>= fun x=>(raiseNew x:Sem α)) Q E s:=by
 refine wpAny_bind ?_
 simp only[newExc,newTuple]
 refine wpAny_bind (wpAny_newObj_type ?_ (by size_fits))
 refine wpAny_bind (m:=firstArgMember _ _) (wpAny_of_eq (a:=Value.none) (by first | rfl | (simp only[firstArgMember];rfl)) ?_)
 refine wpAny_newObj_type ?_ (by size_fits)
 refine Zcv (q.keeps fun b o x=>Heap.get?_push_of_some _ (Heap.get?_push_of_some _ x)) (Heap.get?_push_size _ rfl) rfl (by rw[Array.size_append];exact Nat.lt_of_lt_of_le (by decide:2 < 6) (Nat.le_add_right _ _)) fun h' k he=> ?_
 exact h h' _ (fun b o x=>k b o (Nat.ne_of_lt (Nat.lt_of_lt_of_le (Heap.lt_size x) (by rw[Heap.size_push];exact Nat.le_succ _))) (Heap.get?_push_of_some _ (Heap.get?_push_of_some _ x))) he
theorem Zgi {e:Addr} {Q:Bool->Shared->Prop} (he: ∃ o,s.heap.get? e=some o/\o.cls= .type "StopIteration") (h:Q true s):wpAny (model prog w) A (isInstance (.ref e) (.type "StopIteration")) Q E s:=
 let ⟨o,e1,e2⟩:=he
 wpAny_isInstance (T:="StopIteration") (b:=true) ⟨o,e1,e2⟩ isSubtype_stop h
theorem Zac.in1 {h:Heap} (q:Zac A h):Zac A.in1 h:=q
noncomputable def ZcU (it:Addr) (s:Shared) (e:Value) (s':Shared):Prop:= ∃ a,e= .ref a/\(∃ o,s'.heap.get? a=some o/\o.cls= .type "StopIteration")/\ ∃ h',Heap.ExtBut it s.heap h'/\s'={ s with heap:=h' }
theorem ZcV {it:Addr} {T id:String} {b:Builtin} {Q:Option Value->Shared->Prop} (hT:s.TypeIs (.ref it) T) (sl:Slot T (Str.ofString "__next__") id) (hb:entryFor table id=some b) (ha:argsOk id ⟨[.ref it],[]⟩)
  (h:wpAny (model prog w) A.in1 (b ⟨[.ref it],[]⟩) (fun _ _=>False) (ZcU it s) s) (hQ: ∀ h',Heap.ExtBut it s.heap h'->Q none { s with heap:=h' }):wpAny (model prog w) A (pyNext (.ref it)) Q E s:=by
 unfold pyNext
 refine wpAny_bind (wpAny_attempt (wpAny_callSpecial?_slot (name:=Str.ofString "__next__") hT sl (wpAny_call_entry sl hT hb (wpAny_mono h (fun _ _ z=>z.elim) fun e s' z=> ?_) ha)))
 obtain ⟨a,rfl,ho,h',eb,rfl⟩:=z
 exact wpAny_bind (Zgi ho (wpAny_pure (hQ h' eb)))
theorem ZdF {it:Addr} {x left step:Int} {Q:Option Value->Shared->Prop} (q:Zac A s.heap) (hit:IsRangeIter s.heap it x left step) (hl:left<=0)
  (hQ: ∀ h',Heap.ExtBut it s.heap h'->Q none { s with heap:=h' }):wpAny (model prog w) A (pyNext (.ref it)) Q E s:=by
 refine ZcV ⟨_,hit,rfl⟩ F.slot_range_iterator_next F.entry_range_iterator_next (F.args_range_iterator_next_1 _) ?_ hQ
 refine wpAny_bind (m:=field (.ref it) 0) (wpAny_field hit rfl (x:=rawInt x) rfl ?_)
 refine wpAny_bind (m:=field (.ref it) 1) (wpAny_field hit rfl (x:=rawInt left) rfl ?_)
 refine wpAny_bind (m:=field (.ref it) 2) (wpAny_field hit rfl (x:=rawInt step) rfl ?_)
 dsimp only[rawInt]
 rw[if_pos hl]
 refine wpAny_bind (wpAny_rule (wpAny_bind ?_))
 exact Zam q.in1 fun h' e k ho=>⟨e,rfl,ho,h',fun b o _ z=>k b o z,rfl⟩
theorem ZhN {it l:Addr} {i:Nat} {o ol:Obj} {items:Array Value} {n:Nat} (q:Zac A s.heap) (ho:s.heap.get? it=some o) (hd:o.data= .fields #[.ref l,.int i 0]) (hol:s.heap.get? l=some ol) (hdl:ol.data= .seq items n) (hx:items[i]?=none):
  wpAny (model prog w) A.in1 (Builtin.«list_iterator.__next__» ⟨[.ref it],[]⟩) (fun _ _=>False) (ZcU it s) s:=by
 refine wpAny_bind (m:=field (.ref it) 0) (wpAny_field ho hd (x:= .ref l) rfl ?_)
 dsimp only
 rw[if_neg (show ¬ ((Value.ref l == Value.none)=true) from Bool.false_ne_true)]
 refine wpAny_bind (m:=field (.ref it) 1) (wpAny_field ho hd (x:= .int i 0) rfl ?_)
 refine wpAny_bind (m:=seqItems? (.ref l)) (wpAny_seqItems hol hdl ?_)
 simp only[Int.toNat_natCast,hx]
 refine wpAny_bind (wpAny_rule (wpAny_bind (wpAny_setField ho hd (by simp) ?_)))
 have q2:Zac A.in1 (s.heap.update it (Obj.mapFields (·.setIfInBounds 0 Value.none))):=by
  rcases q with q | ⟨ea,oe,vs,e1,e2,e3,e4⟩
  ·exact .inl q
  ·refine .inr ⟨ea,oe,vs,e1,?_,e3,e4⟩
   rw[Heap.get?_update_other _ _ (fun z=> ?_)]
   ·exact e2
   ·rw[<- z,ho] at e2
    cases e2
    rw[hd] at e3
    cases e3
    simp at e4
 refine Zam q2 fun h' e k ho=>⟨e,rfl,ho,h',fun b o hb z=>k b o ?_,rfl⟩
 rw[Heap.get?_update_other _ _ (Ne.symm hb)]
 exact z
theorem ZhO {it l:Addr} {i:Nat} {o ol:Obj} {items:Array Value} {n:Nat} (q:Zac A s.heap) (ho:s.heap.get? it=some o) (hd:o.data= .fields #[.ref l,.int i 0]) (hol:s.heap.get? l=some ol) (hdl:ol.data= .seq items n) (hx:items[i]?=none):
  wpAny (model prog w) A.in1 (Builtin.«tuple_iterator.__next__» ⟨[.ref it],[]⟩) (fun _ _=>False) (ZcU it s) s:=by
 refine wpAny_bind (m:=field (.ref it) 0) (wpAny_field ho hd (x:= .ref l) rfl ?_)
 dsimp only
 rw[if_neg (show ¬ ((Value.ref l == Value.none)=true) from Bool.false_ne_true)]
 refine wpAny_bind (m:=field (.ref it) 1) (wpAny_field ho hd (x:= .int i 0) rfl ?_)
 refine wpAny_bind (m:=seqItems? (.ref l)) (wpAny_seqItems hol hdl ?_)
 simp only[Int.toNat_natCast,hx]
 refine wpAny_bind (wpAny_rule (wpAny_bind (wpAny_setField ho hd (by simp) ?_)))
 have q2:Zac A.in1 (s.heap.update it (Obj.mapFields (·.setIfInBounds 0 Value.none))):=by
  rcases q with q | ⟨ea,oe,vs,e1,e2,e3,e4⟩
  ·exact .inl q
  ·refine .inr ⟨ea,oe,vs,e1,?_,e3,e4⟩
   rw[Heap.get?_update_other _ _ (fun z=> ?_)]
   ·exact e2
   ·rw[<- z,ho] at e2
    cases e2
    rw[hd] at e3
    cases e3
    simp at e4
 refine Zam q2 fun h' e k ho=>⟨e,rfl,ho,h',fun b o hb z=>k b o ?_,rfl⟩
 rw[Heap.get?_update_other _ _ (Ne.symm hb)]
 exact z
theorem ZeV {it l:Addr} {i:Nat} {items} {Q:Option Value->Shared->Prop} (q:Zac A s.heap) (hit:s.heap.IsListIter it l i) (hl:s.heap.IsList l items) (hx:items[i]?=none)
  (hQ: ∀ h',Heap.ExtBut it s.heap h'->Q none { s with heap:=h' }):wpAny (model prog w) A (pyNext (.ref it)) Q E s:=by
 obtain ⟨o,ho,hc,hd⟩:=id hit
 obtain ⟨ol,hol,_,nl,hdl⟩:=hl
 exact ZcV hit.typeIs slot_listiter_next entry_listiter_next (args_listiter_next _) (ZhN q ho hd hol hdl hx) hQ
theorem ZdG {it l:Addr} {i:Nat} {items} {Q:Option Value->Shared->Prop} (q:Zac A s.heap) (hit:s.heap.IsTupleIter it l i) (hl:s.heap.IsTuple l items) (hx:items[i]?=none)
  (hQ: ∀ h',Heap.ExtBut it s.heap h'->Q none { s with heap:=h' }):wpAny (model prog w) A (pyNext (.ref it)) Q E s:=by
 obtain ⟨o,ho,hc,hd⟩:=id hit
 obtain ⟨ol,hol,_,nl,hdl⟩:=hl
 exact ZcV hit.typeIs F.slot_tuple_iterator_next F.entry_tuple_iterator_next (F.args_tuple_iterator_next_1 _) (ZhO q ho hd hol hdl hx) hQ
end
end DQ
end
section
namespace L2
open PySem PySem.Spec PyProof.Rows
noncomputable abbrev Key:=Sum Int Str
noncomputable def Zcw:Key->Value->Bool
 | .inl k,v=>Value.isInt k v
 | .inr x,v=>Value.isStrOf x v
noncomputable def Znw (w:World):Key->Int
 | .inl k=>hashInt k
 | .inr x=>hashStr w x
theorem Zr: ∀ {k:Key} {v:Value},Zcw k v=true->(∃ i t,k=Sum.inl i/\v=Value.int i t)\/(∃ x t,k=Sum.inr x/\v=Value.str x t)
 | .inl i,v,h=>by
  obtain ⟨t,e⟩:=Value.isInt_shape (k:=i) (v:=v) h
  exact .inl ⟨i,t,rfl,e⟩
 | .inr x,v,h=>by
  obtain ⟨t,e⟩:=Value.isStrOf_shape (x:=x) (v:=v) h
  exact .inr ⟨x,t,rfl,e⟩
theorem ZdH (i:Int) (t:Tok):Zcw (.inl i) (.int i t)=true:=by simp[Zcw,Value.isInt]
theorem ZdI (x:Str) (t:Tok):Zcw (.inr x) (.str x t)=true:=by simp[Zcw,Value.isStrOf]
theorem ZhP (a b:Int):decide ((Sum.inl a:Key)=Sum.inl b)=(a == b):=by
 by_cases e:a=b
 ·subst e;simp
 ·have h: ¬ (Sum.inl a:Key)=Sum.inl b:=fun q=>e (Sum.inl.inj q)
  rw[decide_eq_false h]
  exact (beq_eq_false_iff_ne.mpr e).symm
theorem ZhQ (a b:Str):decide ((Sum.inr a:Key)=Sum.inr b)=decide (a=b):=by
 by_cases e:a=b
 ·subst e;simp
 ·have h: ¬ (Sum.inr a:Key)=Sum.inr b:=fun q=>e (Sum.inr.inj q)
  rw[decide_eq_false h,decide_eq_false e]
theorem ZhR (a:Int) (b:Str):decide ((Sum.inl a:Key)=Sum.inr b)=false:=decide_eq_false (fun q=>nomatch q)
theorem ZhS (a:Str) (b:Int):decide ((Sum.inr a:Key)=Sum.inl b)=false:=decide_eq_false (fun q=>nomatch q)
noncomputable def ZI (prog:Program) (w:World):PySem.KeyKind prog w Key where
 is:=Zcw
 hash:=Znw w
 inj:=fun v a b ha hb=>by
  rcases Zr ha with ⟨i,t,rfl,rfl⟩ | ⟨x,t,rfl,rfl⟩
  ·rcases Zr hb with ⟨j,u,rfl,e⟩ | ⟨y,u,rfl,e⟩
   ·injection e with e1 _;rw[e1]
   ·exact nomatch e
  ·rcases Zr hb with ⟨j,u,rfl,e⟩ | ⟨y,u,rfl,e⟩
   ·exact nomatch e
   ·injection e with e1 _;rw[e1]
 byValue:=fun k v h=>by
  rcases Zr h with ⟨i,t,rfl,rfl⟩ | ⟨x,t,rfl,rfl⟩<;>rfl
 pyHash:=fun hv h=>by
  rcases Zr hv with ⟨i,t,rfl,rfl⟩ | ⟨x,t,rfl,rfl⟩
  ·exact wpAny_pyHash_int h
  ·exact wpAny_pyHash_str h
 eqBool:=fun hu hv h=>by
  rcases Zr hu with ⟨i,t,rfl,rfl⟩ | ⟨x,t,rfl,rfl⟩
  ·rcases Zr hv with ⟨j,u,rfl,rfl⟩ | ⟨y,u,rfl,rfl⟩
   ·rw[ZhP] at h;exact wpAny_eqBool_int h
   ·rw[ZhR] at h;exact SeqAt.EqAt.int_str i t y u _ _ _ _ h
  ·rcases Zr hv with ⟨j,u,rfl,rfl⟩ | ⟨y,u,rfl,rfl⟩
   ·rw[ZhS] at h;exact SeqAt.EqAt.str_int x t j u _ _ _ _ h
   ·rw[ZhQ] at h;exact wpAny_eqBool_str h
 «strs» :=fun k x t v h=>by
  rcases Zr h with ⟨i,u,rfl,e⟩ | ⟨y,u,rfl,e⟩
  ·exact nomatch e
  ·injection e with e1 _
   subst e1
   cases v<;>rfl
theorem Zcx (prog:Program) (w:World) (i:Int) (t:Tok):(ZI prog w).is (.inl i) (.int i t)=true:=ZdH i t
theorem Zcy (prog:Program) (w:World) (x:Str) (t:Tok):(ZI prog w).is (.inr x) (.str x t)=true:=ZdI x t
end L2
namespace L2
open PySem PySem.Spec PyProof.Rows
inductive V where
 |non | bl (b:Bool) | int (i:Int) | str (x:Str) | byt (b:Array UInt8) | flt (b:UInt64) | ref (a:Addr) | ty (n:String)
 deriving DecidableEq
noncomputable def ZC:V->Value->Prop
 | .non,u=>u=Value.none
 | .bl b,u=>u=Value.bool b
 | .int i,u=> ∃ t,u=Value.int i t
 | .str x,u=> ∃ t,u=Value.str x t
 | .byt b,u=> ∃ t,u=Value.bytes b t
 | .flt b,u=> ∃ t,u=Value.float b t
 | .ref a,u=>u=Value.ref a
 | .ty n,u=>u=Value.type n
noncomputable abbrev ZJ:List V->List Value->Prop:=Paired ZC
theorem ZJ.length {xs:List V} {us:List Value} (r:ZJ xs us):xs.length=us.length:=Paired.length r
theorem ZJ.get: ∀ {xs:List V} {us:List Value} {i:Nat} {x:V},ZJ xs us->xs[i]?=some x-> ∃ u,us[i]?=some u/\ZC x u
 |_,_,_,_,.nil,e=>by simp at e
 |_,_,0,_,.cons r _,e=>by simp at e;subst e;exact ⟨_,rfl,r⟩
 |_,_,i + 1,x,.cons _ t,e=>by
  obtain ⟨u,h1,h2⟩:=ZJ.get (i:=i) (x:=x) t (by simpa using e)
  exact ⟨u,by simpa using h1,h2⟩
theorem ZJ.set {x:V} {u:Value} (r:ZC x u): ∀ {xs:List V} {us:List Value} (i:Nat),ZJ xs us->ZJ (xs.set i x) (us.set i u)
 |_,_,_,.nil=> .nil
 |_,_,0,.cons _ t=> .cons r t
 |_,_,i + 1,.cons q t=> .cons q (ZJ.set r i t)
theorem ZJ.append: ∀ {xs ys:List V} {us ws:List Value},ZJ xs us->ZJ ys ws->ZJ (xs ++ ys) (us ++ ws)
 |_,_,_,_,.nil,s=>s
 |_,_,_,_,.cons r t,s=> .cons r (ZJ.append t s)
theorem ZJ.take: ∀ {xs:List V} {us:List Value} (n:Nat),ZJ xs us->ZJ (xs.take n) (us.take n)
 |_,_,0,_=> .nil
 |_,_,_ + 1,.nil=> .nil
 |_,_,n + 1,.cons r t=> .cons r (ZJ.take n t)
theorem ZJ.drop: ∀ {xs:List V} {us:List Value} (n:Nat),ZJ xs us->ZJ (xs.drop n) (us.drop n)
 |_,_,0,r=>r
 |_,_,_ + 1,.nil=> .nil
 |_,_,n + 1,.cons _ t=>ZJ.drop n t
noncomputable def ZfR:Option V->Option Value->Prop
 |some v,some u=>ZC v u
 |none,none=>True
 |_,_=>False
noncomputable def KV {κ:Type}:List (κ × V)->List (κ × Value)->Prop:=Paired fun (p:κ × V) (q:κ × Value)=>p.1=q.1/\ZC p.2 q.2
noncomputable def kV:Key->V
 | .inl i=> .int i
 | .inr x=> .str x
inductive HO where
 |lst (xs:List V)
 |tup (xs:List V)
 |dK (kvs:List (Key × V)) | dT (kvs:List (List Key × V))
 |set (S:Int->Bool) (n:Nat)
 |ins (C dx:Addr) (fs:List (Str × V))
 |own (x:Addr)
 |xd (fs:List (Str × V))
 |met (f x:Addr)
 |rng (lo hi:Int)
 |frz (o:Obj) (u:HO)
 |tbl (ps:Array Value)
 |ext (φ:Heap->Prop)
noncomputable abbrev Hp:=Addr->Option HO
noncomputable def upd (H:Hp) (a:Addr) (o:HO):Hp:=fun b=>if b=a then some o else H b
theorem Zl {H:Hp} {a:Addr} {o:HO}:upd H a o a=some o:=by unfold upd;rw[if_pos rfl]
theorem Zm {H:Hp} {a b:Addr} {o:HO} (h:b≠a):upd H a o b=H b:=by unfold upd;rw[if_neg h]
theorem ZK {H:Hp} {a b:Addr} {o:HO} (h:H a=some o) (h':H b=none):a≠b:=by
 intro e;subst e;rw[h] at h';cases h'
section
variable (P:Program) (w:World)
noncomputable def Z2 (H:Hp) (h:Heap) (a:Addr):HO->Prop
 | .lst xs=>xs.length<=sizeLine/\ ∃ (its:List Value) (n:Nat),ZJ xs its/\h.get? a=some { cls:= .type "list",data:= .seq its.toArray n }
 | .tup xs=>xs.length<=sizeLine/\ ∃ its:List Value,ZJ xs its/\IsTup h a its.toArray
 | .dK kvs=>kvs.length<=sizeLine/\(a == sysModules)=false/\ ∃ vs,KV kvs vs/\h.DictOf (ZI P w) a vs
 | .dT kvs=>kvs.length<=sizeLine/\(a == sysModules)=false/\ ∃ xs:List (List Key × Addr × Value),
   Paired (fun (p:List Key × V) (q:List Key × Addr × Value)=>p.1=q.1/\H q.2.1=some (.tup (p.1.map kV))/\ZC p.2 q.2.2) kvs xs/\
   ∃ o es ep,h.get? a=some o/\o.ExactDict/\o.data= .dict es ep/\es.toList=xs.map (entryOfKey (tupleKind (ZI P w)))/\(xs.map (·.1)).Nodup
 | .set S n=>h.SetOf (intKind P w) a S n
 | .ins C dx fs=>H dx=some (.own a)/\fs.length<=1000/\dx≠a/\h.get? a=some (PySem.W.instObj C dx)/\
   ∃ mA,h.Ns1 dx mA/\(∀ f,ZfR (fs.lookup f) (mA f))/\PySem.Within mA (fs.map (·.1))
 | .own _=> ∃ o,h.get? a=some o
 | .xd fs=> ∃ mA,h.Ns1 a mA/\ ∀ f,ZfR (fs.lookup f) (mA f)
 | .rng lo hi=> ∃ t u v,h.get? a=some { cls:= .type "range",data:= .fields #[.int lo t,.int hi u,.int 1 v] }
 | .frz o u=>h.get? a=some o/\Z2 H h a u
 | .tbl ps=>h.get? a=some { cls:= .none,data:= .fields ps }
 | .met f x=>h.get? a=some (PySem.W.methodObj (.ref f) (.ref x))
 | .ext φ=>φ h/\(∃ o,h.get? a=some o)/\ ∀ h1 h2:Heap,φ h1->(∀ o,h1.get? a=some o->h2.get? a=some o)->φ h2
noncomputable def HOk (H:Hp) (h:Heap):Prop:= ∀ a o,H a=some o->Z2 P w H h a o
end
section
variable {P:Program} {w:World} {H H':Hp} {h h':Heap} {a:Addr} {o:HO}
theorem Z2.lt (x:Z2 P w H h a o):a < h.objs.size:=by
 cases o with
 |lst xs=>obtain ⟨_,_,_,_,e⟩:=x;exact Heap.lt_size e
 |tup xs=>obtain ⟨_,_,_,p⟩:=x;exact p.lt
 |dK kvs=>obtain ⟨_,_,_,_,o,_,_,e,_⟩:=x;exact Heap.lt_size e
 |dT kvs=>obtain ⟨_,_,_,_,o,_,_,e,_⟩:=x;exact Heap.lt_size e
 |set S n=>obtain ⟨o,_,_,_,e,_⟩:=x;exact Heap.lt_size e
 |ins C dx fs=>obtain ⟨_,_,_,e,_⟩:=x;exact Heap.lt_size e
 |own y=>obtain ⟨_,e⟩:=x;exact Heap.lt_size e
 |xd fs=>obtain ⟨_,⟨_,_,_,e,_⟩,_⟩:=x;exact Heap.lt_size e
 |rng lo hi=>obtain ⟨_,_,_,e⟩:=x;exact Heap.lt_size e
 |frz ob u=>obtain ⟨e,_⟩:=x;exact Heap.lt_size e
 |tbl ps=>exact Heap.lt_size (show h.get? a=some _ from x)
 |met f y=>exact Heap.lt_size (show h.get? a=some _ from x)
 |ext φ=>obtain ⟨_,⟨_,e⟩,_⟩:=x;exact Heap.lt_size e
theorem Paired.mapP {α β:Type} {F G:α->β->Prop}: ∀ {l₁:List α} {l₂:List β},Paired F l₁ l₂->(∀ a b,F a b->G a b)->Paired G l₁ l₂
 |_,_,.nil,_=> .nil
 |_,_,.cons r t,f=> .cons (f _ _ r) (Paired.mapP t f)
theorem Z2.stay (x:Z2 P w H h a o) (k: ∀ b u,(b=a\/H b=some (.own a))->h.get? b=some u->h'.get? b=some u)
  (ho: ∀ b,H b=some (.own a)->H' b=some (.own a)) (ht: ∀ b xs,H b=some (.tup xs)->H' b=some (.tup xs)):Z2 P w H' h' a o:=by
 induction o with
 |lst xs=>obtain ⟨z,its,n,r,e⟩:=x;exact ⟨z,its,n,r,k _ _ (.inl rfl) e⟩
 |tup xs=>obtain ⟨z,its,r,ob,e,c⟩:=x;exact ⟨z,its,r,ob,k _ _ (.inl rfl) e,c⟩
 |dK kvs=>obtain ⟨z,y,vs,r,ob,es,ep,e,c⟩:=x;exact ⟨z,y,vs,r,ob,es,ep,k _ _ (.inl rfl) e,c⟩
 |dT kvs=>
  obtain ⟨z,y,xs,r,ob,es,ep,e,c⟩:=x
  exact ⟨z,y,xs,Paired.mapP r fun p q z=>⟨z.1,ht _ _ z.2.1,z.2.2⟩,ob,es,ep,k _ _ (.inl rfl) e,c⟩
 |set S n=>obtain ⟨ob,es,ep,t,e,c⟩:=x;exact ⟨ob,es,ep,t,k _ _ (.inl rfl) e,c⟩
 |ins C dx fs=>
  obtain ⟨d,z,ne,e,mA,⟨od,es,ep,e2,c⟩,r⟩:=x
  exact ⟨ho _ d,z,ne,k _ _ (.inl rfl) e,mA,⟨od,es,ep,k _ _ (.inr d) e2,c⟩,r⟩
 |own y=>obtain ⟨ob,e⟩:=x;exact ⟨ob,k _ _ (.inl rfl) e⟩
 |xd fs=>obtain ⟨mA,⟨od,es,ep,e,c⟩,r⟩:=x;exact ⟨mA,⟨od,es,ep,k _ _ (.inl rfl) e,c⟩,r⟩
 |rng lo hi=>obtain ⟨t,u,v,e⟩:=x;exact ⟨t,u,v,k _ _ (.inl rfl) e⟩
 |frz ob u ih=>obtain ⟨e,q⟩:=x;exact ⟨k _ _ (.inl rfl) e,ih q⟩
 |tbl ps=>
  have e:h.get? a=some { cls:= .none,data:= .fields ps }:=x
  show h'.get? a=some { cls:= .none,data:= .fields ps }
  exact k a _ (.inl rfl) e
 |met f y=>
  have e:h.get? a=some (PySem.W.methodObj (.ref f) (.ref y)):=x
  show h'.get? a=some (PySem.W.methodObj (.ref f) (.ref y))
  exact k a _ (.inl rfl) e
 |ext φ=>obtain ⟨p,⟨o,e⟩,st⟩:=x;exact ⟨st _ _ p fun o q=>k _ _ (.inl rfl) q,⟨o,k _ _ (.inl rfl) e⟩,st⟩
theorem HOk.lt (x:HOk P w H h) (e:H a=some o):a < h.objs.size:=(x a o e).lt
theorem HOk.fresh (x:HOk P w H h) (e:h.objs.size<=a):H a=none:=by
 cases q:H a with
 |none=>rfl
 |some u=>exact absurd (Nat.lt_of_lt_of_le (x.lt q) e) (Nat.lt_irrefl _)
theorem HOk.kept (x:HOk P w H h) (k: ∀ b u,h.get? b=some u->h'.get? b=some u):HOk P w H h':=fun a o e=>
 (x a o e).stay (fun b u _ q=>k b u q) (fun _ q=>q) fun _ _ q=>q
theorem HOk.laid (x:HOk P w H h) (k: ∀ b u,h.get? b=some u->h'.get? b=some u) (hp:h.objs.size<=a) (new:Z2 P w (upd H a o) h' a o):HOk P w (upd H a o) h':=fun b u e=>by
 have hn:=x.fresh hp
 by_cases hb:b=a
 ·subst hb;rw[Zl] at e;cases e;exact new
 ·rw[Zm hb] at e
  exact (x b u e).stay (fun c v _ q=>k c v q) (fun c q=>by rw[Zm (ZK q hn)];exact q) fun c xs q=>by rw[Zm (ZK q hn)];exact q
end
noncomputable def Rd (H:Hp) (a:Addr) (u:HO):Prop:=H a=some u\/ ∃ o,H a=some (.frz o u)
theorem Rd.ok {P:Program} {w:World} {H:Hp} {h:Heap} {a:Addr} {u:HO} (r:Rd H a u) (x:HOk P w H h):Z2 P w H h a u:=by
 rcases r with r | ⟨o,r⟩
 ·exact x a u r
 ·obtain ⟨_,q⟩:=x a _ r
  exact q
noncomputable def Mut:Option HO->Prop
 |some (.lst _)=>True
 |some (.dK _)=>True
 |some (.dT _)=>True
 |some (.set _ _)=>True
 |some (.ins _ _ _)=>True
 |some (.ext _)=>True
 |_=>False
section
variable {P:Program} {w:World} {H:Hp} {h h':Heap} {x e:Addr} {o':HO}
theorem HOk.write (ok:HOk P w H h) (mu:Mut (H x)) (he:e=x\/H e=some (.own x)) (k: ∀ b u,b≠e->h.get? b=some u->h'.get? b=some u) (heo: ∃ u,h'.get? e=some u)
  (new:Z2 P w (upd H x o') h' x o'):HOk P w (upd H x o') h':=fun b u q=>by
 have nown: ∀ c y,H c=some (.own y)->c≠x:=fun c y r z=>by subst z;rw[r] at mu;exact mu
 have ntup: ∀ c xs,H c=some (.tup xs)->c≠x:=fun c xs r z=>by subst z;rw[r] at mu;exact mu
 by_cases hb:b=x
 ·subst hb;rw[Zl] at q;cases q;exact new
 ·rw[Zm hb] at q
  by_cases hbe:b=e
  ·have q':H b=some (.own x):=by
    rcases he with z | z
    ·exact absurd (hbe.trans z) hb
    ·rw[hbe];exact z
   rw[q] at q';cases q'
   obtain ⟨v,hv⟩:=heo
   exact ⟨v,by rw[hbe];exact hv⟩
  ·refine (ok b u q).stay (fun c v hc r=>k c v ?_ r) (fun c r=>by rw[Zm (nown c b r)];exact r) fun c xs r=>by rw[Zm (ntup c xs r)];exact r
   rcases hc with rfl | hc
   ·exact hbe
   ·rintro rfl
    rcases he with z | z
    ·exact nown c b hc z
    ·rw[hc] at z;cases z;exact hb rfl
end
structure Un (fs ex:List Addr) (H H':Hp) (h h':Heap):Prop where
 keep: ∀ b o,h.get? b=some o->H b=none->b ∉ fs->b ∉ ex->h'.get? b=some o
 slot: ∀ b o,h.get? b=some o->H b=none->b∈fs->b ∉ ex-> ∃ sl,h'.get? b=some { o with slots:=sl }
 free: ∀ b o,h.get? b=some o->H b=none->b ∉ ex->H' b=none
 there: ∀ b o,h.get? b=some o->b ∉ ex-> ∃ o',h'.get? b=some o'
 tups: ∀ b xs,H b=some (.tup xs)->H' b=some (.tup xs)
 frzs: ∀ b o u,H b=some (.frz o u)->H' b=some (.frz o u)
 tbls: ∀ b ps,H b=some (.tbl ps)-> ∃ more,H' b=some (.tbl (ps ++ more))
section
variable {fs fs' ex ex':List Addr} {H H1 H2:Hp} {h h1 h2 h':Heap} {a x e:Addr} {o:HO}
theorem Un.any (u:Un fs ex H H1 h h1) {b:Addr} {ob:Obj} (q:h.get? b=some ob) (n:H b=none) (hx:b ∉ ex): ∃ sl,h1.get? b=some { ob with slots:=sl }:=by
 by_cases hb:b∈fs
 ·exact u.slot b ob q n hb hx
 ·exact ⟨ob.slots,u.keep b ob q n hb hx⟩
theorem Un.kept (k: ∀ b u,h.get? b=some u->h'.get? b=some u):Un fs ex H H h h':=
 ⟨fun b ob q _ _ _=>k b ob q,fun b ob q _ _ _=>⟨ob.slots,k b ob q⟩,fun _ _ _ n _=>n,fun b ob q _=>⟨ob,k b ob q⟩,fun _ _ q=>q,fun _ _ _ q=>q,fun _ ps q=>⟨#[],by rw[q];simp⟩⟩
theorem Un.refl:Un fs ex H H h h:=Un.kept fun _ _ q=>q
theorem Un.laid (k: ∀ b u,h.get? b=some u->h'.get? b=some u) (hp:h.objs.size<=a) (hn:H a=none):Un fs ex H (upd H a o) h h' where
 keep:=fun b u q _ _ _=>k b u q
 slot:=fun b u q _ _ _=>⟨u.slots,k b u q⟩
 free:=fun b u q n _=>by rw[Zm (Nat.ne_of_lt (Nat.lt_of_lt_of_le (Heap.lt_size q) hp))];exact n
 there:=fun b u q _=>⟨u,k b u q⟩
 tups:=fun b xs q=>by rw[Zm (ZK q hn)];exact q
 frzs:=fun b u xs q=>by rw[Zm (ZK q hn)];exact q
 tbls:=fun b ps q=>⟨#[],by rw[Zm (ZK q hn),q];simp⟩
theorem Un.write (mu:Mut (H x)) (he:e=x\/H e=some (.own x)) (k: ∀ b u,b≠e->h.get? b=some u->h'.get? b=some u) (heo: ∃ u,h'.get? e=some u):Un fs ex H (upd H x o) h h':=by
 have hx: ∀ b,H b=none->b≠x:=fun b n z=>by subst z;rw[n] at mu;exact mu
 have hb: ∀ b,H b=none->b≠e:=fun b n z=>by
  subst z
  rcases he with r | r
  ·exact hx b n r
  ·rw[n] at r;cases r
 have hm: ∀ b u,H b=some u-> ¬ Mut (some u)->b≠x:=fun b u q nm z=>by subst z;rw[q] at mu;exact nm mu
 refine ⟨fun b u q n _ _=>k b u (hb b n) q,fun b u q n _ _=>⟨u.slots,k b u (hb b n) q⟩,fun b u q n _=>by rw[Zm (hx b n)];exact n,fun b u q _=> ?_,
  fun b xs q=>by rw[Zm (hm b _ q fun z=>z)];exact q,fun b u xs q=>by rw[Zm (hm b _ q fun z=>z)];exact q,fun b ps q=>⟨#[],by rw[Zm (hm b _ q fun z=>z),q];simp⟩⟩
 by_cases hbe:b=e
 ·subst hbe;exact heo
 ·exact ⟨u,k b u hbe q⟩
end
noncomputable def trk (h:Heap) (H:Hp):List Addr:=(List.range h.objs.size).filter fun a=>(H a).isSome
noncomputable def ZeU (h:Heap) (H:Hp):Heap:=PySem.W.hideAll h (trk h H)
theorem ZdJ (h:Heap) (H:Hp):(ZeU h H).objs.size=h.objs.size:=PySem.W.hideAll_size _ _
theorem ZcW {h:Heap} {H:Hp} {b:Addr} {o:Obj} (e:h.get? b=some o) (n:H b=none):(ZeU h H).get? b=some o:=
 PySem.W.hideAll_get _ e fun hm=>by
  have q:(H b).isSome=true:=(List.mem_filter.mp hm).2
  rw[n] at q;simp at q
theorem ZdK {h:Heap} {H:Hp} {b:Addr} {o:Obj} (e:(ZeU h H).get? b=some o):h.get? b=some o/\H b=none:=by
 have e':h.get? b=some o:=PySem.W.of_hideAll (trk h H) e
 refine ⟨e',?_⟩
 cases q:H b with
 |none=>rfl
 |some x=>
  have hm:b∈trk h H:=List.mem_filter.mpr ⟨List.mem_range.mpr (Heap.lt_size e'),by simp[q]⟩
  have z:(ZeU h H).get? b=none:=PySem.W.hideAll_none (trk h H) hm
  rw[z] at e;cases e
end L2
namespace L2
open PySem PySem.Spec PyProof.Rows
structure Mod (K:PySem.W.Frag) (mg:Str->Option Value) (base:Heap):Prop where
 kin:K.In base
 glob:base.Ns mainGlobals mg
 blt: ∃ mb,base.Ns builtinsNs mb/\ ∀ x:Str,x≠"__name__"->mb x=bootBuiltins x
 nolimit:base.NoLimit
structure Cx where
 prog:Program
 w:World
 K:PySem.W.Frag
 mg:Str->Option Value
 base:Heap
 A:Around
 N:List Str
 s₀:Shared
 H₀:Hp
 env:Env
 outer:List Env
 stack:List Env
 ex:List Addr
 fn:Str->Bool
 calm:Bool
 pn:List (Addr × Obj)
 xe:Value->Shared->Prop
noncomputable def frs (l:List Env):List Addr:=l.filterMap (·.frame)
noncomputable abbrev Cx.fs (X:Cx):List Addr:=frs X.outer
noncomputable def Vis (sc:Scope) (x:Str):Prop:=sc.names.lookup x=some .local\/sc.names.lookup x=some .cell\/sc.names.lookup x=some .free
noncomputable def Loc (sc:Scope) (x:Str):Prop:=sc.names.lookup x=some .local\/sc.names.lookup x=some .cell
noncomputable def Znx (env:Env) (h:Heap) (m:Str->Option Value) (x:Str) (u:Value):Prop:=
 (env.kindOf x=some .local/\m x=some u)\/((env.kindOf x=some .cell\/env.kindOf x=some .free)/\ ∃ c,env.cells.lookup x=some c/\h.IsCell c (some u))
structure Cx.Ok (X:Cx):Prop where
 mod:Mod X.K X.mg X.base
 kind:X.env.scope.kind= .function
 glob:X.env.globals=mainGlobals
 blt:X.env.builtins=builtinsNs
 above:X.s₀.heap.objs.size<=X.env.locals
 inj: ∀ x y c,X.env.cells.lookup x=some c->X.env.cells.lookup y=some c->x=y
 has: ∀ x,(X.env.kindOf x=some .cell\/X.env.kindOf x=some .free)-> ∃ c,X.env.cells.lookup x=some c
 cab: ∀ x c,X.fn x=true->X.env.cells.lookup x=some c->X.s₀.heap.objs.size<=c
 hd:X.calm=true->X.A.handled=none
 frames:X.A.frames=some X.stack
 stk:X.stack=X.outer\/(X.stack=X.env :: X.outer/\X.env.frame=some X.env.locals)
 exf: ∀ b∈X.ex,b≠X.env.locals/\ ∀ x c,X.env.cells.lookup x=some c->c≠b
 bs: ∀ b o,X.base.get? b=some o->X.s₀.heap.get? b=some o/\X.H₀ b=none
 bsz:X.base.objs.size<=X.s₀.heap.objs.size
 noex: ∀ b o,X.base.get? b=some o->b ∉ X.ex
 exfs: ∀ b∈X.ex,b ∉ X.fs
 funs:X.s₀.heap.FunFrames X.base X.outer
 frf: ∀ b∈X.fs,X.H₀ b=none
noncomputable def Qd (A:Around) (H:Hp):Prop:=A.handled=none\/ ∃ ea oe u vs,A.handled=some (.ref ea)/\H ea=some (.frz oe u)/\oe.data= .fields vs/\vs[2]?=some .none
theorem Qd.mono {A:Around} {H H':Hp} (q:Qd A H) (k: ∀ b o u,H b=some (.frz o u)->H' b=some (.frz o u)):Qd A H':=by
 rcases q with q | ⟨ea,oe,u,vs,e1,e2,e3,e4⟩
 ·exact .inl q
 ·exact .inr ⟨ea,oe,u,vs,e1,k _ _ _ e2,e3,e4⟩
structure Inv (X:Cx) (pins:List (Addr × Obj)) (σ:List (Option V)) (H:Hp) (s:Shared):Prop where
 ok:X.Ok
 os:s.os=X.s₀.os
 bare:AllBare s.gens
 base:Un X.fs X.ex X.H₀ H X.s₀.heap s.heap
 loc: ∃ m,s.heap.Ns X.env.locals m/\ ∀ (i:Nat) (x:Str) (v:V),X.N[i]?=some x->σ[i]?=some (some v)->Vis X.env.scope x-> ∃ u,ZC v u/\Znx X.env s.heap m x u
 cell: ∀ x c,X.env.cells.lookup x=some c-> ∃ v,s.heap.IsCell c v
 free:H X.env.locals=none
 freeC: ∀ x c,X.env.cells.lookup x=some c->H c=none
 pin: ∀ p∈X.pn ++ pins,s.heap.get? p.1=some p.2/\H p.1=none/\p.1≠X.env.locals/\p.1 ∉ X.fs/\ ∀ v,p.2.data≠ .cell v
 hok:HOk X.prog X.w H s.heap
 len:σ.length=X.N.length
 qd:Qd X.A H
section
variable {X:Cx} {pins:List (Addr × Obj)} {σ:List (Option V)} {H H':Hp} {s:Shared} {h':Heap}
theorem Cx.Ok.nofr (ok:X.Ok) {b:Addr} {o:Obj} (e:X.base.get? b=some o):b ∉ X.fs:=fun hb=>by
 have:=(ok.funs.mem hb).1
 rw[e] at this;cases this
theorem Inv.bs (I:Inv X pins σ H s): ∀ b o,X.base.get? b=some o->s.heap.get? b=some o/\H b=none:=fun b o e=>
 ⟨I.base.keep b o (I.ok.bs b o e).1 (I.ok.bs b o e).2 (I.ok.nofr e) (I.ok.noex b o e),I.base.free b o (I.ok.bs b o e).1 (I.ok.bs b o e).2 (I.ok.noex b o e)⟩
theorem Inv.qh (I:Inv X pins σ H s):DQ.Zac X.A s.heap:=by
 rcases I.qd with q | ⟨ea,oe,u,vs,e1,e2,e3,e4⟩
 ·exact .inl q
 ·exact .inr ⟨ea,oe,vs,e1,(I.hok _ _ e2).1,e3,e4⟩
theorem Inv.bk (I:Inv X pins σ H s): ∀ b o,X.base.get? b=some o->s.heap.get? b=some o:=fun b o e=>(I.bs b o e).1
theorem Inv.mod (I:Inv X pins σ H s):Mod X.K X.mg X.base:=I.ok.mod
theorem Inv.kIn (I:Inv X pins σ H s):X.K.In s.heap:=I.ok.mod.kin.keeps I.bk
theorem Inv.fr (I:Inv X pins σ H s): ∃ m,Fr X.base X.env.locals s.heap m:=
 let ⟨m,hn,_⟩:=I.loc
 ⟨m,hn,I.bk,Nat.le_trans I.ok.bsz I.ok.above⟩
theorem Inv.lt (I:Inv X pins σ H s):X.env.locals < s.heap.objs.size:=let ⟨_,hn,_⟩:=I.loc;hn.lt
theorem Inv.sz (I:Inv X pins σ H s):X.s₀.heap.objs.size<=s.heap.objs.size:=Nat.le_trans I.ok.above (Nat.le_of_lt I.lt)
theorem Inv.nofs (I:Inv X pins σ H s) {a:Addr} (h:s.heap.objs.size<=a):a ∉ X.fs:=fun hb=>by
 obtain ⟨_,o,ho,_⟩:=I.ok.funs.mem hb
 exact absurd (Nat.lt_of_lt_of_le (Heap.lt_size ho) (Nat.le_trans I.sz h)) (Nat.lt_irrefl _)
theorem Inv.cne (I:Inv X pins σ H s): ∀ x c,X.env.cells.lookup x=some c->c≠X.env.locals:=fun x c e z=>by
 obtain ⟨v,o,ho,hd⟩:=I.cell x c e
 obtain ⟨m,⟨o',es,ep,ho',hd',_⟩,_⟩:=I.loc
 rw[z,ho'] at ho;cases ho;rw[hd'] at hd;cases hd
theorem Inv.funs (I:Inv X pins σ H s):s.heap.FunFrames X.base X.outer:=by
 have all: ∀ (l:List Env),(∀ b∈frs l,b∈X.fs)->X.s₀.heap.FunFrames X.base l->s.heap.FunFrames X.base l:=by
  intro l
  induction l with
  |nil=>intro _ _;trivial
  |cons env r ih=>
   intro hs hl
   obtain ⟨hk,⟨L,o,hf,hn,ho,hd⟩,hr⟩:=hl
   have hL:L∈X.fs:=hs L (by unfold frs;rw[List.filterMap_cons,hf];exact List.mem_cons_self)
   obtain ⟨sl,e⟩:=I.base.slot L o ho (I.ok.frf L hL) hL fun z=>I.ok.exfs L z hL
   exact ⟨hk,⟨L,_,hf,hn,e,hd⟩,ih (fun b hb=>hs b (by unfold frs;rw[List.filterMap_cons,hf];exact List.mem_cons_of_mem _ hb)) hr⟩
 exact all X.outer (fun _ hb=>hb) I.ok.funs
theorem Inv.stack (I:Inv X pins σ H s):s.heap.FunFrames X.base X.stack:=by
 rcases I.ok.stk with e | ⟨e,hf⟩
 ·rw[e];exact I.funs
 ·rw[e]
  obtain ⟨m,hn,_⟩:=I.loc
  refine .cons (by rw[I.ok.kind];decide) hf hn ?_ I.funs
  exact Heap.get?_none_of_le (Nat.le_trans I.ok.bsz I.ok.above)
theorem Inv.stkSub (I:Inv X pins σ H s): ∀ b∈frs X.stack,b∈X.env.locals :: X.fs:=fun b hb=>by
 rcases I.ok.stk with e | ⟨e,hf⟩
 ·rw[e] at hb;exact List.mem_cons_of_mem _ hb
 ·rw[e] at hb
  unfold frs at hb
  rw[List.filterMap_cons,hf] at hb
  exact hb
theorem Inv.stkFree (I:Inv X pins σ H s): ∀ b∈frs X.stack,H b=none:=fun b hb=>by
 rcases List.mem_cons.mp (I.stkSub b hb) with e | hb
 ·rw[e];exact I.free
 ·obtain ⟨_,o,ho,_⟩:=I.ok.funs.mem hb
  exact I.base.free b o ho (I.ok.frf b hb) fun z=>I.ok.exfs b z hb
theorem Inv.step {g':Array GenState} {t':Nat} {d':Drawn} {ch:List Addr} (I:Inv X pins σ H s)
  (hch: ∀ b∈ch,(b∈X.ex\/X.s₀.heap.objs.size<=b)/\b≠X.env.locals/\(∀ x c,X.env.cells.lookup x=some c->c≠b)/\ ∀ p∈X.pn ++ pins,p.1≠b)
  (keep: ∀ b o,b≠X.env.locals->b ∉ X.fs->b ∉ ch->s.heap.get? b=some o->H b=none->h'.get? b=some o)
  (slot: ∀ b o,b≠X.env.locals->b∈X.fs->b ∉ ch->s.heap.get? b=some o->H b=none-> ∃ sl,h'.get? b=some { o with slots:=sl }) (free: ∀ b o,b ∉ ch->s.heap.get? b=some o->H b=none->H' b=none)
  (there: ∀ b o,b ∉ ch->s.heap.get? b=some o-> ∃ o',h'.get? b=some o')
  (tups: ∀ b xs,H b=some (.tup xs)->H' b=some (.tup xs)) (frzs: ∀ b o u,H b=some (.frz o u)->H' b=some (.frz o u)) (tbls: ∀ b ps,H b=some (.tbl ps)-> ∃ more,H' b=some (.tbl (ps ++ more)))
  (ns: ∀ m,s.heap.Ns X.env.locals m->h'.Ns X.env.locals m) (hok:HOk X.prog X.w H' h') (hg:AllBare g'):
  Inv X pins σ H' { s with heap:=h',gens:=g',drawn:=d',toks:=t' }:=by
 have neL: ∀ b o,X.s₀.heap.get? b=some o->b≠X.env.locals:=fun b o e=>Nat.ne_of_lt (Nat.lt_of_lt_of_le (Heap.lt_size e) I.ok.above)
 have neC: ∀ b o,X.s₀.heap.get? b=some o->b ∉ X.ex->b ∉ ch:=fun b o e hx hb=>by
  rcases (hch b hb).1 with z | z
  ·exact hx z
  ·exact absurd (Nat.lt_of_lt_of_le (Heap.lt_size e) z) (Nat.lt_irrefl _)
 have cellK: ∀ x c,X.env.cells.lookup x=some c-> ∀ v,s.heap.IsCell c v->h'.IsCell c v:=fun x c e v ⟨o,ho,hd⟩=>by
  have nch:c ∉ ch:=fun z=>(hch c z).2.2.1 x c e rfl
  by_cases hc:c∈X.fs
  ·obtain ⟨sl,q⟩:=slot c o (I.cne x c e) hc nch ho (I.freeC x c e)
   exact ⟨_,q,hd⟩
  ·exact ⟨o,keep c o (I.cne x c e) hc nch ho (I.freeC x c e),hd⟩
 refine ⟨I.ok,I.os,hg,⟨fun b o e n hb hx=> ?_,fun b o e n hb hx=> ?_,fun b o e n hx=> ?_,fun b o e hx=> ?_,fun b xs e=>tups b xs (I.base.tups b xs e),fun b o xs e=>frzs b o xs (I.base.frzs b o xs e),fun b ps e=> ?_⟩,?_,fun x c e=> ?_,?_,fun x c e=> ?_,fun p hp=> ?_,hok,I.len,I.qd.mono frzs⟩
 ·exact keep b o (neL b o e) hb (neC b o e hx) (I.base.keep b o e n hb hx) (I.base.free b o e n hx)
 ·obtain ⟨sl,e1⟩:=I.base.slot b o e n hb hx
  obtain ⟨sl',e2⟩:=slot b _ (neL b o e) hb (neC b o e hx) e1 (I.base.free b o e n hx)
  exact ⟨sl',e2⟩
 ·obtain ⟨o',e1⟩:=I.base.there b o e hx
  exact free b o' (neC b o e hx) e1 (I.base.free b o e n hx)
 ·obtain ⟨o',e1⟩:=I.base.there b o e hx
  exact there b o' (neC b o e hx) e1
 ·obtain ⟨m1,e1⟩:=I.base.tbls b ps e
  obtain ⟨m2,e2⟩:=tbls b _ e1
  exact ⟨m1 ++ m2,by rw[e2,Array.append_assoc]⟩
 ·obtain ⟨m,hn,hl⟩:=I.loc
  refine ⟨m,ns m hn,fun i x v e1 e2 e3=> ?_⟩
  obtain ⟨u,r,l⟩:=hl i x v e1 e2 e3
  refine ⟨u,r,?_⟩
  rcases l with l | ⟨k,c,e,z⟩
  ·exact .inl l
  ·exact .inr ⟨k,c,e,cellK x c e _ z⟩
 ·obtain ⟨v,z⟩:=I.cell x c e
  exact ⟨v,cellK x c e v z⟩
 ·obtain ⟨m,⟨o,_,_,ho,_⟩,_⟩:=I.loc
  exact free _ o (fun z=>(hch _ z).2.1 rfl) ho I.free
 ·obtain ⟨v,o,ho,hd⟩:=I.cell x c e
  exact free c o (fun z=>(hch c z).2.2.1 x c e rfl) ho (I.freeC x c e)
 ·obtain ⟨e,n,ne,nf,d⟩:=I.pin p hp
  have nch:p.1 ∉ ch:=fun z=>(hch p.1 z).2.2.2 p hp rfl
  exact ⟨keep p.1 p.2 ne nf nch e n,free p.1 p.2 nch e n,ne,nf,d⟩
theorem Inv.un {t':Nat} (I:Inv X pins σ H s) (u:Un X.fs [] H H' s.heap h') (hok:HOk X.prog X.w H' h'):Inv X pins σ H' { s with heap:=h',toks:=t' }:=by
 obtain ⟨m,⟨o,es,ep,ho,r⟩,_⟩:=id I.loc
 obtain ⟨sl,hL⟩:=u.any ho I.free (by simp)
 exact I.step (g':=s.gens) (d':=s.drawn) (ch:=[]) (fun _ z=>nomatch z) (fun b o _ hb _ e n=>u.keep b o e n hb (by simp)) (fun b o _ hb _ e n=>u.slot b o e n hb (by simp)) (fun b o _ e n=>u.free b o e n (by simp)) (fun b o _ e=>u.there b o e (by simp)) u.tups u.frzs u.tbls (fun m' hm=>by
  obtain ⟨o',es',ep',ho',r'⟩:=hm
  rw[ho] at ho';cases ho'
  exact ⟨_,es',ep',hL,r'⟩) hok I.bare
theorem Inv.call {g':Array GenState} {t':Nat} {d':Drawn} {ch:List Addr} (I:Inv X pins σ H s) (u:Un (frs X.stack) ch H H' s.heap h') (hok:HOk X.prog X.w H' h') (hg:AllBare g')
  (hch: ∀ b∈ch,(b∈X.ex\/X.s₀.heap.objs.size<=b)/\b≠X.env.locals/\(∀ x c,X.env.cells.lookup x=some c->c≠b)/\ ∀ p∈X.pn ++ pins,p.1≠b):
  Inv X pins σ H' { s with heap:=h',gens:=g',drawn:=d',toks:=t' }:=by
 obtain ⟨m,⟨o,es,ep,ho,r⟩,_⟩:=id I.loc
 obtain ⟨sl,hL⟩:=u.any ho I.free fun z=>(hch _ z).2.1 rfl
 exact I.step (ch:=ch) hch (fun b o hL hb hc e n=>u.keep b o e n (fun z=>(List.mem_cons.mp (I.stkSub b z)).elim hL hb) hc) (fun b o _ _ hc e n=>u.any e n hc) (fun b o hc e n=>u.free b o e n hc) (fun b o hc e=>u.there b o e hc) u.tups u.frzs u.tbls (fun m' hm=>by
  obtain ⟨o',es',ep',ho',r'⟩:=hm
  rw[ho] at ho';cases ho'
  exact ⟨_,es',ep',hL,r'⟩) hok hg
theorem Inv.turned {t':Nat} {it:Addr} (I:Inv X pins σ H s) (k: ∀ b o,b≠it->s.heap.get? b=some o->h'.get? b=some o) (hn:H it=none) (hL:it≠X.env.locals)
  (h1:it∈X.ex\/X.s₀.heap.objs.size<=it) (h2: ∀ x c,X.env.cells.lookup x=some c->c≠it) (h3: ∀ p∈X.pn ++ pins,p.1≠it):Inv X pins σ H { s with heap:=h',toks:=t' }:=by
 have nit: ∀ b u,H b=some u->b≠it:=fun b u e z=>by rw[z,hn] at e;cases e
 refine I.step (g':=s.gens) (d':=s.drawn) (ch:=[it]) (fun b hb=> ?_) (fun b o _ _ hc e _=>k b o (fun z=>hc (by simp[z])) e) (fun b o _ _ hc e _=>⟨o.slots,k b o (fun z=>hc (by simp[z])) e⟩) (fun _ _ _ _ n=>n)
  (fun b o hc e=>⟨o,k b o (fun z=>hc (by simp[z])) e⟩) (fun _ _ e=>e) (fun _ _ _ e=>e) (fun b ps e=>⟨#[],by rw[e];simp⟩) (fun m hm=> ?_) (fun b u e=> ?_) I.bare
 ·have e:b=it:=by simpa using hb
  subst e
  exact ⟨h1,hL,h2,h3⟩
 ·obtain ⟨o,es,ep,ho,r⟩:=hm
  exact ⟨o,es,ep,k _ o (Ne.symm hL) ho,r⟩
 ·refine (I.hok b u e).stay (fun c v hc q=>k c v ?_ q) (fun _ q=>q) fun _ _ q=>q
  rcases hc with z | z
  ·rw[z];exact nit b u e
  ·exact nit c _ z
theorem Inv.tok (I:Inv X pins σ H s) (t:Nat):Inv X pins σ H { s with toks:=t }:=I.un (h':=s.heap) (t':=t) Un.refl I.hok
theorem Inv.kept {t':Nat} (I:Inv X pins σ H s) (k: ∀ b u,s.heap.get? b=some u->h'.get? b=some u):Inv X pins σ H { s with heap:=h',toks:=t' }:=I.un (Un.kept k) (I.hok.kept k)
theorem Inv.laid {a:Addr} {o:HO} {t':Nat} (I:Inv X pins σ H s) (k: ∀ b u,s.heap.get? b=some u->h'.get? b=some u) (hp:s.heap.objs.size<=a) (new:Z2 X.prog X.w (upd H a o) h' a o):
  Inv X pins σ (upd H a o) { s with heap:=h',toks:=t' }:=I.un (Un.laid k hp (I.hok.fresh hp)) (I.hok.laid k hp new)
theorem Inv.write {x e:Addr} {o:HO} {t':Nat} (I:Inv X pins σ H s) (mu:Mut (H x)) (he:e=x\/H e=some (.own x)) (k: ∀ b u,b≠e->s.heap.get? b=some u->h'.get? b=some u) (heo: ∃ u,h'.get? e=some u)
  (new:Z2 X.prog X.w (upd H x o) h' x o):Inv X pins σ (upd H x o) { s with heap:=h',toks:=t' }:=I.un (Un.write mu he k heo) (I.hok.write mu he k heo new)
theorem Inv.pins_of {pins':List (Addr × Obj)} (I:Inv X pins σ H s) (h: ∀ p∈pins',s.heap.get? p.1=some p.2/\H p.1=none/\p.1≠X.env.locals/\p.1 ∉ X.fs/\ ∀ v,p.2.data≠ .cell v):Inv X pins' σ H s:=
 ⟨I.ok,I.os,I.bare,I.base,I.loc,I.cell,I.free,I.freeC,fun p hp=>(List.mem_append.mp hp).elim (fun z=>I.pin p (List.mem_append_left _ z)) (h p),I.hok,I.len,I.qd⟩
theorem ZcX {N:List Str} (hN:N.Nodup) {i j:Nat} {x:Str} (a:N[i]?=some x) (b:N[j]?=some x):i=j:=by
 obtain ⟨h1,e1⟩:=List.getElem?_eq_some_iff.mp a
 obtain ⟨h2,e2⟩:=List.getElem?_eq_some_iff.mp b
 exact (List.getElem_inj hN).mp (e1.trans e2.symm)
theorem ZdL {M:Model} {A:Around} {E:Value->Shared->Prop} {i:Nat} {x:Str} {v:V} {u:Value} {Q:Unit->Shared->Prop} (I:Inv X pins σ H s) (hN:X.N.Nodup) (hi:X.N[i]?=some x) (hx:Loc X.env.scope x) (r:ZC v u)
  (h: ∀ s',Inv X pins (σ.set i (some v)) H s'->(∃ a,Heap.SameBut a s.heap s'.heap/\(a=X.env.locals\/X.env.cells.lookup x=some a))->Q () s') (hf:X.fn x=true\/X.env.scope.names.lookup x=some .local:=by first | exact .inl rfl | exact .inr rfl | assumption):wpAny M A (storeName X.env x u) Q E s:=by
 obtain ⟨m,hn,hl⟩:=id I.loc
 have hcls:(X.env.scope.kind == .class || (X.env.scope.kind == .module && X.env.locals != X.env.globals))=false:=by rw[I.ok.kind];rfl
 have hiσ:i < σ.length:=by rw[I.len];exact (List.getElem?_eq_some_iff.mp hi).1
 have cne:=I.cne
 have tracked: ∀ {a:Addr} {h':Heap},(∃ o,s.heap.get? a=some o/\H a=none)->Heap.SameBut a s.heap h'->HOk X.prog X.w H h':=fun {a h'} ha hs b ob e=>by
  obtain ⟨_,_,hfree⟩:=ha
  refine (I.hok b ob e).stay (fun c w' hc q=>(hs.2 c ?_).trans q) (fun _ q=>q) fun _ _ q=>q
  rintro rfl
  rcases hc with rfl | hc
  ·rw[hfree] at e;cases e
  ·rw[hfree] at hc;cases hc
 rcases hx with hk | hk
 ·refine wpAny_storeName_local hk hn (fun h' hn' hs=> ?_) hcls
  obtain ⟨oL,_,_,hoL,_⟩:=id hn
  refine h _ ⟨I.ok,I.os,I.bare,⟨fun b o e n hb hx=> ?_,fun b o e n hb hx=> ?_,I.base.free,fun b o e hx=> ?_,I.base.tups,I.base.frzs,I.base.tbls⟩,⟨_,hn',fun j y v' e1 e2 e3=> ?_⟩,fun y c e=> ?_,I.free,I.freeC,fun p hp=> ?_,tracked ⟨oL,hoL,I.free⟩ hs,by simpa using I.len,I.qd⟩ ⟨_,hs,.inl rfl⟩
  ·exact (hs.2 b (Nat.ne_of_lt (Nat.lt_of_lt_of_le (Heap.lt_size e) I.ok.above))).trans (I.base.keep b o e n hb hx)
  ·obtain ⟨sl,e1⟩:=I.base.slot b o e n hb hx
   exact ⟨sl,(hs.2 b (Nat.ne_of_lt (Nat.lt_of_lt_of_le (Heap.lt_size e) I.ok.above))).trans e1⟩
  ·obtain ⟨o',e1⟩:=I.base.there b o e hx
   exact ⟨o',(hs.2 b (Nat.ne_of_lt (Nat.lt_of_lt_of_le (Heap.lt_size e) I.ok.above))).trans e1⟩
  ·by_cases hj:j=i
   ·subst hj
    rw[hi] at e1;cases e1
    rw[List.getElem?_set_self hiσ] at e2
    cases e2
    exact ⟨u,r,.inl ⟨hk,by simp⟩⟩
   ·rw[List.getElem?_set_ne (Ne.symm hj)] at e2
    obtain ⟨u',r',q⟩:=hl j y v' e1 e2 e3
    refine ⟨u',r',?_⟩
    rcases q with ⟨k,e⟩ | ⟨k,c,e,z⟩
    ·refine .inl ⟨k,?_⟩
     have:y≠x:=fun e=>hj (ZcX hN e1 (e ▸ hi))
     simp[this,e]
    ·exact .inr ⟨k,c,e,z.sameBut hs (cne y c e)⟩
  ·obtain ⟨w',z⟩:=I.cell y c e
   exact ⟨w',z.sameBut hs (cne y c e)⟩
  ·obtain ⟨e,n,ne,nf,d⟩:=I.pin p hp
   exact ⟨(hs.2 p.1 ne).trans e,n,ne,nf,d⟩
 ·have hfn:X.fn x=true:=by
   rcases hf with z | z
   ·exact z
   ·rw[z] at hk;cases hk
  obtain ⟨c,hc⟩:=I.ok.has x (.inl hk)
  obtain ⟨w',z⟩:=I.cell x c hc
  refine wpAny_storeName_cell I.ok.kind hk hc z (fun h' hc' hs=> ?_)
  obtain ⟨oc,hoc,hocd⟩:=id z
  refine h { s with heap:=h' } ⟨I.ok,I.os,I.bare,⟨fun b o e n hb hx=> ?_,fun b o e n hb hx=> ?_,I.base.free,fun b o e hx=> ?_,I.base.tups,I.base.frzs,I.base.tbls⟩,⟨m,hn.sameBut hs (Ne.symm (cne x c hc)),fun j y v' e1 e2 e3=> ?_⟩,fun y c' e=> ?_,I.free,I.freeC,fun p hp=> ?_,tracked ⟨oc,hoc,I.freeC x c hc⟩ hs,by simpa using I.len,I.qd⟩ ⟨c,hs,.inr hc⟩
  ·exact (hs.2 b (Nat.ne_of_lt (Nat.lt_of_lt_of_le (Heap.lt_size e) (I.ok.cab x c hfn hc)))).trans (I.base.keep b o e n hb hx)
  ·obtain ⟨sl,e1⟩:=I.base.slot b o e n hb hx
   exact ⟨sl,(hs.2 b (Nat.ne_of_lt (Nat.lt_of_lt_of_le (Heap.lt_size e) (I.ok.cab x c hfn hc)))).trans e1⟩
  ·obtain ⟨o',e1⟩:=I.base.there b o e hx
   exact ⟨o',(hs.2 b (Nat.ne_of_lt (Nat.lt_of_lt_of_le (Heap.lt_size e) (I.ok.cab x c hfn hc)))).trans e1⟩
  ·by_cases hj:j=i
   ·subst hj
    rw[hi] at e1;cases e1
    rw[List.getElem?_set_self hiσ] at e2
    cases e2
    exact ⟨u,r,.inr ⟨.inl hk,c,hc,hc'⟩⟩
   ·rw[List.getElem?_set_ne (Ne.symm hj)] at e2
    obtain ⟨u',r',q⟩:=hl j y v' e1 e2 e3
    refine ⟨u',r',?_⟩
    rcases q with q | ⟨k,c',e,z'⟩
    ·exact .inl q
    ·refine .inr ⟨k,c',e,z'.sameBut hs ?_⟩
     rintro rfl
     exact hj (ZcX hN e1 (I.ok.inj _ _ _ e hc ▸ hi))
  ·by_cases hcc:c'=c
   ·subst hcc;exact ⟨_,hc'⟩
   ·obtain ⟨w2,z2⟩:=I.cell y c' e
    exact ⟨w2,z2.sameBut hs hcc⟩
  ·obtain ⟨e,n,ne,nf,d⟩:=I.pin p hp
   refine ⟨(hs.2 p.1 ?_).trans e,n,ne,nf,d⟩
   intro q
   rw[q,hoc] at e
   have q':oc=p.2:=Option.some.inj e
   exact d w' (by rw[<- q'];exact hocd)
theorem Zay {M:Model} {A:Around} {E:Value->Shared->Prop} {i:Nat} {x:Str} {v:V} {u:Value} {Q:Unit->Shared->Prop} (I:Inv X pins σ H s) (hN:X.N.Nodup) (hi:X.N[i]?=some x) (hx:Loc X.env.scope x) (r:ZC v u)
  (h: ∀ s',Inv X pins (σ.set i (some v)) H s'->Q () s') (hf:X.fn x=true\/X.env.scope.names.lookup x=some .local:=by first | exact .inl rfl | exact .inr rfl | assumption):wpAny M A (storeName X.env x u) Q E s:=
 ZdL I hN hi hx r (fun s' I' _=>h s' I') hf
theorem Inv.call' {s':Shared} {ch:List Addr} (I:Inv X pins σ H s) (ho:s'.os=s.os) (u:Un (frs X.stack) ch H H' s.heap s'.heap) (hok:HOk X.prog X.w H' s'.heap) (hg:AllBare s'.gens)
  (hch: ∀ b∈ch,(b∈X.ex\/X.s₀.heap.objs.size<=b)/\b≠X.env.locals/\(∀ x c,X.env.cells.lookup x=some c->c≠b)/\ ∀ p∈X.pn ++ pins,p.1≠b):Inv X pins σ H' s':=by
 obtain ⟨h',g',d',t',o'⟩:=s'
 have e:o'=s.os:=ho
 subst e
 exact I.call (g':=g') (t':=t') (d':=d') u hok hg hch
end
noncomputable abbrev XK:=Value->Option Addr->Hp->Prop
noncomputable abbrev St:=List (Option V)
noncomputable abbrev VK:=V->Hp->Prop
noncomputable abbrev TE:=St->Hp->VK->Prop
noncomputable abbrev TT:=St->Hp->(Bool->Hp->Prop)->Prop
noncomputable abbrev TA:=St->Hp->(List V->Hp->Prop)->Prop
structure Ends where
 nx:St->Hp->Prop
 rt:VK
 bk:St->Hp->Prop:=fun _ _=>False
 ct:St->Hp->Prop:=fun _ _=>False
noncomputable abbrev TS:=Ends->St->Hp->Prop
noncomputable def EP (X:Cx) (pins:List (Addr × Obj)) (σ:St) (Q:VK) (u:Value) (s':Shared):Prop:= ∃ v H',Inv X pins σ H' s'/\ZC v u/\Q v H'
noncomputable def TP (X:Cx) (pins:List (Addr × Obj)) (σ:St) (Q:Bool->Hp->Prop) (b:Bool) (s':Shared):Prop:= ∃ H',Inv X pins σ H' s'/\Q b H'
noncomputable def AP (X:Cx) (pins:List (Addr × Obj)) (σ:St) (Q:List V->Hp->Prop) (us:List Value) (s':Shared):Prop:= ∃ vs H',Inv X pins σ H' s'/\ZJ vs us/\Q vs H'
noncomputable def SP (X:Cx) (pins:List (Addr × Obj)) (D:Ends) (f:Flow) (s':Shared):Prop:=
 match f with
 | .next=> ∃ σ' H',Inv X pins σ' H' s'/\D.nx σ' H'
 | .brk=> ∃ σ' H',Inv X pins σ' H' s'/\D.bk σ' H'
 | .cont=> ∃ σ' H',Inv X pins σ' H' s'/\D.ct σ' H'
 | .ret u=> ∃ v σ' H',Inv X pins σ' H' s'/\ZC v u/\D.rt v H'
noncomputable def PE (X:Cx) (e:Expr) (t:TE):Prop:=
 ∀ (pins:List (Addr × Obj)) (s:Shared) (σ:St) (H:Hp) (Q:VK),Inv X pins σ H s->t σ H Q->wpAny (model X.prog X.w) X.A (eval e X.env) (EP X pins σ Q) X.xe s
noncomputable def PT (X:Cx) (e:Expr) (t:TT):Prop:=
 ∀ (pins:List (Addr × Obj)) (s:Shared) (σ:St) (H:Hp) (Q:Bool->Hp->Prop),Inv X pins σ H s->t σ H Q->wpAny (model X.prog X.w) X.A (isTrue e X.env (eval e X.env)) (TP X pins σ Q) X.xe s
noncomputable def PW (X:Cx) (e:Expr) (t:TT):Prop:=
 ∀ (whole:Sem Value) (pins:List (Addr × Obj)) (s:Shared) (σ:St) (H:Hp) (Q:Bool->Hp->Prop),Inv X pins σ H s->t σ H Q->wpAny (model X.prog X.w) X.A (isTrue e X.env whole) (TP X pins σ Q) X.xe s
theorem PW.pt {X:Cx} {e:Expr} {t:TT} (h:PW X e t):PT X e t:=h _
noncomputable def PA (X:Cx) (es:List Expr) (t:TA):Prop:=
 ∀ (pos:Pos) (pins:List (Addr × Obj)) (s:Shared) (σ:St) (H:Hp) (Q:List V->Hp->Prop),Inv X pins σ H s->t σ H Q->wpAny (model X.prog X.w) X.A (spliced (backTo pos (starEach es X.env))) (AP X pins σ Q) X.xe s
noncomputable def PS (X:Cx) (st:Stmt) (t:TS):Prop:=
 ∀ (pins:List (Addr × Obj)) (s:Shared) (σ:St) (H:Hp) (D:Ends),Inv X pins σ H s->t D σ H->wpAny (model X.prog X.w) X.A (exec st X.env) (SP X pins D) X.xe s
noncomputable def PSs (X:Cx) (st:List Stmt) (t:TS):Prop:=
 ∀ (pins:List (Addr × Obj)) (s:Shared) (σ:St) (H:Hp) (D:Ends),Inv X pins σ H s->t D σ H->wpAny (model X.prog X.w) X.A (execs st X.env) (SP X pins D) X.xe s
theorem thn {α:Type} {t:Sem α} {Q Q':α->Shared->Prop} {M:Model} {A:Around} {E:Value->Shared->Prop} {s:Shared} (h:wpAny M A t Q E s) (hQ: ∀ a s,Q a s->Q' a s):wpAny M A t Q' E s:=wpAny_mono h hQ fun _ _ x=>x
end L2
namespace L2
open PySem PySem.Spec PyProof.Rows
section
variable {X:Cx}
theorem bin {a b:Expr} {ta tb:TE} (ha:PE X a ta) (hb:PE X b tb) {pins:List (Addr × Obj)} {s:Shared} {σ:St} {H:Hp} {R:V->V->Hp->Prop} (I:Inv X pins σ H s) (h:ta σ H fun x H1=>tb σ H1 fun y H2=>R x y H2)
  {α:Type} {Q:α->Shared->Prop} {f:Value->Value->Sem α}
  (hf: ∀ v u s2 x y H2,Inv X pins σ H2 s2->ZC x v->ZC y u->R x y H2->wpAny (model X.prog X.w) X.A (f v u) Q X.xe s2):
  wpAny (model X.prog X.w) X.A (eval a X.env) (fun v s₁=>wpAny (model X.prog X.w) X.A (eval b X.env) (fun u s₂=>wpAny (model X.prog X.w) X.A (f v u) Q X.xe s₂) X.xe s₁) X.xe s:=by
 refine thn (ha pins s σ H _ I h) fun v s1 ⟨x,H1,I1,r1,q1⟩=> ?_
 refine thn (hb pins s1 σ H1 _ I1 q1) fun u s2 ⟨y,H2,I2,r2,q2⟩=> ?_
 exact hf v u s2 x y H2 I2 r1 r2 q2
noncomputable def Zmw (i:Nat):TE:=fun σ H Q=> ∃ v,σ[i]?=some (some v)/\Q v H
noncomputable def tC (v:V):TE:=fun _ H Q=>Q v H
theorem ZdM {i:Nat} {x:Str} {pos:Pos} (hN:X.N[i]?=some x) (hv:Vis X.env.scope x) (hd:(x == ("__debug__":Str))=false:=by decide) (hcd:(x == ("__classdict__":Str))=false:=by decide):PE X (.Name x pos) (Zmw i):=by
 intro pins s σ H Q I h
 obtain ⟨v,e,h⟩:=h
 obtain ⟨m,hn,hl⟩:=I.loc
 obtain ⟨u,r,l⟩:=hl i x v hN e hv
 have fin:EP X pins σ Q u s:=⟨v,H,I,r,h⟩
 rcases l with ⟨hk,hm⟩ | ⟨hk,c,hc,hcell⟩
 ·exact wpAny_Name (wpAny_loadName_local I.ok.kind hk hn hm fin) hd
 ·rcases hk with hk | hk
  ·exact wpAny_Name (wpAny_loadName_cell I.ok.kind hk hc hcell fin) hd
  ·exact wpAny_Name (wpAny_loadName_free I.ok.kind hk hc hcell fin hcd) hd
theorem ZhT {i j pos}:PE X (.Constant (.int i) j pos) (tC (.int i)):=fun _ _ _ H _ I h=>wpAny_Constant_int ⟨.int i,H,I.tok _,⟨_,rfl⟩,h⟩
theorem ZkH {b j pos}:PE X (.Constant (.bool b) j pos) (tC (.bl b)):=fun _ _ _ H _ I h=>Constant_bool ⟨.bl b,H,I,rfl,h⟩
theorem ZhU {j pos}:PE X (.Constant .none j pos) (tC .non):=fun _ _ _ H _ I h=>Constant_none ⟨.non,H,I,rfl,h⟩
theorem ZfS {x j pos}:PE X (.Constant (.str x) j pos) (tC (.str x)):=fun _ _ _ H _ I h=>Calls.Constant_str ⟨.str x,H,I.tok _,⟨_,rfl⟩,h⟩
noncomputable def Gl (X:Cx) (x:Str):Prop:=X.env.kindOf x=some .globalImplicit
theorem Zcz {E:Value->Shared->Prop} {pins:List (Addr × Obj)} {s:Shared} {σ:St} {H:Hp} {x:Str} {u:Value} {pos:Pos} {Q:Value->Shared->Prop} (I:Inv X pins σ H s) (hg:Gl X x) (hm:X.mg x=some u) (h:Q u s)
  (hd:(x == ("__debug__":Str))=false:=by decide):wpAny (model X.prog X.w) X.A (eval (.Name x pos) X.env) Q E s:=
 Calls.Name_function_global I.ok.kind hg (Calls.loadGlobal_global (by rw[I.ok.glob];exact I.mod.glob.keeps I.bk) hm h) hd
theorem Zb0 {E:Value->Shared->Prop} {pins:List (Addr × Obj)} {s:Shared} {σ:St} {H:Hp} {x:Str} {u:Value} {pos:Pos} {Q:Value->Shared->Prop} (I:Inv X pins σ H s) (hg:Gl X x) (hm:X.mg x=none) (hv:bootBuiltins x=some u) (h:Q u s)
  (hn:x≠"__name__":=by decide) (hd:(x == ("__debug__":Str))=false:=by decide):wpAny (model X.prog X.w) X.A (eval (.Name x pos) X.env) Q E s:=by
 obtain ⟨mb,h1,h2⟩:=I.mod.blt
 exact Calls.Name_function_global I.ok.kind hg (Calls.loadGlobal_builtin (by rw[I.ok.glob];exact I.mod.glob.keeps I.bk) hm (by rw[I.ok.blt];exact h1.keeps I.bk) ((h2 x hn).trans hv) h) hd
theorem ZdN {x:Str} {v:V} {u:Value} {pos:Pos} (hg:Gl X x) (hm:X.mg x=some u) (r:ZC v u) (hd:(x == ("__debug__":Str))=false:=by decide):PE X (.Name x pos) (tC v):=
 fun _ _ _ H _ I h=>Zcz I hg hm ⟨v,H,I,r,h⟩ hd
theorem Zgj {x:Str} {v:V} {u:Value} {pos:Pos} (hg:Gl X x) (hm:X.mg x=none) (hv:bootBuiltins x=some u) (r:ZC v u) (hn:x≠"__name__":=by decide) (hd:(x == ("__debug__":Str))=false:=by decide):PE X (.Name x pos) (tC v):=
 fun _ _ _ H _ I h=>Zb0 I hg hm hv ⟨v,H,I,r,h⟩ hn hd
variable {a b:Expr} {ta tb:TE} {pos:Pos}
noncomputable def PC (X:Cx) (op:CmpOp) (a b:Expr) (t:TE):Prop:=
 ∀ (pins:List (Addr × Obj)) (s:Shared) (σ:St) (H:Hp) (Q:VK),Inv X pins σ H s->t σ H Q->
  wpAny (model X.prog X.w) X.A (eval a X.env) (fun v s₁=>wpAny (model X.prog X.w) X.A (eval b X.env) (fun u s₂=>wpAny (model X.prog X.w) X.A (compareOp op v u) (EP X pins σ Q) X.xe s₂) X.xe s₁) X.xe s
theorem ZeW (b:Expr) {op:CmpOp} (h:op≠ .In) (h2:op≠ .NotIn):behindInMarks op b=false:=by
 have e1:(op == CmpOp.In)=false:=by cases op<;>first | rfl | exact absurd rfl h
 have e2:(op == CmpOp.NotIn)=false:=by cases op<;>first | rfl | exact absurd rfl h2
 cases b<;>simp[behindInMarks,e1,e2]
noncomputable def tB (t:TE):TT:=fun σ H Q=>t σ H fun x H1=> ∃ c,x= .bl c/\Q c H1
theorem Zmx {op:CmpOp} {t:TE} (h:PC X op a b t) (h1:behindInMarks op b=false:=by first | exact ZeW _ (by decide) (by decide) | rfl):PT X (.Compare a [op] [b] pos) (tB t):=by
 intro pins s σ H Q I hw
 refine wpAny_isTrue_Compare1 (thn (h pins s σ H _ I hw) fun v s1 h1=>thn h1 fun u s2 h2=>thn h2 fun c s3 ⟨x,H1,I1,r1,q1⟩=> ?_) h1
 obtain ⟨d,rfl,q⟩:=q1
 cases r1
 exact wpAny_truthy_bool ⟨H1,I1,q⟩
theorem ZhV {e:Expr} {t:TE} (h:PE X e t) (he: ∀ whole,isTrue e X.env whole=(do let v <- whole;standAt e.pos;holding [v] (truthy v)):=by intro _;rfl):PT X e (tB t):=by
 intro pins s σ H Q I hw
 refine isTrue_plain (thn (h pins s σ H _ I hw) fun v s1 ⟨x,H1,I1,r1,q1⟩=> ?_) (he _)
 obtain ⟨d,rfl,q⟩:=q1
 cases r1
 exact wpAny_truthy_bool ⟨H1,I1,q⟩
variable {tA tB':TT} {rest:List Expr}
noncomputable def tOr (t u:TT):TT:=fun σ H Q=>t σ H fun c H1=>if c=true then Q true H1 else u σ H1 Q
noncomputable def Zny (t:TT):TT:=fun σ H Q=>t σ H fun c H1=>Q (!c) H1
theorem pw_and1 (ha:PT X a tA):PW X (.BoolOp .And [a] pos) tA:=by
 intro wh pins s σ H Q I h
 refine isTrue_and (thn (ha pins s σ H Q I h) fun c s1 e=> ?_)
 cases c with
 |true=>exact isTrue_and_nil e
 |false=>exact e
theorem pw_or1 (ha:PT X a tA):PW X (.BoolOp .Or [a] pos) tA:=by
 intro wh pins s σ H Q I h
 refine isTrue_or (thn (ha pins s σ H Q I h) fun c s1 e=> ?_)
 cases c with
 |false=>exact isTrue_or_nil e
 |true=>exact e
theorem pw_or (ha:PT X a tA) (hb:PW X (.BoolOp .Or (b :: rest) pos) tB'):PW X (.BoolOp .Or (a :: b :: rest) pos) (tOr tA tB'):=by
 intro wh pins s σ H Q I h
 refine isTrue_or (thn (ha pins s σ H _ I h) fun c s1 ⟨H1,I1,q1⟩=> ?_)
 cases c with
 |true=>exact ⟨H1,I1,q1⟩
 |false=>exact hb wh pins s1 σ H1 Q I1 q1
theorem ZhW (ha:PT X a tA):PT X (.UnaryOp .Not a pos) (Zny tA):=by
 intro pins s σ H Q I h
 exact isTrue_not (ha pins s σ H (fun c H1=>Q (!c) H1) I h)
noncomputable def ZkI (ta tb:TE):TE:=fun σ H Q=>ta σ H fun x H1=> ∃ c,x= .bl c/\if c=true then tb σ H1 Q else Q (.bl false) H1
theorem ZhX {op} {t:TE} (h:PE X a t):PE X (.BoolOp op [a] pos) t:=fun pins s σ H Q I hw=>BoolOp_one (h pins s σ H Q I hw)
theorem ZhY (ha:PE X a ta) (hb:PE X (.BoolOp .And (b :: rest) pos) tb):PE X (.BoolOp .And (a :: b :: rest) pos) (ZkI ta tb):=by
 intro pins s σ H Q I h
 refine BoolOp_and (thn (ha pins s σ H _ I h) fun v s1 ⟨x,H1,I1,r1,q1⟩=> ?_)
 obtain ⟨c,rfl,q1⟩:=q1
 cases r1
 refine wpAny_truthy_bool ?_
 cases c with
 |true=>exact hb pins s1 σ H1 Q I1 q1
 |false=>exact ⟨.bl false,H1,I1,rfl,q1⟩
end
end L2
namespace L2
open PySem PySem.Spec PyProof.Rows
noncomputable def SqL (K:PySem.W.Frag) (H:Hp) (a:Addr) (xs:List V):Prop:=
 Rd H a (.lst xs)\/
  ∃ (o:Obj) (its:Array Value) (n:Nat),K.lookup a=some o/\o.cls= .type "list"/\o.dict=none/\o.data= .seq its n/\its.size<=sizeLine/\ZJ xs its.toList
noncomputable def SqT (K:PySem.W.Frag) (H:Hp) (a:Addr) (xs:List V):Prop:=
 Rd H a (.tup xs)\/
  ∃ (o:Obj) (its:Array Value) (n:Nat),K.lookup a=some o/\o.cls= .type "tuple"/\o.data= .seq its n/\its.size<=sizeLine/\ZJ xs its.toList
noncomputable def Znz:Value->Option V
 | .none=>some .non
 | .bool b=>some (.bl b)
 | .int i _=>some (.int i)
 | .str x _=>some (.str x)
 | .bytes b _=>some (.byt b)
 | .float b _=>some (.flt b)
 | .ref a=>some (.ref a)
 | .type n=>some (.ty n)
 |_=>none
theorem ZC.abs {x:V} {u:Value} (r:ZC x u):Znz u=some x:=by
 cases x with
 |non=>cases r;rfl
 |bl _=>cases r;rfl
 |int _=>obtain ⟨t,rfl⟩:=r;rfl
 |str _=>obtain ⟨t,rfl⟩:=r;rfl
 |byt _=>obtain ⟨t,rfl⟩:=r;rfl
 |flt _=>obtain ⟨t,rfl⟩:=r;rfl
 |ref _=>cases r;rfl
 |ty _=>cases r;rfl
theorem ZC.inj {x y:V} {u:Value} (r:ZC x u) (q:ZC y u):x=y:=Option.some.inj (r.abs.symm.trans q.abs)
theorem ZJ.inj: ∀ {xs ys:List V} {us:List Value},ZJ xs us->ZJ ys us->xs=ys
 |_,_,_,.nil,.nil=>rfl
 |_,_,_,.cons r t,.cons r' t'=>by rw[r.inj r',ZJ.inj t t']
section
variable {X:Cx} {pins:List (Addr × Obj)} {σ:St} {H:Hp} {s:Shared} {a:Addr} {xs ys:List V}
theorem SqL.of {K:PySem.W.Frag} (h:H a=some (.lst xs)):SqL K H a xs:= .inl (.inl h)
theorem SqT.of {K:PySem.W.Frag} (h:H a=some (.tup xs)):SqT K H a xs:= .inl (.inl h)
theorem Inv.list (I:Inv X pins σ H s) (h:SqL X.K H a xs): ∃ its:List Value,ZJ xs its/\PlainL s.heap a its.toArray/\xs.length<=sizeLine:=by
 rcases h with h | ⟨o,its,n,hk,hc,hd,hs,hz,r⟩
 ·obtain ⟨z,its,n,r,e⟩:=h.ok I.hok
  exact ⟨its,r,⟨_,n,e,rfl,rfl,rfl⟩,z⟩
 ·refine ⟨its.toList,r,⟨o,n,I.kIn a o hk,hc,hd,by simpa using hs⟩,?_⟩
  have e:=r.length
  simp only[Array.length_toList] at e
  omega
theorem Inv.tuple (I:Inv X pins σ H s) (h:SqT X.K H a xs): ∃ its:List Value,ZJ xs its/\IsTup s.heap a its.toArray/\xs.length<=sizeLine:=by
 rcases h with h | ⟨o,its,n,hk,hc,hs,hz,r⟩
 ·obtain ⟨z,its,r,p⟩:=h.ok I.hok
  exact ⟨its,r,p,z⟩
 ·refine ⟨its.toList,r,⟨o,I.kIn a o hk,hc,n,by simpa using hs⟩,?_⟩
  have e:=r.length
  simp only[Array.length_toList] at e
  omega
theorem Inv.list_inj (I:Inv X pins σ H s) (h:SqL X.K H a xs) (h':SqL X.K H a ys):xs=ys:=by
 obtain ⟨its,r,⟨o,n,e,_,_,d⟩,_⟩:=I.list h
 obtain ⟨its',r',⟨o',n',e',_,_,d'⟩,_⟩:=I.list h'
 rw[e] at e';cases e'
 rw[d] at d'
 injection d' with d1 _
 have:its=its':=by simpa using congrArg Array.toList d1
 subst this
 exact r.inj r'
theorem Inv.tuple_inj (I:Inv X pins σ H s) (h:SqT X.K H a xs) (h':SqT X.K H a ys):xs=ys:=by
 obtain ⟨its,r,⟨o,e,_,n,d⟩,_⟩:=I.tuple h
 obtain ⟨its',r',⟨o',e',_,n',d'⟩,_⟩:=I.tuple h'
 rw[e] at e';cases e'
 rw[d] at d'
 injection d' with d1 _
 have:its=its':=by simpa using congrArg Array.toList d1
 subst this
 exact r.inj r'
end
section
variable {X:Cx} {pins:List (Addr × Obj)} {σ:St} {H:Hp} {s:Shared} {E:Value->Shared->Prop}
end
section
variable {X:Cx} {st:Stmt} {rest:List Stmt} {t u:TS} {e:Expr} {te:TE} {pos:Pos}
noncomputable def tNext:TS:=fun D σ H=>D.nx σ H
noncomputable def ZnA (t u:TS):TS:=fun D σ H=>t { D with nx:=u D } σ H
theorem Zgk:PSs X [] tNext:=fun _ _ σ H _ I h=>wpAny_execs_nil ⟨σ,H,I,h⟩
theorem ZeX (h1:PS X st t) (h2:PSs X rest u):PSs X (st :: rest) (ZnA t u):=by
 intro pins s σ H D I h
 refine wpAny_execs_cons (thn (h1 pins s σ H { D with nx:=u D } I h) fun f s1 q=> ?_)
 cases f with
 |next=>
  obtain ⟨σ',H',I',q⟩:=q
  exact h2 pins s1 σ' H' D I' q
 |ret v=>exact q
 |brk=>exact q
 |cont=>exact q
theorem Zgl (h1:PS X st t):PSs X [st] t:=by
 intro pins s σ H D I h
 refine wpAny_execs_cons (thn (h1 pins s σ H D I h) fun f s1 q=> ?_)
 cases f with
 |next=>exact wpAny_execs_nil q
 |ret v=>exact q
 |brk=>exact q
 |cont=>exact q
theorem Inv.quiet {pins:List (Addr × Obj)} {σ:St} {H:Hp} {s:Shared} (I:Inv X pins σ H s):interactive X.env=false:=by simp[interactive,I.ok.kind]
noncomputable def ZkJ (te:TE):TS:=fun D σ H=>te σ H fun _ H1=>D.nx σ H1
theorem Zgm (he:PE X e te) (hs:swapsWith e none pos.line X.env=pure false:=by rfl):PS X (.Expr e pos) (ZkJ te):=by
 intro pins s σ H D I h
 exact wpAny_Expr_any (thn (he pins s σ H _ I h) fun v s1 ⟨x,H1,I1,r1,q1⟩=>⟨σ,H1,I1,q1⟩) I.quiet hs
noncomputable def ZnB (te:TE):TS:=fun D σ H=>te σ H D.rt
theorem ZhZ (he:PE X e te):PS X (.Return (some e) pos) (ZnB te):=by
 intro pins s σ H D I h
 exact wpAny_Return_some (thn (he pins s σ H _ I h) fun v s1 ⟨x,H1,I1,r1,q1⟩=>⟨x,σ,H1,I1,r1,q1⟩)
noncomputable def ZnC (c:TT) (t u:TS):TS:=fun D σ H=>c σ H fun b H1=>if b=true then t D σ H1 else u D σ H1
theorem ZkK {c:Expr} {a b:List Stmt} {tc:TT} (hc:PT X c tc) (ha:PSs X a t) (hb:PSs X b u):PS X (.If c a b pos) (ZnC tc t u):=by
 intro pins s σ H D I h
 refine wpAny_If (thn (hc pins s σ H _ I h) fun d s1 ⟨H1,I1,q1⟩=> ?_)
 cases d with
 |true=>exact ha pins s1 σ H1 D I1 q1
 |false=>exact hb pins s1 σ H1 D I1 q1
end
noncomputable abbrev TG:=V->St->Hp->(St->Hp->Prop)->Prop
noncomputable abbrev TGs:=List V->St->Hp->(St->Hp->Prop)->Prop
noncomputable def PG (X:Cx) (target:Expr) (t:TG):Prop:=
 ∀ (pins:List (Addr × Obj)) (s:Shared) (σ:St) (H:Hp) (v:V) (u:Value) (Q:St->Hp->Prop),Inv X pins σ H s->ZC v u->t v σ H Q->
  wpAny (model X.prog X.w) X.A (assign target X.env u) (fun _ s'=> ∃ σ' H',Inv X pins σ' H' s'/\Q σ' H') X.xe s
noncomputable def PGs (X:Cx) (ts:List Expr) (t:TGs):Prop:=
 ∀ (pins:List (Addr × Obj)) (s:Shared) (σ:St) (H:Hp) (vs:List V) (us:List Value) (Q:St->Hp->Prop),Inv X pins σ H s->ZJ vs us->t vs σ H Q->
  wpAny (model X.prog X.w) X.A (assignInOrder ((assignEach ts X.env).map (·.2)) us) (fun _ s'=> ∃ σ' H',Inv X pins σ' H' s'/\Q σ' H') X.xe s
noncomputable abbrev ZkL:=V->V->V->Hp->(Hp->Prop)->Prop
noncomputable def Zmy (X:Cx) (t:ZkL):Prop:=
 ∀ (pins:List (Addr × Obj)) (s:Shared) (σ:St) (H:Hp) (o i v:V) (ov iv u:Value) (Q:Hp->Prop),Inv X pins σ H s->ZC o ov->ZC i iv->ZC v u->t o i v H Q->
  wpAny (model X.prog X.w) X.A (setItem ov iv u) (fun _ s'=> ∃ H',Inv X pins σ H' s'/\Q H') X.xe s
section
variable {X:Cx} {pos:Pos}
noncomputable def Zh0 (i:Nat):TG:=fun v σ H Q=>Q (σ.set i (some v)) H
theorem Zgn {i:Nat} {x:Str} (hN:X.N.Nodup) (hi:X.N[i]?=some x) (hx:Loc X.env.scope x) (hf:X.fn x=true\/X.env.scope.names.lookup x=some .local:=by first | exact .inl rfl | exact .inr rfl | assumption):PG X (.Name x pos) (Zh0 i):=by
 intro pins s σ H v u Q I r h
 exact wpAny_assign_Name (Zay I hN hi hx r (fun s' I'=>⟨_,H,I',h⟩) hf)
noncomputable def gNil:TGs:=fun vs σ H Q=>vs=[]/\Q σ H
noncomputable def ZkM (t:TG) (u:TGs):TGs:=fun vs σ H Q=> ∃ v r,vs=v :: r/\t v σ H fun σ' H'=>u r σ' H' Q
theorem Zgo:PGs X [] gNil:=by
 intro pins s σ H vs us Q I r h
 obtain ⟨e,h⟩:=h
 subst e
 cases r
 exact assignInOrder_nil ⟨σ,H,I,h⟩
theorem ZeY {e:Expr} {es:List Expr} {t:TG} {u:TGs} (h1:PG X e t) (h2:PGs X es u)
  (hs:(assignEach (e :: es) X.env).map (·.2)=assign e X.env :: (assignEach es X.env).map (·.2):=by rfl):PGs X (e :: es) (ZkM t u):=by
 intro pins s σ H vs us Q I r h
 obtain ⟨v,vr,e1,h⟩:=h
 subst e1
 cases r with
 |cons r rr=>
  rw[hs]
  refine assignInOrder_cons (thn (h1 pins s σ H _ _ _ I r h) fun _ s1 ⟨σ1,H1,I1,q1⟩=> ?_)
  exact h2 pins s1 σ1 H1 _ _ Q I1 rr q1
noncomputable def ZnD (K:PySem.W.Frag) (n:Nat) (t:TGs):TG:=fun v σ H Q=> ∃ a xs,v= .ref a/\SqT K H a xs/\xs.length=n/\t xs σ H Q
theorem Zh1 {es:List Expr} {k:Nat} {t:TGs} {n:Nat} (hc:X.calm=true) (h:PGs X es t)
  (hn:(assignEach es X.env).length=n:=by rfl) (hst:(assignEach es X.env).findIdx? (·.1)=none:=by rfl):PG X (.Tuple es k pos) (ZnD X.K n t):=by
 intro pins s σ H v u Q I r hw
 obtain ⟨a,xs,e1,hq,hl,hw⟩:=hw
 subst e1
 cases r
 obtain ⟨its,rv,ht,hz⟩:=I.tuple hq
 refine assign_Tuple_tuple (I.ok.hd hc) ht (by simp[hn,<- hl,rv.length]) hst fun h' hx=> ?_
 have I1:Inv X pins σ H { s with heap:=h' }:=I.kept (t':=s.toks) fun b o e=>hx b o (Nat.ne_of_lt (Heap.lt_size e)) e
 exact h pins _ σ H xs _ Q I1 (by simpa using rv) hw
noncomputable def ZnE (to ti:TE) (t:ZkL):TG:=fun v σ H Q=>to σ H fun o H1=>ti σ H1 fun i H2=>t o i v H2 fun H3=>Q σ H3
theorem Zh2 {o i:Expr} {to ti:TE} {t:ZkL} (ho:PE X o to) (hi:PE X i ti) (hs:Zmy X t)
  (ha: ∀ v,assign (.Subscript o i pos) X.env v=(do
   let ov <- holding [v] (eval o X.env)
   let iv <- holding [v,ov] (eval i X.env)
   standAt pos
   holding [v,ov,iv] (setItem ov iv v)
   release [v,ov,iv] []):=by intro _;rfl):PG X (.Subscript o i pos) (ZnE to ti t):=by
 intro pins s σ H v u Q I r h
 rw[ha]
 refine wpAny_bind (wpAny_holding (thn (ho pins s σ H _ I h) fun ov s1 ⟨x,H1,I1,r1,q1⟩=> ?_))
 refine wpAny_bind (wpAny_holding (thn (hi pins s1 σ H1 _ I1 q1) fun iv s2 ⟨y,H2,I2,r2,q2⟩=> ?_))
 refine wpAny_bind (wpAny_standAt (wpAny_bind (wpAny_holding (thn (hs pins s2 σ H2 x y v ov iv u _ I2 r1 r2 r q2) fun _ s3 ⟨H3,I3,q3⟩=> ?_))))
 exact wpAny_release ⟨σ,H3,I3,q3⟩
noncomputable def Zmz (te:TE) (g:TG):TS:=fun D σ H=>te σ H fun x H1=>g x σ H1 D.nx
theorem ZfT {tg e:Expr} {te:TE} {g:TG} (he:PE X e te) (hg:PG X tg g) (hs:swapsWithSole [tg] e pos.line X.env=pure false:=by rfl) (hw:swappedStores [tg] e X.env=pure none:=by rfl)
  (h1:(assignEach [tg] X.env).map (·.2)=[assign tg X.env]:=by rfl):PS X (.Assign [tg] e pos) (Zmz te g):=by
 intro pins s σ H D I h
 refine wpAny_Assign_stores (thn (he pins s σ H _ I h) fun v s1 ⟨x,H1,I1,r1,q1⟩=> ?_) hs hw
 rw[h1]
 exact thn (hg pins s1 σ H1 x v _ I1 r1 q1) fun _ s2 q=>q
theorem Zh3 {i:Nat} {x:Str} {e:Expr} {te:TE} {pos':Pos} (hN:X.N.Nodup) (hi:X.N[i]?=some x) (hx:Loc X.env.scope x) (he:PE X e te) (hs:swapsWith e (some (.Name x pos')) pos.line X.env=pure false:=by rfl) (hf:X.fn x=true\/X.env.scope.names.lookup x=some .local:=by first | exact .inl rfl | exact .inr rfl | assumption):
  PS X (.Assign [.Name x pos'] e pos) (Zmz te (Zh0 i)):=by
 intro pins s σ H D I h
 refine wpAny_Assign_Name (thn (he pins s σ H _ I h) fun v s1 ⟨y,H1,I1,r1,q1⟩=> ?_) hs
 exact Zay I1 hN hi hx r1 (fun s2 I2=>⟨_,H1,I2,q1⟩) hf
noncomputable def ZnF (i j:Nat) (ta:TA):TS:=fun D σ H=>ta σ H fun vs H1=> ∃ v w,vs=[v,w]/\D.nx ((σ.set i (some v)).set j (some w)) H1
theorem Zh4 {i j:Nat} {x y:Str} {a b:Expr} {ta:TA} {px py pt:Pos} {kt k2 pt2} (hc:X.calm=true) (hN:X.N.Nodup) (hi:X.N[i]?=some x) (hj:X.N[j]?=some y) (hij:i≠j)
  (hx:X.env.scope.names.lookup x=some .local) (hy:X.env.scope.names.lookup y=some .local) (ha:PA X [a,b] ta)
  (hw:swappedStores [.Tuple [.Name x px,.Name y py] kt pt] (.Tuple [a,b] k2 pt2) X.env=pure (some [x,y]))
  (hs:swapsWithSole [.Tuple [.Name x px,.Name y py] kt pt] (.Tuple [a,b] k2 pt2) pos.line X.env=pure false:=by rfl):
  PS X (.Assign [.Tuple [.Name x px,.Name y py] kt pt] (.Tuple [a,b] k2 pt2) pos) (ZnF i j ta):=by
 intro pins s σ H D I h
 rw[exec_Assign_arm]
 refine wpAny_bind (wpAny_standAt ?_)
 rw[hs]
 refine wpAny_bind (wpAny_pure ?_)
 rw[if_neg (by decide)]
 refine wpAny_bind (Tuple_ (thn (ha _ pins s σ H _ I h) fun us s1 ⟨vs,H1,I1,r1,q1⟩=> ?_))
 obtain ⟨v,w,e1,q1⟩:=q1
 subst e1
 obtain ⟨u1,u2,rfl,rv,rw'⟩: ∃ u1 u2,us=[u1,u2]/\ZC v u1/\ZC w u2:=by
  cases r1 with
  |cons p q=>
   cases q with
   |cons p' q'=>
    cases q'
    exact ⟨_,_,rfl,p,p'⟩
 refine wpAny_newObj_type ?_ (by show 2<=sizeLine;decide)
 have I2:Inv X pins σ H1 { s1 with heap:=s1.heap.push { cls:= .type "tuple",data:= .seq [u1,u2].toArray } }:=I1.kept (t':=s1.toks) fun b o e=>Heap.get?_push_of_some _ e
 rw[hw]
 refine wpAny_bind (wpAny_pure ?_)
 show wpAny (model X.prog X.w) X.A (do rule "assign.swapped-stores";let items <- unpackItems (.ref s1.heap.objs.size) 2 none;assignInOrder [fun v=>bindName X.env y v,fun v=>bindName X.env x v] items.reverse;pure Flow.next) _ _ _
 refine wpAny_bind (wpAny_rule (wpAny_bind (unpackItems_tuple (items:= #[u1,u2]) (I.ok.hd hc) (IsTup.new s1.heap _) fun h' hx'=> ?_)))
 have I3:=I2.kept (h':=h') (t':=s1.toks) fun b o e=>hx' b o (Nat.ne_of_lt (Heap.lt_size e)) e
 show wpAny _ _ (assignInOrder [fun v=>bindName X.env y v,fun v=>bindName X.env x v] [u2,u1] >>= fun _=>pure Flow.next) _ _ _
 refine wpAny_bind (assignInOrder_cons (wpAny_bindName (Zay I3 hN hj (.inl hy) rw' (fun s2 I4=> ?_) (.inr hy))))
 refine assignInOrder_cons (wpAny_bindName (Zay I4 hN hi (.inl hx) rv (fun s3 I5=>assignInOrder_nil (wpAny_pure ?_)) (.inr hx)))
 rw[List.set_comm _ _ (Ne.symm hij)] at I5
 exact ⟨_,H1,I5,q1⟩
end
section
variable {X:Cx} {pos:Pos}
noncomputable def Zh5 (c:TT) (tb:TS):TS:=fun D σ H=> ∃ W:Nat->St->Hp->Prop,(∃ m,W m σ H)/\ ∀ m σ H,W m σ H->
 c σ H fun b H1=>if b=true then ∃ N:St->Hp->Prop,(∀ σ' H',N σ' H'-> ∃ m',m' < m/\W m' σ' H')/\tb { D with nx:=N,ct:=N,bk:=D.nx } σ H1 else D.nx σ H1
theorem ZeZ {c:Expr} {body:List Stmt} {tc:TT} {tb:TS} (hp:PassesOwn (model X.prog X.w) X.A X.env X.xe) (hc:PT X c tc) (hb:PSs X body tb):PS X (.While c body [] pos) (Zh5 tc tb):=by
 intro pins s σ H D I h
 obtain ⟨W,⟨m0,w0⟩,turn⟩:=h
 refine wpAny_While (codeAny_whileLoop (fun n s'=> ∃ σ' H',Inv X pins σ' H' s'/\W n σ' H') ?_ m0 ⟨σ,H,I,w0⟩)
 rintro n s1 ⟨σ1,H1,I1,w1⟩
 refine wpAny_passesOwn hp (thn (hc pins s1 σ1 H1 _ I1 (turn n σ1 H1 w1)) fun b s2 ⟨H2,I2,q2⟩=> ?_)
 cases b with
 |true=>
  obtain ⟨N,hN,q2⟩:=q2
  rw[if_pos rfl]
  refine wpAny_passesOwn hp (thn (hb pins s2 σ1 H2 _ I2 q2) fun f s3 q3=> ?_)
  cases f with
  |next=>
   obtain ⟨σ3,H3,I3,n3⟩:=q3
   obtain ⟨m',hm,w3⟩:=hN σ3 H3 n3
   exact ⟨m',hm,σ3,H3,I3,w3⟩
  |cont=>
   obtain ⟨σ3,H3,I3,n3⟩:=q3
   obtain ⟨m',hm,w3⟩:=hN σ3 H3 n3
   exact ⟨m',hm,σ3,H3,I3,w3⟩
  |brk=>exact q3
  |ret v=>exact q3
 |false=>
  rw[if_neg Bool.false_ne_true]
  exact wpAny_execs_nil ⟨σ1,H2,I2,q2⟩
end
structure It where
 go:Nat->Hp->Prop
 yld:Nat->Hp->V->Hp->Prop
 stop:Nat->Hp->Prop
noncomputable def ZcA (X:Cx) (pins:List (Addr × Obj)) (H:Hp) (b:Addr):Prop:=
 H b=none/\b≠X.env.locals/\b ∉ X.fs/\(b∈X.ex\/X.s₀.heap.objs.size<=b)/\(∀ x c,X.env.cells.lookup x=some c->c≠b)/\ ∀ p∈X.pn ++ pins,p.1≠b
theorem Inv.fpOk {X:Cx} {pins:List (Addr × Obj)} {σ:St} {H H':Hp} {s:Shared} {b:Addr} (I:Inv X pins σ H s) (hb:s.heap.objs.size<=b) (hn:H' b=none):ZcA X pins H' b:=by
 refine ⟨hn,Nat.ne_of_gt (Nat.lt_of_lt_of_le I.lt hb),I.nofs hb,.inr (Nat.le_trans I.sz hb),fun x c e z=> ?_,fun p hp z=> ?_⟩
 ·obtain ⟨v,q⟩:=I.cell x c e
  exact absurd (Nat.lt_of_lt_of_le q.lt (by rw[z];exact hb)) (Nat.lt_irrefl _)
 ·exact absurd (Nat.lt_of_lt_of_le (Heap.lt_size (I.pin p hp).1) (by rw[z];exact hb)) (Nat.lt_irrefl _)
structure Turn (P:Program) (w:World) (K:PySem.W.Frag) (B:Around) (tg:Expr) (J:It) (fp:List Addr) (it:Addr) (tn:Nat->Heap->Prop):Prop where
 mem:it∈fp
 obj: ∀ i h,tn i h-> ∀ b∈fp,∃ o,h.get? b=some o/\ ∀ v,o.data≠ .cell v
 keep: ∀ i h h',tn i h->(∀ b∈fp,∀ o,h.get? b=some o->h'.get? b=some o)->tn i h'
 item: ∀ (X:Cx),X.prog=P->X.w=w->X.K=K->X.A=B-> ∀ (i:Nat) (pins:List (Addr × Obj)) (s:Shared) (σ:St) (H:Hp) (E:Value->Shared->Prop),Inv X pins σ H s->(∀ b∈fp,ZcA X pins H b)->tn i s.heap->J.go i H->
  wpAny (model P w) X.A (pyNext (.ref it)) (fun r s1=> ∃ u,r=some u/\
   wpAny (model P w) X.A (letOwnedTupleGo tg (.ref it) u) (fun _ s2=> ∃ x H',Inv X pins σ H' s2/\ZC x u/\J.yld i H x H'/\tn (i + 1) s2.heap/\ ∀ b∈fp,H' b=none) E s1) E s
 done: ∀ (X:Cx),X.prog=P->X.w=w->X.K=K->X.A=B-> ∀ (i:Nat) (pins:List (Addr × Obj)) (s:Shared) (σ:St) (H:Hp) (E:Value->Shared->Prop),Inv X pins σ H s->(∀ b∈fp,ZcA X pins H b)->tn i s.heap->J.stop i H->
  wpAny (model P w) X.A (pyNext (.ref it)) (fun r s1=>r=none/\Inv X pins σ H s1) E s
 self: ∀ (A:Around) (i:Nat) (s:Shared) (Q:Value->Shared->Prop) (E:Value->Shared->Prop),tn i s.heap->Q (.ref it) s->wpAny (model P w) A (pyIter (.ref it)) Q E s
noncomputable abbrev TI:=St->Hp->(It->Hp->Prop)->Prop
noncomputable def PIE (X:Cx) (pins:List (Addr × Obj)) (σ:St) (tg:Expr) (R:It->Hp->Prop) (itv:Value) (s2:Shared):Prop:=
 ∃ (it:Addr) (fp:List Addr) (tn:Nat->Heap->Prop) (J:It) (H':Hp),itv= .ref it/\Inv X pins σ H' s2/\Turn X.prog X.w X.K X.A tg J fp it tn/\tn 0 s2.heap/\(∀ b∈fp,ZcA X pins H' b)/\R J H'
noncomputable def PI (X:Cx) (tg iter:Expr) (wi:TI):Prop:=
 ∀ (pins:List (Addr × Obj)) (s:Shared) (σ:St) (H:Hp) (R:It->Hp->Prop),Inv X pins σ H s->wi σ H R->
  wpAny (model X.prog X.w) X.A (eval iter X.env) (fun v s1=>wpAny (model X.prog X.w) X.A (pyIter v) (PIE X pins σ tg R) X.xe s1) X.xe s
theorem Ze0 {M:Model} {A:Around} {E:Value->Shared->Prop} {s:Shared} {tg:Expr} {it:Addr} {u:Value} {o:Obj} {n:String} {vs:Array Value} {Q:Unit->Shared->Prop} (ho:s.heap.get? it=some o) (hc:o.cls= .type n) (hd:o.data= .fields vs)
  (hn:["enumerate","zip","dict_itemiterator","dict_reverseitemiterator","odict_iterator","itertools.zip_longest","itertools.pairwise"].contains n=false) (hQ:Q () s):wpAny M A (letOwnedTupleGo tg (.ref it) u) Q E s:=by
 unfold letOwnedTupleGo
 cases tg<;>first
  |exact wpAny_pure hQ
  | (cases u<;>first
    |exact wpAny_pure hQ
    | (refine wpAny_bind (wpAny_load ho ?_)
       rw[hc,hd]
       show wpAny M A (if (["enumerate","zip","dict_itemiterator","dict_reverseitemiterator","odict_iterator","itertools.zip_longest","itertools.pairwise"].contains n && vs[0]? == some (rawInt _))=true then _ else _) Q E s
       rw[if_neg (by intro h;rw[hn,Bool.false_and] at h;cases h)]
       exact wpAny_pure hQ))
noncomputable def Itl (K:PySem.W.Frag) (a:Addr):It:=
 ⟨fun i H=> ∃ xs x,SqL K H a xs/\xs[i]?=some x,fun i H x H'=>H'=H/\ ∀ xs,SqL K H a xs->xs[i]?=some x,fun i H=> ∃ xs,SqL K H a xs/\xs.length<=i⟩
noncomputable def Itt (K:PySem.W.Frag) (a:Addr):It:=
 ⟨fun i H=> ∃ xs x,SqT K H a xs/\xs[i]?=some x,fun i H x H'=>H'=H/\ ∀ xs,SqT K H a xs->xs[i]?=some x,fun i H=> ∃ xs,SqT K H a xs/\xs.length<=i⟩
noncomputable def Itr (lo:Int) (n:Nat):It:=⟨fun i _=>i < n,fun i H x H'=>H'=H/\x= .int (lo + i),fun i _=>n<=i⟩
theorem ZdO {P:Program} {w:World} {K:PySem.W.Frag} {B:Around} {tg:Expr} (a it:Addr):Turn P w K B tg (Itl K a) [it] it (fun i h=>h.IsListIter it a i) where
 mem:=by simp
 obj:=fun i h st b hb=>by
  have e:b=it:=by simpa using hb
  subst e
  obtain ⟨o,e,c,d⟩:=st
  exact ⟨o,e,fun v z=>by rw[d] at z;cases z⟩
 keep:=fun i h h' st k=>st.at fun o e=>k it (by simp) o e
 item:=by
  intro X hP hw hK hB i pins s σ H E I hf st hg
  subst hP hw hK
  obtain ⟨xs,x,hq,hx⟩:=hg
  obtain ⟨its,rv,p,hz⟩:=I.list hq
  obtain ⟨u,hu,ru⟩:=rv.get hx
  obtain ⟨f0,f1,f2,f3,f4,f5⟩:=hf it (by simp)
  refine wpAny_pyNext_list_item st p.isList (x:=u) (by simpa using hu) fun h' st' sb=> ?_
  have I1:Inv X pins σ H { s with heap:=h' }:=I.turned (t':=s.toks) (fun b o hb e=>(sb.2 b hb).trans e) f0 f1 f3 f4 f5
  obtain ⟨o,e,c,d⟩:=id st'
  exact ⟨u,rfl,Ze0 (s:={ s with heap:=h' }) e c d (by decide) ⟨x,H,I1,ru,⟨rfl,fun ys hy=>by rw[I.list_inj hy hq];exact hx⟩,st',fun b hb=>(hf b hb).1⟩⟩
 done:=by
  intro X hP hw hK hB i pins s σ H E I hf st hg
  subst hP hw hK
  obtain ⟨xs,hq,hx⟩:=hg
  obtain ⟨its,rv,p,hz⟩:=I.list hq
  obtain ⟨f0,f1,f2,f3,f4,f5⟩:=hf it (by simp)
  have hl:=rv.length
  exact DQ.ZeV I.qh st p.isList (by simp;omega) fun h' eb=>⟨rfl,I.turned (t':=s.toks) (fun b o hb e=>eb b o hb e) f0 f1 f3 f4 f5⟩
 self:=fun _ _ _ _ _ st h=>wpAny_pyIter_listiter st h
theorem Zdi {P:Program} {w:World} {K:PySem.W.Frag} {B:Around} {tg:Expr} (a it:Addr):Turn P w K B tg (Itt K a) [it] it (fun i h=>h.IsTupleIter it a i) where
 mem:=by simp
 obj:=fun i h st b hb=>by
  have e:b=it:=by simpa using hb
  subst e
  obtain ⟨o,e,c,d⟩:=st
  exact ⟨o,e,fun v z=>by rw[d] at z;cases z⟩
 keep:=fun i h h' st k=>st.at fun o e=>k it (by simp) o e
 item:=by
  intro X hP hw hK hB i pins s σ H E I hf st hg
  subst hP hw hK
  obtain ⟨xs,x,hq,hx⟩:=hg
  obtain ⟨its,rv,p,hz⟩:=I.tuple hq
  obtain ⟨u,hu,ru⟩:=rv.get hx
  obtain ⟨f0,f1,f2,f3,f4,f5⟩:=hf it (by simp)
  refine wpAny_pyNext_tuple_item st (show s.heap.IsTuple a its.toArray from p) (x:=u) (by simpa using hu) fun h' st' sb=> ?_
  have I1:Inv X pins σ H { s with heap:=h' }:=I.turned (t':=s.toks) (fun b o hb e=>(sb.2 b hb).trans e) f0 f1 f3 f4 f5
  obtain ⟨o,e,c,d⟩:=id st'
  exact ⟨u,rfl,Ze0 (s:={ s with heap:=h' }) e c d (by decide) ⟨x,H,I1,ru,⟨rfl,fun ys hy=>by rw[I.tuple_inj hy hq];exact hx⟩,st',fun b hb=>(hf b hb).1⟩⟩
 done:=by
  intro X hP hw hK hB i pins s σ H E I hf st hg
  subst hP hw hK
  obtain ⟨xs,hq,hx⟩:=hg
  obtain ⟨its,rv,p,hz⟩:=I.tuple hq
  obtain ⟨f0,f1,f2,f3,f4,f5⟩:=hf it (by simp)
  have hl:=rv.length
  exact DQ.ZdG I.qh st (show s.heap.IsTuple a its.toArray from p) (by simp;omega) fun h' eb=>⟨rfl,I.turned (t':=s.toks) (fun b o hb e=>eb b o hb e) f0 f1 f3 f4 f5⟩
 self:=fun _ _ _ _ _ st h=>wpAny_pyIter_tupleiter st h
theorem Zdj {P:Program} {w:World} {K:PySem.W.Frag} {B:Around} {tg:Expr} (it:Addr) (lo:Int) (n:Nat):Turn P w K B tg (Itr lo n) [it] it (fun i h=>IsRangeIter h it (lo + (i:Nat) * 1) ((n:Int) - (i:Nat)) 1) where
 mem:=by simp
 obj:=fun i h st b hb=>by
  have e:b=it:=by simpa using hb
  subst e
  exact ⟨_,st,fun v z=>by
   have z':Data.fields _=Data.cell v:=z
   cases z'⟩
 keep:=fun i h h' st k=>k it (by simp) _ st
 item:=by
  intro X hP hw hK hB i pins s σ H E I hf st hg
  subst hP hw hK
  obtain ⟨f0,f1,f2,f3,f4,f5⟩:=hf it (by simp)
  have hlt:i < n:=hg
  refine wpAny_pyNext_range_item st (by omega) fun h' st' sb=> ?_
  have I1:Inv X pins σ H { s with heap:=h',toks:=s.toks + 1 }:=I.turned (fun b o hb e=>(sb.2 b hb).trans e) f0 f1 f3 f4 f5
  have st2:IsRangeIter h' it (lo + ((i + 1:Nat):Int) * 1) ((n:Int) - ((i + 1:Nat):Int)) 1:=by
   have e1:lo + ((i + 1:Nat):Int) * 1=lo + (i:Nat) * 1 + 1:=by omega
   have e2:(n:Int) - ((i + 1:Nat):Int)=(n:Int) - (i:Nat) - 1:=by omega
   rw[e1,e2]
   exact st'
  refine ⟨_,rfl,Ze0 (s:={ s with heap:=h',toks:=s.toks + 1 }) (n:="range_iterator") st2 rfl rfl (by decide) ⟨.int (lo + i),H,I1,⟨s.toks,?_⟩,⟨rfl,rfl⟩,st2,fun b hb=>(hf b hb).1⟩⟩
  rw[Int.mul_one]
 done:=by
  intro X hP hw hK hB i pins s σ H E I hf st hg
  subst hP hw hK
  obtain ⟨f0,f1,f2,f3,f4,f5⟩:=hf it (by simp)
  exact DQ.ZdF I.qh st (by have:n<=i:=hg;omega) fun h' eb=>⟨rfl,I.turned (t':=s.toks) (fun b o hb e=>eb b o hb e) f0 f1 f3 f4 f5⟩
 self:=fun _ _ _ _ _ st h=>wpAny_pyIter_rangeiter st h
end L2
namespace L2
open PySem PySem.Spec PyProof.Rows
section
variable {X:Cx} {tg:Expr}
theorem Ze1 {pins:List (Addr × Obj)} {σ:St} {H:Hp} {s:Shared} {R:It->Hp->Prop} {E:Value->Shared->Prop} {lo hi:Int} {t u v:Tok} {tk:Nat} (I:Inv X pins σ H s) (h1: -(2 ^ 62)<=lo) (h2:lo < 2 ^ 62) (h3: -(2 ^ 62)<=hi) (h4:hi < 2 ^ 62)
  (q:R (Itr lo (hi - lo).toNat) H):wpAny (model X.prog X.w) X.A (pyIter (.ref s.heap.objs.size)) (PIE X pins σ tg R) E { s with heap:=s.heap.push { cls:= .type "range",data:= .fields #[.int lo t,.int hi u,.int 1 v] },toks:=tk }:=by
 refine wpAny_pyIter_range (IsRange.new ..) (small_one h1 h2 h3 h4) ?_
 have I1:Inv X pins σ H { s with heap:=s.heap.push { cls:= .type "range",data:= .fields #[.int lo t,.int hi u,.int 1 v] },toks:=tk }:=I.kept fun b o e=>Heap.get?_push_of_some _ e
 refine ⟨(s.heap.push { cls:= .type "range",data:= .fields #[.int lo t,.int hi u,.int 1 v] }).objs.size,[(s.heap.push { cls:= .type "range",data:= .fields #[.int lo t,.int hi u,.int 1 v] }).objs.size],_,_,H,rfl,
  I1.kept (t':=tk) fun b o e=>Heap.get?_push_of_some _ e,Zdj _ lo (hi - lo).toNat,?_,fun b hb=> ?_,q⟩
 ·have e1:lo + ((0:Nat):Int) * 1=lo:=by simp
  have e2:(((hi - lo).toNat:Nat):Int) - ((0:Nat):Int)=Builtin.Range.rangeSize lo hi 1:=by rw[rangeSize_one];split<;>omega
  show IsRangeIter _ _ (lo + ((0:Nat):Int) * 1) ((((hi - lo).toNat:Nat):Int) - ((0:Nat):Int)) 1
  rw[e1,e2]
  exact Heap.get?_push_size _ rfl
 ·have e:b=(s.heap.push { cls:= .type "range",data:= .fields #[.int lo t,.int hi u,.int 1 v] }).objs.size:=by simpa using hb
  subst e
  exact I1.fpOk (Nat.le_refl _) (I1.hok.fresh (Nat.le_refl _))
noncomputable def ZkN (ta:TA):TI:=fun σ H R=>ta σ H fun vs H1=> ∃ j:Int,vs=[.int j]/\ -(2 ^ 62)<=j/\j < 2 ^ 62/\R (Itr 0 j.toNat) H1
theorem ZdP {a:Expr} {ta:TA} {p pos:Pos} (hg:Gl X "range") (hm:X.mg "range"=none) (ha:PA X [a] ta) (hs:starEach [a] X.env=[(false,eval a X.env)]:=by rfl):PI X tg (.Call (.Name "range" p) [a] [] pos) (ZkN ta):=by
 intro pins s σ H R I h
 refine Call_ (Zb0 I hg hm boot_range (PyProof.Rows.callWith_type1 (thn (ha pos pins s σ H _ I h) fun us s1 ⟨vs,H1,I1,r1,q1⟩=> ?_) hs rfl))
 obtain ⟨j,e,q1,q2,q⟩:=q1
 subst e
 cases r1 with
 |cons r rr=>
  cases rr
  obtain ⟨t,rfl⟩:=r
  exact call_range_1 (Ze1 I1 (by omega) (by omega) q1 q2 (by simpa using q))
noncomputable def ZnG (wi:TI) (g:TG) (tb:TS):TS:=fun D σ H=>wi σ H fun J H1=> ∃ W:Nat->Nat->St->Hp->Prop,(∃ m,W 0 m σ H1)/\ ∀ i m σ H,W i m σ H->
 (J.stop i H/\D.nx σ H)\/(J.go i H/\ ∃ N:St->Hp->Prop,(∀ σ' H',N σ' H'-> ∃ m',m' < m/\W (i + 1) m' σ' H')/\ ∀ x H',J.yld i H x H'->g x σ H' fun σ2 H2=>tb { D with nx:=N,ct:=N,bk:=D.nx } σ2 H2)
noncomputable def Zbv (fp:List Addr) (h:Heap):List (Addr × Obj):=fp.filterMap fun b=>(h.get? b).map fun o=>(b,o)
theorem Zan {fp:List Addr} {h:Heap} {b:Addr} {o:Obj} (hb:b∈fp) (e:h.get? b=some o):(b,o)∈Zbv fp h:=List.mem_filterMap.mpr ⟨b,hb,by rw[e];rfl⟩
theorem ZdQ {fp:List Addr} {h:Heap} {p:Addr × Obj} (hp:p∈Zbv fp h):p.1∈fp/\h.get? p.1=some p.2:=by
 obtain ⟨b,hb,e⟩:=List.mem_filterMap.mp hp
 cases q:h.get? b with
 |none=>rw[q] at e;cases e
 |some o=>
  rw[q] at e
  have e':(b,o)=p:=Option.some.inj e
  subst e'
  exact ⟨hb,q⟩
theorem Inv.pinned {pins:List (Addr × Obj)} {σ:St} {H:Hp} {s:Shared} {fp:List Addr} (I:Inv X pins σ H s) (hf: ∀ b∈fp,ZcA X pins H b) (ho: ∀ b∈fp,∃ o,s.heap.get? b=some o/\ ∀ v,o.data≠ .cell v):Inv X (pins ++ Zbv fp s.heap) σ H s:=
 I.pins_of fun p hp=>(List.mem_append.mp hp).elim (fun z=>I.pin p (List.mem_append_right _ z)) fun z=>by
  obtain ⟨hb,e⟩:=ZdQ z
  obtain ⟨f0,f1,f2,_⟩:=hf p.1 hb
  obtain ⟨o,e',d⟩:=ho p.1 hb
  rw[e] at e';cases e'
  exact ⟨e,f0,f1,f2,d⟩
theorem Inv.unpinned {pins pl:List (Addr × Obj)} {σ:St} {H:Hp} {s:Shared} (I:Inv X (pins ++ pl) σ H s):Inv X pins σ H s:=I.pins_of fun p hp=>I.pin p (List.mem_append_right _ (List.mem_append_left _ hp))
theorem ZdR {iter:Expr} {body:List Stmt} {wi:TI} {g:TG} {tb:TS} {pos:Pos} (hp:PassesOwn (model X.prog X.w) X.A X.env X.xe) (hi:PI X tg iter wi) (hg:PG X tg g) (hb:PSs X body tb)
  (hs: ∀ x,foldedSetIterable iter X.env x=pure x:=by intro _;rfl):PS X (.For tg iter body [] pos) (ZnG wi g tb):=by
 intro pins s σ H D I h
 refine wpAny_For (thn (hi pins s σ H _ I h) fun v s1 h1=>thn h1 fun itv s2 h2=> ?_) hs
 obtain ⟨it,fp,tn,J,H2,e,I2,T,st2,f2,W,⟨m0,w0⟩,turn⟩:=h2
 subst e
 have stat: ∀ {H':Hp},(∀ b∈fp,H' b=none)-> ∀ b∈fp,ZcA X pins H' b:=fun hn b hb=>⟨hn b hb,(f2 b hb).2⟩
 refine codeAny_forLoop_any (fun n s'=> ∃ i σ' H',Inv X pins σ' H' s'/\tn i s'.heap/\(∀ b∈fp,H' b=none)/\W i n σ' H') ?_ m0 ⟨0,σ,H2,I2,st2,fun b hb=>(f2 b hb).1,w0⟩
 rintro n s3 ⟨i,σ3,H3,I3,st3,fr3,w3⟩
 rcases turn i n σ3 H3 w3 with ⟨stop,qn⟩ | ⟨go,N,hN,step⟩
 ·refine wpAny_passesOwn hp (thn (T.done X rfl rfl rfl rfl i pins s3 σ3 H3 X.xe I3 (stat fr3) st3 stop) fun r s4 ⟨hr,I4⟩=> ?_)
  subst hr
  exact wpAny_execs_nil ⟨σ3,H3,I4,qn⟩
 ·refine wpAny_passesOwn hp (thn (T.item X rfl rfl rfl rfl i pins s3 σ3 H3 X.xe I3 (stat fr3) st3 go) fun r s4 ⟨u,hr,h4⟩=> ?_)
  subst hr
  refine wpAny_passesOwn hp (thn h4 fun _ s5 ⟨x,H5,I5,r5,y5,st5,fr5⟩=> ?_)
  have I5':=I5.pinned (stat fr5) (T.obj _ _ st5)
  refine wpAny_passesOwn hp (thn (hg _ s5 σ3 H5 x u _ I5' r5 (step x H5 y5)) fun _ s6 ⟨σ6,H6,I6,q6⟩=> ?_)
  refine wpAny_passesOwn hp (thn (hb _ s6 σ6 H6 _ I6 q6) fun f s7 q7=> ?_)
  have again: ∀ {σ7:St} {H7:Hp},Inv X (pins ++ Zbv fp s5.heap) σ7 H7 s7->N σ7 H7-> ∃ m,m < n/\ ∃ i σ' H',Inv X pins σ' H' s7/\tn i s7.heap/\(∀ b∈fp,H' b=none)/\W i m σ' H':=fun {σ7 H7} I7 n7=>by
   obtain ⟨m',hm,w7⟩:=hN σ7 H7 n7
   refine ⟨m',hm,i + 1,σ7,H7,I7.unpinned,T.keep _ _ _ st5 fun b hb o e=>(I7.pin (b,o) (List.mem_append_right _ (List.mem_append_right _ (Zan hb e)))).1,fun b hb=> ?_,w7⟩
   obtain ⟨o,e,d⟩:=T.obj _ _ st5 b hb
   exact (I7.pin (b,o) (List.mem_append_right _ (List.mem_append_right _ (Zan hb e)))).2.1
  cases f with
  |next=>obtain ⟨σ7,H7,I7,n7⟩:=q7;exact again I7 n7
  |cont=>obtain ⟨σ7,H7,I7,n7⟩:=q7;exact again I7 n7
  |brk=>obtain ⟨σ7,H7,I7,q7⟩:=q7;exact ⟨σ7,H7,I7.unpinned,q7⟩
  |ret v=>obtain ⟨x7,σ7,H7,I7,r7,q7⟩:=q7;exact ⟨x7,σ7,H7,I7.unpinned,r7,q7⟩
end
theorem Ze2 {K:PySem.W.Frag} {a:Addr} {xs:List V} {g:TG} {tb:TS} {D:Ends} {σ:St} {H:Hp} (Pv:Nat->St->Hp->Prop) (h0:Pv 0 σ H) (hl: ∀ i σ H,i<=xs.length->Pv i σ H->SqL K H a xs)
  (hs: ∀ i x σ H,xs[i]?=some x->Pv i σ H->g x σ H fun σ2 H2=>tb { D with nx:=Pv (i + 1),ct:=Pv (i + 1),bk:=D.nx } σ2 H2) (hd: ∀ σ H,Pv xs.length σ H->D.nx σ H):
  ∃ W:Nat->Nat->St->Hp->Prop,(∃ m,W 0 m σ H)/\ ∀ i m σ H,W i m σ H->
   ((Itl K a).stop i H/\D.nx σ H)\/((Itl K a).go i H/\ ∃ N:St->Hp->Prop,(∀ σ' H',N σ' H'-> ∃ m',m' < m/\W (i + 1) m' σ' H')/\ ∀ x H',(Itl K a).yld i H x H'->g x σ H' fun σ2 H2=>tb { D with nx:=N,ct:=N,bk:=D.nx } σ2 H2):=by
 refine ⟨fun i m σ H=>m=xs.length - i/\i<=xs.length/\Pv i σ H,⟨xs.length,by simp,Nat.zero_le _,h0⟩,?_⟩
 rintro i m σ H ⟨rfl,hi,p⟩
 have q:=hl i σ H hi p
 by_cases hlt:i < xs.length
 ·refine .inr ⟨⟨xs,xs[i],q,by simp[hlt]⟩,Pv (i + 1),fun σ' H' p'=>⟨xs.length - (i + 1),by omega,rfl,hlt,p'⟩,fun x H' y=> ?_⟩
  obtain ⟨e,y⟩:=y
  subst e
  exact hs i x σ _ (y xs q) p
 ·have e:i=xs.length:=by omega
  subst e
  exact .inl ⟨⟨xs,q,Nat.le_refl _⟩,hd σ H p⟩
theorem Zgp {K:PySem.W.Frag} {a:Addr} {xs:List V} {g:TG} {tb:TS} {D:Ends} {σ:St} {H:Hp} (Pv:Nat->St->Hp->Prop) (h0:Pv 0 σ H) (hl: ∀ i σ H,i<=xs.length->Pv i σ H->SqT K H a xs)
  (hs: ∀ i x σ H,xs[i]?=some x->Pv i σ H->g x σ H fun σ2 H2=>tb { D with nx:=Pv (i + 1),ct:=Pv (i + 1),bk:=D.nx } σ2 H2) (hd: ∀ σ H,Pv xs.length σ H->D.nx σ H):
  ∃ W:Nat->Nat->St->Hp->Prop,(∃ m,W 0 m σ H)/\ ∀ i m σ H,W i m σ H->
   ((Itt K a).stop i H/\D.nx σ H)\/((Itt K a).go i H/\ ∃ N:St->Hp->Prop,(∀ σ' H',N σ' H'-> ∃ m',m' < m/\W (i + 1) m' σ' H')/\ ∀ x H',(Itt K a).yld i H x H'->g x σ H' fun σ2 H2=>tb { D with nx:=N,ct:=N,bk:=D.nx } σ2 H2):=by
 refine ⟨fun i m σ H=>m=xs.length - i/\i<=xs.length/\Pv i σ H,⟨xs.length,by simp,Nat.zero_le _,h0⟩,?_⟩
 rintro i m σ H ⟨rfl,hi,p⟩
 have q:=hl i σ H hi p
 by_cases hlt:i < xs.length
 ·refine .inr ⟨⟨xs,xs[i],q,by simp[hlt]⟩,Pv (i + 1),fun σ' H' p'=>⟨xs.length - (i + 1),by omega,rfl,hlt,p'⟩,fun x H' y=> ?_⟩
  obtain ⟨e,y⟩:=y
  subst e
  exact hs i x σ _ (y xs q) p
 ·have e:i=xs.length:=by omega
  subst e
  exact .inl ⟨⟨xs,q,Nat.le_refl _⟩,hd σ H p⟩
theorem ZdS {lo:Int} {n:Nat} {g:TG} {tb:TS} {D:Ends} {σ:St} {H:Hp} (Pv:Nat->St->Hp->Prop) (h0:Pv 0 σ H)
  (hs: ∀ i σ H,i < n->Pv i σ H->g (.int (lo + i)) σ H fun σ2 H2=>tb { D with nx:=Pv (i + 1),ct:=Pv (i + 1),bk:=D.nx } σ2 H2) (hd: ∀ σ H,Pv n σ H->D.nx σ H):
  ∃ W:Nat->Nat->St->Hp->Prop,(∃ m,W 0 m σ H)/\ ∀ i m σ H,W i m σ H->
   ((Itr lo n).stop i H/\D.nx σ H)\/((Itr lo n).go i H/\ ∃ N:St->Hp->Prop,(∀ σ' H',N σ' H'-> ∃ m',m' < m/\W (i + 1) m' σ' H')/\ ∀ x H',(Itr lo n).yld i H x H'->g x σ H' fun σ2 H2=>tb { D with nx:=N,ct:=N,bk:=D.nx } σ2 H2):=by
 refine ⟨fun i m σ H=>m=n - i/\i<=n/\Pv i σ H,⟨n,by simp,Nat.zero_le _,h0⟩,?_⟩
 rintro i m σ H ⟨rfl,hi,p⟩
 by_cases hlt:i < n
 ·refine .inr ⟨hlt,Pv (i + 1),fun σ' H' p'=>⟨n - (i + 1),by omega,rfl,hlt,p'⟩,fun x H' y=> ?_⟩
  obtain ⟨e,y⟩:=y
  subst e y
  exact hs i σ _ hlt p
 ·have e:i=n:=by omega
  subst e
  exact .inl ⟨Nat.le_refl _,hd σ H p⟩
end L2
namespace L2
open PySem PySem.Spec PyProof.Rows
noncomputable abbrev R2:=V->V->Hp->VK->Prop
noncomputable def OpR (X:Cx) (f:Value->Value->Sem Value) (r:R2):Prop:=
 ∀ (pins:List (Addr × Obj)) (s:Shared) (σ:St) (H:Hp) (x y:V) (v u:Value) (Q:VK),Inv X pins σ H s->ZC x v->ZC y u->r x y H Q->
  wpAny (model X.prog X.w) X.A (f v u) (EP X pins σ Q) X.xe s
noncomputable def UnR (X:Cx) (f:Value->Sem Value) (r:V->Hp->VK->Prop):Prop:=
 ∀ (pins:List (Addr × Obj)) (s:Shared) (σ:St) (H:Hp) (x:V) (v:Value) (Q:VK),Inv X pins σ H s->ZC x v->r x H Q->
  wpAny (model X.prog X.w) X.A (f v) (EP X pins σ Q) X.xe s
noncomputable def Zbq (X:Cx) (f:Value) (r:List V->Hp->VK->Prop):Prop:=
 ∀ (pins:List (Addr × Obj)) (s:Shared) (σ:St) (H:Hp) (xs:List V) (us:List Value) (Q:VK),Inv X pins σ H s->ZJ xs us->r xs H Q->
  wpAny (model X.prog X.w) X.A (call f us) (EP X pins σ Q) X.xe s
noncomputable def tOp (r:R2) (ta tb:TE):TE:=fun σ H Q=>ta σ H fun x H1=>tb σ H1 fun y H2=>r x y H2 Q
noncomputable def tUn (r:V->Hp->VK->Prop) (ta:TE):TE:=fun σ H Q=>ta σ H fun x H1=>r x H1 Q
noncomputable def rI (C:Int->Int->Prop) (g:Int->Int->V):R2:=fun x y H Q=> ∃ i j,x= .int i/\y= .int j/\C i j/\Q (g i j) H
noncomputable def rI0 (g:Int->Int->V):R2:=fun x y H Q=> ∃ i j,x= .int i/\y= .int j/\Q (g i j) H
noncomputable def rU (g:Int->V):V->Hp->VK->Prop:=fun x H Q=> ∃ i,x= .int i/\Q (g i) H
section
variable {X:Cx} {a b c:Expr} {ta tb tc:TE} {pos:Pos}
theorem ZkO (ha:PE X a ta) (hb:PE X b tb) {pins:List (Addr × Obj)} {s:Shared} {σ:St} {H:Hp} {R:V->V->Hp->Prop} (I:Inv X pins σ H s)
  (h:ta σ H fun x H1=>tb σ H1 fun y H2=>R x y H2) {Q:Value->Shared->Prop} {f:Value->Value->Sem Value}
  (hf: ∀ v u s2 x y H2,Inv X pins σ H2 s2->ZC x v->ZC y u->R x y H2->wpAny (model X.prog X.w) X.A (f v u) Q X.xe s2):
  wpAny (model X.prog X.w) X.A (eval a X.env) (fun v s₁=>wpAny (model X.prog X.w) X.A (eval b X.env) (fun u s₂=>wpAny (model X.prog X.w) X.A (f v u) Q X.xe s₂) X.xe s₁) X.xe s:=by
 refine thn (ha pins s σ H _ I h) fun v s1 ⟨x,H1,I1,r1,q1⟩=> ?_
 refine thn (hb pins s1 σ H1 _ I1 q1) fun u s2 ⟨y,H2,I2,r2,q2⟩=> ?_
 exact hf v u s2 x y H2 I2 r1 r2 q2
theorem ZkP {op:Operator} {r:R2} (ho:OpR X (binaryOp op) r) (ha:PE X a ta) (hb:PE X b tb):PE X (.BinOp a op b pos) (tOp r ta tb):=by
 intro pins s σ H Q I h
 exact wpAny_BinOp (ZkO ha hb I h fun v u s2 x y H2 I2 rx ry q=>ho pins s2 σ H2 x y v u Q I2 rx ry q)
theorem ZkQ {op:UnaryOp} {r:V->Hp->VK->Prop} (ho:UnR X (unaryOp op) r) (ha:PE X a ta):PE X (.UnaryOp op a pos) (tUn r ta):=by
 intro pins s σ H Q I h
 exact UnaryOp_ (thn (ha pins s σ H _ I h) fun v s1 ⟨x,H1,I1,r1,q1⟩=>ho pins s1 σ H1 x v Q I1 r1 q1)
theorem opI {f:Value->Value->Sem Value} {C:Int->Int->Prop} {g:Int->Int->Int}
  (rule: ∀ (i j:Int) (t u:Tok) (s:Shared) (Q:Value->Shared->Prop) (E:Value->Shared->Prop),C i j->Q (.int (g i j) s.toks) { s with toks:=s.toks + 1 }->wpAny (model X.prog X.w) X.A (f (.int i t) (.int j u)) Q E s):
  OpR X f (rI C fun i j=> .int (g i j)):=by
 intro pins s σ H x y v u Q I rx ry h
 obtain ⟨i,j,rfl,rfl,hc,q⟩:=h
 obtain ⟨t,rfl⟩:=rx
 obtain ⟨t',rfl⟩:=ry
 exact rule i j t t' s _ _ hc ⟨.int (g i j),H,I.tok _,⟨_,rfl⟩,q⟩
theorem ZmA {f:Value->Value->Sem Value} {g:Int->Int->Int}
  (rule: ∀ (i j:Int) (t u:Tok) (s:Shared) (Q:Value->Shared->Prop) (E:Value->Shared->Prop),Q (.int (g i j) s.toks) { s with toks:=s.toks + 1 }->wpAny (model X.prog X.w) X.A (f (.int i t) (.int j u)) Q E s):
  OpR X f (rI0 fun i j=> .int (g i j)):=by
 intro pins s σ H x y v u Q I rx ry h
 obtain ⟨i,j,rfl,rfl,q⟩:=h
 obtain ⟨t,rfl⟩:=rx
 obtain ⟨t',rfl⟩:=ry
 exact rule i j t t' s _ _ ⟨.int (g i j),H,I.tok _,⟨_,rfl⟩,q⟩
theorem Zkx {f:Value->Value->Sem Value} {g:Int->Int->Bool}
  (rule: ∀ (i j:Int) (t u:Tok) (s:Shared) (Q:Value->Shared->Prop) (E:Value->Shared->Prop),Q (.bool (g i j)) s->wpAny (model X.prog X.w) X.A (f (.int i t) (.int j u)) Q E s):
  OpR X f (rI0 fun i j=> .bl (g i j)):=by
 intro pins s σ H x y v u Q I rx ry h
 obtain ⟨i,j,rfl,rfl,q⟩:=h
 obtain ⟨t,rfl⟩:=rx
 obtain ⟨t',rfl⟩:=ry
 exact rule i j t t' s _ _ ⟨.bl (g i j),H,I,rfl,q⟩
noncomputable def ZmB (i j:Int):Prop:=0<=j/\j<=1000000/\i.natAbs < 2 ^ 64
theorem Zh6:OpR X (binaryOp .Add) (rI0 fun i j=> .int (i + j)):=ZmA fun _ _ _ _ _ _ _ q=>add_int q
theorem Zh7:OpR X (binaryOp .Sub) (rI0 fun i j=> .int (i - j)):=ZmA fun _ _ _ _ _ _ _ q=>sub_int q
theorem Zgq:OpR X (binaryOp .Mod) (rI (fun _ j=>j≠0) fun i j=> .int (i.fmod j)):=opI fun _ _ _ _ _ _ _ hc q=>mod_int' hc q
theorem Zh8:OpR X (binaryOp .Pow) (rI ZmB fun i j=> .int (i ^ j.toNat)):=opI fun _ _ _ _ _ _ _ hc q=>pow_int_small hc.1 hc.2.1 hc.2.2 q
theorem unI {f:Value->Sem Value} {g:Int->Int}
  (rule: ∀ (i:Int) (t:Tok) (s:Shared) (Q:Value->Shared->Prop) (E:Value->Shared->Prop),Q (.int (g i) s.toks) { s with toks:=s.toks + 1 }->wpAny (model X.prog X.w) X.A (f (.int i t)) Q E s):
  UnR X f (rU fun i=> .int (g i)):=by
 intro pins s σ H x v Q I rx h
 obtain ⟨i,rfl,q⟩:=h
 obtain ⟨t,rfl⟩:=rx
 exact rule i t s _ _ ⟨.int (g i),H,I.tok _,⟨_,rfl⟩,q⟩
theorem Zh9:UnR X (unaryOp .USub) (rU fun i=> .int (-i)):=unI fun _ _ _ _ _ q=>neg_int q
end
section
variable {X:Cx} {a b c:Expr} {ta tb tc:TE} {pos:Pos}
theorem Zia:OpR X (compareOp .Lt) (rI0 fun i j=> .bl (decide (i < j))):=Zkx fun _ _ _ _ _ _ _ q=>lt_int q
theorem Zib:OpR X (compareOp .LtE) (rI0 fun i j=> .bl (decide (i<=j))):=Zkx fun _ _ _ _ _ _ _ q=>le_int q
theorem Zgr:OpR X (compareOp .Gt) (rI0 fun i j=> .bl (decide (j < i))):=Zkx fun _ _ _ _ _ _ _ q=>gt_int q
theorem ZkR:OpR X (compareOp .GtE) (rI0 fun i j=> .bl (decide (j<=i))):=Zkx fun _ _ _ _ _ _ _ q=>ge_int q
theorem OpR.or {f:Value->Value->Sem Value} {r r':R2} (h:OpR X f r) (h':OpR X f r'):OpR X f (fun x y H Q=>r x y H Q\/r' x y H Q):=by
 intro pins s σ H x y v u Q I rx ry q
 rcases q with q | q
 ·exact h pins s σ H x y v u Q I rx ry q
 ·exact h' pins s σ H x y v u Q I rx ry q
theorem ZfU (b:Expr) {op:CmpOp} (h:op≠ .In:=by decide) (h2:op≠ .NotIn:=by decide):behindInMarks op b=false:=by
 have e1:(op == CmpOp.In)=false:=by cases op<;>first | rfl | exact absurd rfl h
 have e2:(op == CmpOp.NotIn)=false:=by cases op<;>first | rfl | exact absurd rfl h2
 cases b<;>simp[behindInMarks,e1,e2]
theorem Zgs {op:CmpOp} {r:R2} (ho:OpR X (compareOp op) r) (ha:PE X a ta) (hb:PE X b tb) (hm:behindInMarks op b=false):PE X (.Compare a [op] [b] pos) (tOp r ta tb):=by
 intro pins s σ H Q I h
 exact wpAny_Compare1 (ZkO ha hb I h fun v u s2 x y H2 I2 rx ry q=>ho pins s2 σ H2 x y v u Q I2 rx ry q) hm
noncomputable def Zic (t:TE):TT:=fun σ H Q=>t σ H fun x H'=> ∃ k,x= .bl k/\Q k H'
theorem Zgt {op:CmpOp} {r:R2} (ho:OpR X (compareOp op) r) (ha:PE X a ta) (hb:PE X b tb) (hm:behindInMarks op b=false):PT X (.Compare a [op] [b] pos) (Zic (tOp r ta tb)):=by
 intro pins s σ H Q I h
 refine wpAny_isTrue_Compare1 (thn (ha pins s σ H _ I h) fun v s1 ⟨x,H1,I1,r1,q1⟩=>thn (hb pins s1 σ H1 _ I1 q1) fun u s2 ⟨y,H2,I2,r2,q2⟩=>
  thn (ho pins s2 σ H2 x y v u _ I2 r1 r2 q2) fun c s3 ⟨z,H3,I3,r3,k,e,q3⟩=> ?_) hm
 subst e
 cases r3
 exact wpAny_truthy_bool ⟨H3,I3,q3⟩
theorem ZcY:(sizeLine:Nat) < 2 ^ 63:=by rw[sizeLine_eq];decide
theorem Zdk:OpR X (binaryOp .Add) (fun x y H Q=> ∃ i j,x= .str i/\y= .str j/\i.length + j.length<=sizeLine/\Q (.str (i ++ j)) H):=by
 intro pins s σ H x y v u Q I rx ry h
 obtain ⟨i,j,rfl,rfl,hz,q⟩:=h
 obtain ⟨t,rfl⟩:=rx
 obtain ⟨t',rfl⟩:=ry
 exact add_str (fun t' tk=>⟨.str (i ++ j),H,I.tok _,⟨_,rfl⟩,q⟩) hz
theorem Ze3 {x:V} {us:List Value} (r:ZJ [x] us): ∃ u,us=[u]/\ZC x u:=by
 cases r with
 |cons r1 r2=>cases r2;exact ⟨_,rfl,r1⟩
theorem Ze4 {x y:V} {us:List Value} (r:ZJ [x,y] us): ∃ u w',us=[u,w']/\ZC x u/\ZC y w':=by
 cases r with
 |cons r1 r2=>
  cases r2 with
  |cons r3 r4=>cases r4;exact ⟨_,_,rfl,r1,r3⟩
theorem ZbK:Zbq X (.builtin "abs") (fun xs H Q=> ∃ i,xs=[.int i]/\Q (.int (if i < 0 then -i else i)) H):=by
 intro pins s σ H xs us Q I r h
 obtain ⟨i,rfl,q⟩:=h
 obtain ⟨u,rfl,t,rfl⟩:=Ze3 r
 exact call_abs_int fun u tk=>⟨.int (if i < 0 then -i else i),H,I.tok _,⟨_,rfl⟩,q⟩
theorem ZdT (hc:X.calm=true):Zbq X (.builtin "max") (fun xs H Q=> ∃ i j,xs=[.int i,.int j]/\Q (.int (if j > i then j else i)) H):=by
 intro pins s σ H xs us Q I r h
 obtain ⟨i,j,rfl,q⟩:=h
 obtain ⟨u,w',rfl,⟨t,rfl⟩,⟨t',rfl⟩⟩:=Ze4 r
 refine max_two_ints (I.ok.hd hc) fun h' tk k=>⟨_,H,I.kept k,?_,q⟩
 by_cases hj:j > i
 ·rw[if_pos hj,if_pos hj];exact ⟨_,rfl⟩
 ·rw[if_neg hj,if_neg hj];exact ⟨_,rfl⟩
theorem ZdU (hc:X.calm=true):Zbq X (.builtin "min") (fun xs H Q=> ∃ i j,xs=[.int i,.int j]/\Q (.int (if j < i then j else i)) H):=by
 intro pins s σ H xs us Q I r h
 obtain ⟨i,j,rfl,q⟩:=h
 obtain ⟨u,w',rfl,⟨t,rfl⟩,⟨t',rfl⟩⟩:=Ze4 r
 refine min_two_ints (I.ok.hd hc) fun h' tk k=>⟨_,H,I.kept k,?_,q⟩
 by_cases hj:j < i
 ·rw[if_pos hj,if_pos hj];exact ⟨_,rfl⟩
 ·rw[if_neg hj,if_neg hj];exact ⟨_,rfl⟩
theorem ZdV:Zbq X (.type "int") (fun xs H Q=>(∃ i,xs=[.int i]/\Q (.int i) H)\/ ∃ k,xs=[.bl k]/\Q (.int (if k then 1 else 0)) H):=by
 intro pins s σ H xs us Q I r h
 rcases h with ⟨i,rfl,q⟩ | ⟨k,rfl,q⟩
 ·obtain ⟨u,rfl,t,rfl⟩:=Ze3 r
  exact call_int_int ⟨.int i,H,I,⟨_,rfl⟩,q⟩
 ·obtain ⟨u,rfl,r1⟩:=Ze3 r
  cases r1
  exact call_int_bool ⟨.int (if k then 1 else 0),H,I.tok _,⟨_,rfl⟩,q⟩
end
end L2
namespace L2
open PySem PySem.Spec PyProof.Rows
section
variable {prog:Program} {w:World} {A:Around} {E:Value->Shared->Prop} {s:Shared} {K:PySem.W.Frag} {x dx C f:Addr} {mA:Str->Option Value} {name:Str} {v:Value}
end
theorem ZfR.some_of {v:V} {o:Option Value} (r:ZfR (some v) o): ∃ u,o=some u/\ZC v u:=by
 cases o with
 |none=>exact (show False from r).elim
 |some u=>exact ⟨u,rfl,r⟩
section
variable {P:Program} {w:World} {H H':Hp} {h h':Heap} {a C dx:Addr} {fs fs':List (Str × V)}
end
section
variable {X:Cx} {pins:List (Addr × Obj)} {σ:St} {H:Hp} {s:Shared} {a C dx:Addr} {fs:List (Str × V)} {f:Str} {v:V} {A:Around} {E:Value->Shared->Prop}
end
section
variable {X:Cx} {o e value:Expr} {f:Str} {pos pos' tpos:Pos} {ta tv:TE}
end
section
variable {X:Cx} {pins:List (Addr × Obj)} {σ:St} {H:Hp} {s:Shared} {A:Around} {E:Value->Shared->Prop} {Q:Value->Shared->Prop} {c:Value} {b:Bool}
end
end L2
namespace L2
open PySem PySem.Spec PyProof.Rows
structure Room (k:Nat) (A:Around):Prop where
 hd:100<=k->A.handled=none
 dp:A.depth + 3 * k + 5 < recursionLimit
 un:A.units + 16 * k + 200 < cLine
theorem Room.mono {j k:Nat} {A:Around} (r:Room k A) (h:j<=k):Room j A:=⟨fun z=>r.hd (Nat.le_trans z h),by have:=r.dp;omega,by have:=r.un;omega⟩
theorem Room.deeper {k:Nat} {A:Around} (r:Room (k + 1) A) (env:Env):Room k (A.deeper env):=
 ⟨fun z=>r.hd (Nat.le_succ_of_le z),by have:=r.dp;show A.depth + 1 + 3 * k + 5 < _;omega,by have:=r.un;show A.units + 3 + 16 * k + 200 < _;omega⟩
theorem Room.depth {k:Nat} {A:Around} (r:Room k A):A.depth < recursionLimit:=by have:=r.dp;omega
theorem Room.units {k:Nat} {A:Around} (r:Room k A):A.units + 64 < cLine:=by have:=r.un;omega
noncomputable def tNil:TA:=fun _ H Q=>Q [] H
noncomputable def ZkS (ta:TE) (tr:TA):TA:=fun σ H Q=>ta σ H fun x H1=>tr σ H1 fun xs H2=>Q (x :: xs) H2
section
variable {X:Cx} {e:Expr} {es:List Expr} {te:TE} {t:TA} {pos:Pos}
theorem ZfV:PA X [] tNil:=fun _ _ _ _ H Q I h=>Calls.spliced_nil ⟨[],H,I,.nil,h⟩
theorem ZcB (ha:PE X e te) (hr:PA X es t) (hs:starEach (e :: es) X.env=(false,eval e X.env) :: starEach es X.env:=by rfl):PA X (e :: es) (ZkS te t):=by
 intro pos pins s σ H Q I h
 rw[hs]
 show wpAny _ _ (spliced ((false,eval e X.env) :: backTo pos (starEach es X.env))) _ _ s
 refine Calls.spliced_cons (thn (ha pins s σ H _ I h) fun u s1 ⟨x,H1,I1,r1,q1⟩=> ?_)
 exact thn (hr pos pins s1 σ H1 _ I1 q1) fun us s2 ⟨xs,H2,I2,r2,q2⟩=>⟨x :: xs,H2,I2,.cons r1 r2,q2⟩
noncomputable def ZnH (t:TA):TE:=fun σ H Q=>t σ H fun xs H1=>xs.length<=sizeLine/\ ∀ p,H1 p=none->Q (.ref p) (upd H1 p (.tup xs))
noncomputable def ZnI (t:TA):TE:=fun σ H Q=>t σ H fun xs H1=>xs.length<=sizeLine/\ ∀ p,H1 p=none->Q (.ref p) (upd H1 p (.lst xs))
theorem Zid {x1} (h:PA X es t):PE X (.Tuple es x1 pos) (ZnH t):=by
 intro pins s σ H Q I hq
 refine wpAny_Tuple_spliced (thn (h pos pins s σ H _ I hq) fun us s1 ⟨xs,H1,I1,r,z,q⟩=>⟨by rw[<- r.length];exact z,?_⟩)
 have hf:H1 s1.heap.objs.size=none:=I1.hok.fresh (Nat.le_refl _)
 refine ⟨.ref s1.heap.objs.size,upd H1 s1.heap.objs.size (.tup xs),I1.laid (t':=s1.toks) (fun b u e=>Heap.get?_push_of_some _ e) (Nat.le_refl _) ?_,rfl,q _ hf⟩
 exact ⟨z,us,r,⟨_,Heap.get?_push_size _ rfl,rfl,_,rfl⟩⟩
theorem Zie (h:PA X es t):PE X (.List es pos) (ZnI t):=by
 intro pins s σ H Q I hq
 refine wpAny_List_spliced (thn (h pos pins s σ H _ I hq) fun us s1 ⟨xs,H1,I1,r,z,q⟩=>⟨by rw[<- r.length];exact z,?_⟩)
 have hf:H1 s1.heap.objs.size=none:=I1.hok.fresh (Nat.le_refl _)
 refine ⟨.ref s1.heap.objs.size,upd H1 s1.heap.objs.size (.lst xs),I1.laid (t':=s1.toks) (fun b u e=>Heap.get?_push_of_some _ e) (Nat.le_refl _) ?_,rfl,q _ hf⟩
 exact ⟨z,us,0,r,Heap.get?_push_size _ rfl⟩
end
noncomputable abbrev Sp:=List V->Hp->VK->XK->Prop
noncomputable abbrev CXT:=List Env->Hp->Shared->XK->Value->Shared->Prop
structure Env0 (P:Program) (w:World) (K:PySem.W.Frag) (mg:Str->Option Value) (base:Heap) (A:Around) (outer:List Env) (s:Shared) (H:Hp):Prop where
 frames:A.frames=some outer
 mod:Mod K mg base
 bs: ∀ b o,base.get? b=some o->s.heap.get? b=some o/\H b=none
 bsz:base.objs.size<=s.heap.objs.size
 funs:s.heap.FunFrames base outer
 frf: ∀ b∈frs outer,H b=none
 hok:HOk P w H s.heap
 bare:AllBare s.gens
 qd:Qd A H
noncomputable def CE (outer:List Env) (P:Program) (w:World) (H:Hp) (s:Shared) (Q:VK) (u:Value) (s':Shared):Prop:=
 ∃ v H',s'.os=s.os/\AllBare s'.gens/\Un (frs outer) [] H H' s.heap s'.heap/\HOk P w H' s'.heap/\ZC v u/\Q v H'
noncomputable def CR (CX:CXT) (outer:List Env) (P:Program) (w:World) (H:Hp) (s:Shared) (Q:VK) (E:XK) (r:Result) (s':Shared):Prop:=
 match r with
 | .ok (.ret u)=>CE outer P w H s Q u s'
 | .ok _=>False
 | .error e=>CX outer H s E e s'
structure FnOk (P:Program) (w:World) (K:PySem.W.Frag) (mg:Str->Option Value) (base:Heap) (CX:CXT) (k:Nat) (f:Addr) (fd:FuncData) (ps:List Str) (sp:Sp):Prop where
 len: ∀ vs H Q E,sp vs H Q E->vs.length=ps.length
 run: ∀ (A:Around) (outer:List Env) (s:Shared) (H:Hp) (args:Args) (us:List Value) (vs:List V) (Q:VK) (E:XK),Room k A->Env0 P w K mg base A outer s H->BindsTo s fd args (ps.zip us)->ZJ vs us->sp vs H Q E->
  codeAny (model P w) A (.call (.ref f) args) (CR CX outer P w H s Q E) s
section
variable {X:Cx} {pins:List (Addr × Obj)} {σ:St} {H:Hp} {s s':Shared}
theorem Inv.env0 (I:Inv X pins σ H s):Env0 X.prog X.w X.K X.mg X.base X.A X.stack s H:=
 ⟨I.ok.frames,I.ok.mod,I.bs,Nat.le_trans I.ok.bsz I.sz,I.stack,I.stkFree,I.hok,I.bare,I.qd⟩
theorem Inv.after {Q:VK} {u:Value} (I:Inv X pins σ H s) (h:CE X.stack X.prog X.w H s Q u s'):EP X pins σ Q u s':=by
 obtain ⟨v,H',os,bare,un,hok,r,q⟩:=h
 obtain ⟨hh,g,d,t,os'⟩:=s'
 obtain rfl:os'=s.os:=os
 exact ⟨v,H',I.call (h':=hh) (g':=g) (d':=d) (t':=t) (ch:=[]) un hok bare (fun b z=>absurd z (by simp)),r,q⟩
end
noncomputable def ZkT (sp:Sp) (dvs:List V) (E:XK) (t:TA):TE:=fun σ H Q=>t σ H fun vs H1=>sp (vs ++ dvs) H1 Q E
noncomputable def ZcC (K:PySem.W.Frag) (fd:FuncData) (ps:List Str) (ds:List Value):Prop:=
 ∀ (s:Shared) (us:List Value),K.In s.heap->(us ++ ds).length=ps.length->BindsTo s fd ⟨us,[]⟩ (ps.zip (us ++ ds))
theorem ZcC.all {K:PySem.W.Frag} {fd:FuncData} {ps:List Str} (h: ∀ us:List Value,us.length=ps.length->bindArgs fd ⟨us,[]⟩=pure (ps.zip us)):ZcC K fd ps []:=fun s us _ hl=>by
 rw[List.append_nil] at hl ⊢
 exact .of_eq (h us hl)
noncomputable def ZdW (CX:CXT) (X:Cx) (E:XK):Prop:= ∀ (pins:List (Addr × Obj)) (σ:St) (H:Hp) (s:Shared) (e:Value) (s':Shared),Inv X pins σ H s->CX X.stack H s E e s'->X.xe e s'
section
variable {X:Cx} {CX:CXT} {k:Nat} {f C:Addr} {fd:FuncData} {ps:List Str} {sp:Sp} {dvs:List V} {ds:List Value} {E:XK} {x m:Str} {p pos apos:Pos} {e o:Expr} {es:List Expr} {ta:TE} {t:TA}
theorem ZfW {pins:List (Addr × Obj)} {σ:St} {H:Hp} {s:Shared} {Q:VK} {us:List Value} {vs:List V} (F:FnOk X.prog X.w X.K X.mg X.base CX k f fd ps sp) (hr:Room k X.A) (hb:ZcC X.K fd ps ds) (hd:ZJ dvs ds) (hx:ZdW CX X E)
  (I:Inv X pins σ H s) (r:ZJ vs us) (h:sp (vs ++ dvs) H Q E):wpAny (model X.prog X.w) X.A (call (.ref f) us) (EP X pins σ Q) X.xe s:=by
 have r2:ZJ (vs ++ dvs) (us ++ ds):=r.append hd
 have hl:(us ++ ds).length=ps.length:=by rw[<- r2.length];exact F.len _ _ _ _ h
 refine wpAny_call (codeAny_mono (F.run X.A X.stack s H ⟨us,[]⟩ (us ++ ds) (vs ++ dvs) Q E hr I.env0 (hb s us I.kIn hl) r2 h) fun r s' hq=> ?_)
 cases r with
 |error e=>exact hx pins σ H s e s' I hq
 |ok fl=>
  cases fl with
  |ret u=>exact I.after hq
  |next=>exact False.elim hq
  |brk=>exact False.elim hq
  |cont=>exact False.elim hq
theorem Zgu (F:FnOk X.prog X.w X.K X.mg X.base CX k f fd ps sp) (hr:Room k X.A) (hg:Gl X x) (hm:X.mg x=some (.ref f)) (hk:PySem.W.keepIn X.K (.ref f)=true) (hb:ZcC X.K fd ps ds) (hd:ZJ dvs ds) (hx:ZdW CX X E)
  (ha:PA X (e :: es) t) (hdb:(x == ("__debug__":Str))=false:=by decide) (he:starEach (e :: es) X.env=(false,eval e X.env) :: starEach es X.env:=by rfl) (hpl:(backTo pos (starEach es X.env)).any (·.1)=false:=by rfl):
  PE X (.Call (.Name x p) (e :: es) [] pos) (ZkT sp dvs E t):=by
 intro pins s σ H Q I h
 refine wpAny_Call_Name_kw (Zcz I hg hm ?_ hdb)
 refine PySem.W.callWith_K (h₀:=X.base) I.ok.mod.kin hk (thn (ha pos pins s σ H _ I h) fun us s1 ⟨vs,H1,I1,r,q⟩=>⟨I1.kIn,?_⟩) he hpl
 exact ZfW F hr hb hd hx I1 r q
end
section
variable {X:Cx} {CX:CXT} {k:Nat} {f C:Addr} {fd:FuncData} {ps ks:List Str} {sp:Sp} {E:XK} {x m:Str} {p pos apos kpos:Pos} {e o:Expr} {es:List Expr} {kws:List Keyword} {te ta:TE} {t tk:TA} {nm:Option Str}
variable {g:List Value->List Value->List Value} {gV:List V->List V->List V}
end
structure FnScope (N P:List Str) (sc:Scope):Prop where
 kind:sc.kind= .function
 co:sc.isCoroutine=false
 gen:sc.isGenerator=false
 nd:N.Nodup
 pre:N.take P.length=P
 par: ∀ x∈P,sc.names.lookup x=some .local\/sc.names.lookup x=some .cell
 nofree: ∀ y∈sc.names,y.2≠ .free
theorem Zb1 {kindOf:Str->Option NameKind} {x:Str}: ∀ {binds:List (Str × Value)} {m:Str->Option Value},(∀ v,(x,v) ∉ binds)->bindL kindOf binds m x=m x
 | [],_,_=>rfl
 | (n,v) :: r,m,h=>by
  unfold bindL
  rw[Zb1 fun w hw=>h w (List.mem_cons_of_mem _ hw)]
  split
  ·have:x≠n:=by rintro rfl;exact h v List.mem_cons_self
   simp[this]
  ·rfl
theorem Zb2 {kindOf:Str->Option NameKind} {x:Str}: ∀ {binds:List (Str × Value)} {m:Str->Option Value},(∀ v,(x,v) ∉ binds)->bindC kindOf binds m x=m x
 | [],_,_=>rfl
 | (n,v) :: r,m,h=>by
  unfold bindC
  rw[Zb2 fun w hw=>h w (List.mem_cons_of_mem _ hw)]
  split
  ·rfl
  ·have:x≠n:=by rintro rfl;exact h v List.mem_cons_self
   simp[this]
theorem Zb3 {kindOf:Str->Option NameKind} {x:Str} {v:Value}: ∀ {P:List Str} {vs:List Value} {i:Nat} {m:Str->Option Value},P.Nodup->P[i]?=some x->vs[i]?=some v->kindOf x=some .local->
  bindL kindOf (P.zip vs) m x=some v
 | [],_,_,_,_,h,_,_=>by simp at h
 |_ :: _,[],_,_,_,_,h,_=>by simp at h
 |p :: P,w :: vs,0,m,nd,h1,h2,hk=>by
  simp at h1 h2;subst h1;subst h2
  show bindL kindOf ((p,w) :: P.zip vs) m p=_
  unfold bindL
  rw[Zb1 fun v hv=>(List.nodup_cons.mp nd).1 (List.of_mem_zip hv).1,if_pos hk]
  simp
 |p :: P,w :: vs,i + 1,m,nd,h1,h2,hk=>by
  show bindL kindOf ((p,w) :: P.zip vs) m x=_
  unfold bindL
  exact Zb3 (i:=i) (List.nodup_cons.mp nd).2 (by simpa using h1) (by simpa using h2) hk
theorem Zb4 {kindOf:Str->Option NameKind} {x:Str} {v:Value}: ∀ {P:List Str} {vs:List Value} {i:Nat} {m:Str->Option Value},P.Nodup->P[i]?=some x->vs[i]?=some v->kindOf x≠some .local->
  bindC kindOf (P.zip vs) m x=some v
 | [],_,_,_,_,h,_,_=>by simp at h
 |_ :: _,[],_,_,_,_,h,_=>by simp at h
 |p :: P,w :: vs,0,m,nd,h1,h2,hk=>by
  simp at h1 h2;subst h1;subst h2
  show bindC kindOf ((p,w) :: P.zip vs) m p=_
  unfold bindC
  rw[Zb2 fun v hv=>(List.nodup_cons.mp nd).1 (List.of_mem_zip hv).1,if_neg hk]
  simp
 |p :: P,w :: vs,i + 1,m,nd,h1,h2,hk=>by
  show bindC kindOf ((p,w) :: P.zip vs) m x=_
  unfold bindC
  exact Zb4 (i:=i) (List.nodup_cons.mp nd).2 (by simpa using h1) (by simpa using h2) hk
noncomputable def start (N:List Str) (vs:List V):St:=vs.map some ++ List.replicate (N.length - vs.length) none
noncomputable def Zcu (CX:CXT) (P:Program) (w:World) (K:PySem.W.Frag) (mg:Str->Option Value) (base:Heap) (N:List Str) (qual:Str) (scope:Scope) (f:Addr) (cd:Value) (A:Around) (outer:List Env) (s:Shared) (H:Hp) (E:XK):Cx where
 prog:=P
 w:=w
 K:=K
 mg:=mg
 base:=base
 A:=A.deeper (envOfC qual scope s.heap.objs.size f cd)
 N:=N
 s₀:=s
 H₀:=H
 env:=envOfC qual scope s.heap.objs.size f cd
 outer:=outer
 stack:=envOfC qual scope s.heap.objs.size f cd :: outer
 ex:=[]
 calm:=A.handled.isNone
 fn:=fun _=>true
 pn:=[]
 xe:=fun e s'=>wpAny (model P w) (A.deeper (envOfC qual scope s.heap.objs.size f cd)) (leaving (envOfC qual scope s.heap.objs.size f cd) e) (fun _ s''=>CX outer H s E e s'') (fun e' s''=>CX outer H s E e' s'') s'
theorem ZcZ {sc:Scope} {n:Nat} {x:Str} (h:sc.names.lookup x=some .cell): ∃ c,(cellsFrom n sc.names []).lookup x=some c:=by
 have q:=PySem.W.cellsFrom_some sc.names n [] (.inl h)
 exact Option.isSome_iff_exists.mp q
theorem ZdX {CX:CXT} {P:Program} {w:World} {K:PySem.W.Frag} {mg:Str->Option Value} {base:Heap} {N ps:List Str} {qual:Str} {scope:Scope} {f:Addr} {cd:Value} {A:Around} {outer:List Env} {s s1:Shared} {H:Hp} {E:XK} {us:List Value} {vs:List V}
  (S:FnScope N ps scope) (e0:Env0 P w K mg base A outer s H) (hl:vs.length=ps.length) (r:ZJ vs us)
  (x:InCallC s s.heap.objs.size (bindL (envOfC qual scope s.heap.objs.size f cd).kindOf (ps.zip us) fun _=>none) (cellsFrom (s.heap.objs.size + 1) scope.names []) (bindC (envOfC qual scope s.heap.objs.size f cd).kindOf (ps.zip us) fun _=>none) s1):
  Inv (Zcu CX P w K mg base N qual scope f cd A outer s H E) [] (start N vs) H s1:=by
 have hpl:ps.length<=N.length:=by have:=congrArg List.length S.pre;rw[List.length_take] at this;omega
 obtain ⟨h1,tk,rfl,hk⟩:=x.done
 have noA: ∀ b:Addr,b ∉ (Zcu CX P w K mg base N qual scope f cd A outer s H E).ex:=fun b z=>absurd (show b∈([]:List Addr) from z) (by simp)
 refine ⟨⟨e0.mod,S.kind,rfl,rfl,Nat.le_refl _,fun y z c h1 h2=> ?_,fun y hy=> ?_,fun y c _ h=> ?_,fun z=>Option.isNone_iff_eq_none.mp z,Around.frames_deeper e0.frames,.inr ⟨rfl,rfl⟩,fun b z=>absurd z (noA b),e0.bs,e0.bsz,fun b _ _=>noA b,fun b z=>absurd z (noA b),e0.funs,e0.frf⟩,
  rfl,e0.bare,Un.kept hk,⟨_,x.toInCall.ns,fun i y v h1 h2 h3=> ?_⟩,fun y c h=>⟨_,x.cell y c h⟩,e0.hok.fresh (Nat.le_refl _),fun y c h=> ?_,fun p hp=>absurd (show p∈([]:List (Addr × Obj)) from hp) (by simp),e0.hok.kept hk,?_,e0.qd⟩
 ·exact name_of_addr x.apart (PySem.mem_of_lookup h1) (PySem.mem_of_lookup h2)
 ·have hy:scope.names.lookup y=some .cell\/scope.names.lookup y=some .free:=hy
  rcases hy with hy | hy
  ·exact ZcZ hy
  ·exact absurd rfl (S.nofree _ (PySem.mem_of_lookup hy))
 ·exact Nat.le_of_lt (x.above y c (PySem.mem_of_lookup h))
 ·have hi:i < vs.length:=by
   unfold start at h2
   by_cases hi:i < vs.length
   ·exact hi
   ·rw[List.getElem?_append_right (by simpa using hi)] at h2
    rw[List.getElem?_replicate] at h2
    split at h2<;>cases h2
  have ha:vs[i]?=some v:=by
   unfold start at h2
   rw[List.getElem?_append_left (by simpa using hi),List.getElem?_map] at h2
   cases e:vs[i]? with
   |none=>rw[e] at h2;cases h2
   |some a=>rw[e] at h2;cases h2;rfl
  obtain ⟨u,hu,rv⟩:=r.get ha
  have hp:ps[i]?=some y:=by
   rw[<- S.pre,List.getElem?_take_of_lt (by omega)];exact h1
  have ndP:ps.Nodup:=by rw[<- S.pre];exact S.nd.sublist (List.take_sublist _ _)
  refine ⟨u,rv,?_⟩
  rcases S.par y (List.mem_of_getElem? hp) with k | k
  ·exact .inl ⟨k,Zb3 ndP hp hu k⟩
  ·obtain ⟨c,e⟩:=ZcZ (n:=s.heap.objs.size + 1) k
   refine .inr ⟨.inl k,c,e,?_⟩
   have q:=x.cell y c e
   rw[Zb4 ndP hp hu (by show scope.names.lookup y≠_;rw[k];decide)] at q
   exact q
 ·exact e0.hok.fresh (Nat.le_of_lt (x.above y c (PySem.mem_of_lookup h)))
 ·unfold start
  show _=N.length
  rw[List.length_append,List.length_map,List.length_replicate]
  omega
theorem ZkU {CX:CXT} {P:Program} {w:World} {K:PySem.W.Frag} {mg:Str->Option Value} {base:Heap} {k:Nat} {f:Addr} {name qual:Str} {params:Arguments} {body:List Stmt} {scope:Scope} {dV kV doc pm cdv ct oc:Value} {an od:Option Addr}
  {osl:Array (Option Value)} {N ps:List Str} {sp:Sp} (lk:K.lookup f=some ⟨oc,od,.func (PySem.W.fnOf name qual params body scope dV kV doc pm an cdv ct),osl⟩) (hcd:PySem.W.codeIn K cdv qual=true) (S:FnScope N ps scope)
  (len: ∀ vs H Q E,sp vs H Q E->vs.length=ps.length)
  (hbody: ∀ (A:Around) (outer:List Env) (s:Shared) (H:Hp) (vs:List V) (Q:VK) (E:XK),Room k (A.deeper (envOfC qual scope s.heap.objs.size f cdv))->sp vs H Q E->
   ∃ t,PSs (Zcu CX P w K mg base N qual scope f cdv A outer s H E) body t/\t { nx:=fun _ H'=>Q .non H',rt:=Q } (start N vs) H):
  FnOk P w K mg base CX (k + 1) f (PySem.W.fnOf name qual params body scope dV kV doc pm an cdv ct) ps sp:=by
 refine ⟨len,fun A outer s H args us vs Q E hr e0 hb r hsp=> ?_⟩
 have hl:=len _ _ _ _ hsp
 have KX:K.In s.heap:=e0.mod.kin.keeps fun b o e=>(e0.bs b o e).1
 have lim:s.heap.NoLimit:=e0.mod.nolimit.keeps fun b o e=>(e0.bs b o e).1
 have hkind: ∀ y∈ps.zip us,scope.names.lookup y.1=some .local\/(scope.names.lookup y.1=some .cell/\((cellsFrom (s.heap.objs.size + 1) scope.names []).lookup y.1).isSome=true):=fun ⟨n,v⟩ hy=>by
  rcases S.par n (List.of_mem_zip hy).1 with q | q
  ·exact .inl q
  ·exact .inr ⟨q,PySem.W.cellsFrom_some _ _ _ (.inl q)⟩
 refine codeAny_call_function hr.depth (KX _ _ lk) rfl S.co S.gen rfl (PySem.W.codeRec_of KX hcd) (hb _ _ _ _ ?_)
 refine wpAny_newFunctionEnv_cells S.kind hkind fun env he s1 x=> ?_
 subst he
 refine ⟨lim.keeps x.toInCall.keep,codeAny_func ?_⟩
 obtain ⟨t,ht,hq⟩:=hbody A outer s H vs Q E (hr.deeper _) hsp
 have I:Inv (Zcu CX P w K mg base N qual scope f cdv A outer s H E) [] (start N vs) H s1:=ZdX S e0 hl r x
 refine wpAny_mono (ht [] s1 (start N vs) H _ I hq) (fun fl s' hs=> ?_) fun e s' hs=>hs
 have fin: ∀ {σ':St} {H':Hp} {v:V} {u:Value},Inv (Zcu CX P w K mg base N qual scope f cdv A outer s H E) [] σ' H' s'->ZC v u->Q v H'->CE outer P w H s Q u s':=
  fun {σ' H' v u} J rv q=>⟨v,H',J.os,J.bare,J.base,J.hok,rv,q⟩
 cases fl with
 |ret u=>
  obtain ⟨v,σ',H',J,rv,q⟩:=hs
  exact fin J rv q
 |next=>
  obtain ⟨σ',H',J,q⟩:=hs
  exact fin (v:=V.non) (u:=Value.none) J rfl q
 |brk=>
  obtain ⟨_,_,_,q⟩:=hs
  exact False.elim q
 |cont=>
  obtain ⟨_,_,_,q⟩:=hs
  exact False.elim q
end L2
namespace L2
open PySem PySem.Spec PyProof.Rows
section
variable {X:Cx} {x:Str} {p pos:Pos} {e:Expr} {es:List Expr} {t:TA} {id T:String} {r:List V->Hp->VK->Prop}
noncomputable def tCB (r:List V->Hp->VK->Prop) (t:TA):TE:=fun σ H Q=>t σ H fun vs H1=>r vs H1 Q
theorem Zc0 (hc:Zbq X (.builtin id) r) (hg:Gl X x) (hm:X.mg x=none) (hv:bootBuiltins x=some (.builtin id)) (ha:PA X (e :: es) t) (hn:x≠"__name__":=by decide) (hdb:(x == ("__debug__":Str))=false:=by decide)
  (he:starEach (e :: es) X.env=(false,eval e X.env) :: starEach es X.env:=by rfl) (hpl:(backTo pos (starEach es X.env)).any (·.1)=false:=by rfl):PE X (.Call (.Name x p) (e :: es) [] pos) (tCB r t):=by
 intro pins s σ H Q I h
 refine wpAny_Call_Name_kw (Zb0 I hg hm hv ?_ hn hdb)
 exact PyProof.Rows.callWith_builtin1 (thn (ha pos pins s σ H _ I h) fun us s1 ⟨vs,H1,I1,r1,q1⟩=>hc pins s1 σ H1 vs us Q I1 r1 q1) he hpl
theorem ZdY (hc:Zbq X (.type T) r) (hg:Gl X x) (hm:X.mg x=none) (hv:bootBuiltins x=some (.type T)) (ha:PA X (e :: es) t) (hn:x≠"__name__":=by decide) (hdb:(x == ("__debug__":Str))=false:=by decide)
  (he:starEach (e :: es) X.env=(false,eval e X.env) :: starEach es X.env:=by rfl) (hpl:(backTo pos (starEach es X.env)).any (·.1)=false:=by rfl):PE X (.Call (.Name x p) (e :: es) [] pos) (tCB r t):=by
 intro pins s σ H Q I h
 refine wpAny_Call_Name_kw (Zb0 I hg hm hv ?_ hn hdb)
 exact PyProof.Rows.callWith_type1 (thn (ha pos pins s σ H _ I h) fun us s1 ⟨vs,H1,I1,r1,q1⟩=>hc pins s1 σ H1 vs us Q I1 r1 q1) he hpl
end
end L2
namespace HT
open PySem PyProof.Rows
noncomputable def Zbr:List Int->List Int->Bool
 | [],[]=>false
 | [],_ :: _=>true
 |_ :: _,[]=>false
 |x :: xs,y :: ys=>if x=y then Zbr xs ys else decide (x < y)
theorem ZaM (x y:Int) (xs ys:List Int):Zbr (x :: xs) (y :: ys)=if x=y then Zbr xs ys else decide (x < y):=rfl
section
open PySem.SeqAt
open PySem.AutoSeq1 (wpAny_loadPart')
open PySem.MeetsSeq PySem.MeetsSeq2 PySem.MeetsSeq3
end
section
variable {prog:Program} {w:World} {A:Around} {E:Value->Shared->Prop} {s:Shared}
theorem Zgv {t b:Addr} {vs ws:List Value} {Q:Value->Shared->Prop} (ht:IsTup s.heap t vs.toArray) (hb:IsTup s.heap b ws.toArray) (hv:vs≠[])
  (h1:ws=[]->Q (.ref t) s) (h2:ws≠[]->Q (.ref s.heap.objs.size) { s with heap:=s.heap.push { cls:= .type "tuple",data:= .seq (vs ++ ws).toArray } })
  (hsz:vs.length + ws.length<=sizeLine):wpAny (model prog w) A (binaryOp .Add (.ref t) (.ref b)) Q E s:=by
 obtain ⟨⟨cls,dd,data,sl⟩,ho,hc,n,hd⟩:=id ht
 obtain ⟨⟨cls2,dd2,data2,sl2⟩,ho2,hc2,n2,hd2⟩:=id hb
 simp only at hc hd hc2 hd2
 subst hc hd hc2 hd2
 have e:vs.toArray ++ ws.toArray=(vs ++ ws).toArray:=by simp
 by_cases hw:ws=[]
 ·exact concat_meets ⟨_,ho,rfl⟩ ⟨_,ho2,rfl⟩ noFill_tuple_add seq_tuple_add PySem.F.slot_tuple_add PySem.F.entry_tuple_add (PySem.F.args_tuple_add_2 _ _)
   (tuple_addW1 t b vs.toArray ws.toArray n n2 dd dd2 sl sl2 (by simpa using hv) (by simp[hw])) ⟨ho,ho2,h1 hw⟩
 ·refine concat_meets ⟨_,ho,rfl⟩ ⟨_,ho2,rfl⟩ noFill_tuple_add seq_tuple_add PySem.F.slot_tuple_add PySem.F.entry_tuple_add (PySem.F.args_tuple_add_2 _ _)
   (tuple_addW2 t b vs.toArray ws.toArray n n2 dd dd2 sl sl2 (by simpa using hv) (by simpa using hw) (by rw[List.size_toArray,List.size_toArray];exact hsz)) ⟨ho,ho2,?_⟩
  rw[e]
  exact h2 hw
noncomputable def sIx (n d:Nat):Option Int->Nat
 |none=>d
 |some v=>if v < 0 then (v + (n:Int)).toNat else min v.toNat n
theorem Zif (n d:Nat) (hd:d<=n) (o:Option Int):sIx n d o<=n:=by
 cases o with
 |none=>exact hd
 |some v=>
  show (if v < 0 then (v + (n:Int)).toNat else min v.toNat n)<=n
  by_cases hv:v < 0
  ·rw[if_pos hv];omega
  ·rw[if_neg hv];exact Nat.min_le_right _ _
theorem ZdZ (v:Int) (n d:Nat):(if v < 0 then max (v + (n:Int)) 0 else min v (n:Int))=((sIx n d (some v):Nat):Int):=by
 show (if v < 0 then max (v + (n:Int)) 0 else min v (n:Int))=(((if v < 0 then (v + (n:Int)).toNat else min v.toNat n):Nat):Int)
 by_cases hv:v < 0
 ·simp only[if_pos hv];omega
 ·simp only[if_neg hv];omega
theorem Zdl (lo hi:Option Int) (n:Nat):Builtin.Slice.sliceAdjust lo hi 1 (n:Int)=(((sIx n 0 lo:Nat):Int),((sIx n n hi:Nat):Int)):=by
 have h1: ¬ ((1:Int) < 0):=by omega
 unfold Builtin.Slice.sliceAdjust
 simp only[h1,if_false]
 refine Prod.ext ?_ ?_
 ·cases lo with
  |none=>rfl
  |some v=>exact ZdZ v n 0
 ·cases hi with
  |none=>rfl
  |some v=>exact ZdZ v n n
theorem Zdm (i j:Nat):Builtin.Slice.slicePlaces (i:Int) (j:Int) 1=j - i:=by
 unfold Builtin.Slice.slicePlaces
 have h1:(1:Int) > 0:=by omega
 simp only[h1,if_true,Int.ediv_one]
 split<;>omega
theorem Zbw {v:Value} {o:Option Int} {Q:Option Int->Shared->Prop} (p:IsPart v o) (h:Q o s):wpAny (model prog w) A (Builtin.Slice.slicePartIndex v) Q E s:=by
 cases p with
 |none=>exact slicePart_none h
 |int i t=>exact slicePart_int h
theorem Za3 {sl:Addr} {vl vu:Value} {lo hi:Option Int} {n:Nat} {Q:Int × Int × Nat->Shared->Prop} (hs:s.heap.IsSliceOf sl vl vu .none) (pl:IsPart vl lo) (pu:IsPart vu hi)
  (h:Q (((sIx n 0 lo:Nat):Int),1,sIx n n hi - sIx n 0 lo) s):wpAny (model prog w) A (Builtin.Slice.sliceApplied (.ref sl) (pure (n:Int))) Q E s:=by
 obtain ⟨os,hos,hcs,hds⟩:=id hs
 unfold Builtin.Slice.sliceApplied Builtin.Slice.sliceFields
 refine wpAny_bind (wpAny_bind (wpAny_field hos hds (x:=vl) rfl (wpAny_bind (wpAny_field hos hds (x:=vu) rfl (wpAny_bind (wpAny_field hos hds (x:= .none) rfl (wpAny_pure ?_)))))))
 refine wpAny_bind (slicePart_none ?_)
 show wpAny _ _ (if ((1:Int) == 0)=true then _ else _) _ _ s
 rw[if_neg (by decide)]
 refine wpAny_bind (Zbw pl (wpAny_bind (Zbw pu (wpAny_bind (wpAny_pure ?_)))))
 show wpAny _ _ (match Builtin.Slice.sliceAdjust lo hi 1 (n:Int) with | (lo,hi)=>pure (lo,(1:Int),Builtin.Slice.slicePlaces lo hi 1)) _ _ s
 rw[Zdl lo hi n]
 show wpAny _ _ (pure (((sIx n 0 lo:Nat):Int),(1:Int),Builtin.Slice.slicePlaces ((sIx n 0 lo:Nat):Int) ((sIx n n hi:Nat):Int) 1)) _ _ s
 rw[Zdm]
 exact wpAny_pure h
theorem Ze5 (xs:Array Value) (i k:Nat):((List.range k).filterMap fun (m:Nat)=>xs[((i:Int) + (m:Int) * 1).toNat]?).toArray=((xs.toList.drop i).take k).toArray:=by
 have e:(fun (m:Nat)=>xs[((i:Int) + (m:Int) * 1).toNat]?)=fun m=>xs[i + m]?:=by
  funext m
  have:((i:Int) + (m:Int) * 1).toNat=i + m:=by omega
  rw[this]
 rw[e]
 have:=pick_run xs i k
 rw[List.filterMap_map] at this
 have e2:((fun x=>xs[x]?) ∘ fun x=>i + x)=fun m=>xs[i + m]?:=rfl
 rw[e2] at this
 rw[this]
theorem ZaN {t sl:Addr} {items:Array Value} {vl vu:Value} {lo hi:Option Int} {Q:Value->Shared->Prop} (ht:IsTup s.heap t items) (hs:s.heap.IsSliceOf sl vl vu .none) (pl:IsPart vl lo) (pu:IsPart vu hi)
  (hw: ¬ (sIx items.size 0 lo=0/\sIx items.size items.size hi=items.size))
  (h:Q (.ref s.heap.objs.size) { s with heap:=s.heap.push { cls:= .type "tuple",data:= .seq ((items.toList.drop (sIx items.size 0 lo)).take (sIx items.size items.size hi - sIx items.size 0 lo)).toArray } })
  (hsz:items.size<=sizeLine):wpAny (model prog w) A (getItem (.ref t) (.ref sl)) Q E s:=by
 have htake:sizeOk (.seq ((items.toList.drop (sIx items.size 0 lo)).take (sIx items.size items.size hi - sIx items.size 0 lo)).toArray):=by
  show ((items.toList.drop (sIx items.size 0 lo)).take (sIx items.size items.size hi - sIx items.size 0 lo)).toArray.size<=sizeLine
  rw[List.size_toArray,List.length_take,List.length_drop,Array.length_toList]
  omega
 have hj:sIx items.size items.size hi<=items.size:=Zif _ _ (Nat.le_refl _) hi
 obtain ⟨os,hos,hcs,hds⟩:=id hs
 have hTs:s.TypeIs (.ref sl) "slice":=⟨os,hos,hcs⟩
 unfold getItem
 try with_reducible refine wpAny_holding ?_
 first | refine wpAny_bind (wpAny_pure ?_) | skip
 refine wpAny_bind (wpAny_sequenceKey ht.typeIs (by decide) ?_)
 refine wpAny_bind (wpAny_callSpecial?_slot (name:=Str.ofString "__getitem__") ht.typeIs PyProof.Rows.slot_tuple_getitem
  (wpAny_call_entry PyProof.Rows.slot_tuple_getitem ht.typeIs entry_tuple_getitem ?_ (args_tuple_getitem _ _)))
 show wpAny _ _ (Builtin.Tuple.tupleItemsOf (.ref t) >>= _) _ _ s
 refine wpAny_bind (tupleItemsOf_ ht ?_)
 refine wpAny_bind (wpAny_typeOf hTs ?_)
 rw[if_pos (by decide)]
 refine wpAny_bind (Za3 hs pl pu ?_)
 have hno: ¬ ((((sIx items.size 0 lo:Nat):Int) == 0 && (1:Int) == 1 && (sIx items.size items.size hi - sIx items.size 0 lo) == items.size)=true):=by
  intro q
  rw[Bool.and_eq_true,Bool.and_eq_true] at q
  have q1:((sIx items.size 0 lo:Nat):Int)=0:=eq_of_beq q.1.1
  have q2:sIx items.size items.size hi - sIx items.size 0 lo=items.size:=eq_of_beq q.2
  exact hw ⟨by omega,by omega⟩
 show wpAny _ _ (if (((sIx items.size 0 lo:Nat):Int) == 0 && (1:Int) == 1 && (sIx items.size items.size hi - sIx items.size 0 lo) == items.size)=true then _ else _) _ _ s
 rw[if_neg hno,Ze5]
 first
  |exact wpAny_bind (m:=Builtin.Tuple.tupleExact _) (wpAny_newObj_type (wpAny_pure ⟨_,rfl,wpAny_pure h⟩) htake)
  |exact wpAny_bind (m:=Builtin.Tuple.tupleExact _) (wpAny_newObj_type (wpAny_bind (wpAny_pure (wpAny_pure ⟨_,rfl,wpAny_pure h⟩))) htake)
  |exact wpAny_bind (wpAny_bind (m:=Builtin.Tuple.tupleExact _) (wpAny_newObj_type (wpAny_pure (wpAny_pure ⟨_,rfl,wpAny_pure h⟩)) htake))
  |exact wpAny_bind (wpAny_bind (m:=Builtin.Tuple.tupleExact _) (wpAny_newObj_type (wpAny_pure ⟨_,rfl,wpAny_pure h⟩) htake))
end
end HT
namespace L2
open PySem PySem.Spec PyProof.Rows
noncomputable abbrev TO:=St->Hp->(Option Int->Hp->Prop)->Prop
noncomputable def PO (X:Cx) (e:Option Expr) (t:TO):Prop:=
 ∀ (pins:List (Addr × Obj)) (s:Shared) (σ:St) (H:Hp) (Q:Option Int->Hp->Prop),Inv X pins σ H s->t σ H Q->
  wpAny (model X.prog X.w) X.A (evalPart e X.env) (fun u s'=> ∃ o H',Inv X pins σ H' s'/\IsPart u o/\Q o H') X.xe s
noncomputable def tNoPart:TO:=fun _ H Q=>Q none H
noncomputable def ZkV (t:TE):TO:=fun σ H Q=>t σ H fun x H1=> ∃ i,x= .int i/\Q (some i) H1
section
variable {X:Cx} {e:Expr} {te:TE} {lo hi:Option Expr} {tl th:TO} {pos p2:Pos}
theorem Zgw:PO X none tNoPart:=by
 intro pins s σ H Q I h
 rw[evalPart_none]
 exact wpAny_pure ⟨none,H,I,.none,h⟩
theorem Zgx (h:PE X e te):PO X (some e) (ZkV te):=by
 intro pins s σ H Q I hw
 rw[evalPart_some]
 refine thn (h pins s σ H _ I hw) fun u s1 ⟨x,H1,I1,r1,q1⟩=> ?_
 obtain ⟨i,rfl,q⟩:=q1
 obtain ⟨t,rfl⟩:=r1
 exact ⟨some i,H1,I1,.int i t,q⟩
noncomputable def SlR (X:Cx) (r:V->Option Int->Option Int->Hp->VK->Prop):Prop:=
 ∀ (pins:List (Addr × Obj)) (s:Shared) (σ:St) (H:Hp) (x:V) (v vl vu:Value) (lo hi:Option Int) (sl:Addr) (Q:VK),Inv X pins σ H s->ZC x v->s.heap.IsSliceOf sl vl vu .none->IsPart vl lo->IsPart vu hi->r x lo hi H Q->
  ∃ T id,typeLookup (.type T) "__getitem__"=pure (some (.builtin id))/\s.TypeIs v T/\wpAny (model X.prog X.w) X.A (getItem v (.ref sl)) (EP X pins σ Q) X.xe s
theorem SlR.or {r r':V->Option Int->Option Int->Hp->VK->Prop} (h:SlR X r) (h':SlR X r'):SlR X (fun x lo hi H Q=>r x lo hi H Q\/r' x lo hi H Q):=by
 intro pins s σ H x v vl vu lo hi sl Q I rx hs pl pu q
 rcases q with q | q
 ·exact h pins s σ H x v vl vu lo hi sl Q I rx hs pl pu q
 ·exact h' pins s σ H x v vl vu lo hi sl Q I rx hs pl pu q
noncomputable def tSl (r:V->Option Int->Option Int->Hp->VK->Prop) (te:TE) (tl th:TO):TE:=fun σ H Q=>te σ H fun x H1=>tl σ H1 fun l H2=>th σ H2 fun u H3=>r x l u H3 Q
theorem Ze6 {r:V->Option Int->Option Int->Hp->VK->Prop} (hr:SlR X r) (he:PE X e te) (hl:PO X lo tl) (hu:PO X hi th):PE X (.Subscript e (.Slice lo hi none p2) pos) (tSl r te tl th):=by
 intro pins s σ H Q I h
 refine Subscript_ (thn (he pins s σ H _ I h) fun v s1 ⟨x,H1,I1,r1,q1⟩=> ?_)
 refine wpAny_Slice (thn (hl pins s1 σ H1 _ I1 q1) fun vl s2 ⟨l,H2,I2,pl,q2⟩=>thn (hu pins s2 σ H2 _ I2 q2) fun vu s3 ⟨u,H3,I3,pu,q3⟩=> ?_)
 rw[evalPart_none]
 refine wpAny_pure ?_
 have I4:Inv X pins σ H3 { s3 with heap:=s3.heap.push { cls:= .type "slice",data:= .fields #[vl,vu,.none] } }:=I3.kept (t':=s3.toks) fun b ob q=>Heap.get?_push_of_some _ q
 obtain ⟨T,id,hT,ht,hg⟩:=hr pins { s3 with heap:=s3.heap.push { cls:= .type "slice",data:= .fields #[vl,vu,.none] } } σ H3 x v vl vu l u s3.heap.objs.size Q I4 r1 (Heap.IsSliceOf.new ..) pl pu q3
 show wpAny (model X.prog X.w) X.A (subscriptTail e (.Slice lo hi none p2) v (.ref s3.heap.objs.size)) (EP X pins σ Q) X.xe { s3 with heap:=s3.heap.push { cls:= .type "slice",data:= .fields #[vl,vu,.none] } }
 exact tail_any (ops:=[.ref s3.heap.objs.size,v]) ht hT hg (by with_unfolding_all rfl)
noncomputable def ZfX (xs:List V) (lo hi:Option Int):List V:=(xs.drop (HT.sIx xs.length 0 lo)).take (HT.sIx xs.length xs.length hi - HT.sIx xs.length 0 lo)
theorem Zba (xs:List V) (lo hi:Option Int):(ZfX xs lo hi).length<=xs.length:=by
 unfold ZfX
 rw[List.length_take,List.length_drop]
 omega
noncomputable def ZnJ (K:PySem.W.Frag):V->Option Int->Option Int->Hp->VK->Prop:=fun x lo hi H Q=> ∃ a xs,x= .ref a/\SqT K H a xs/\
 ¬ (HT.sIx xs.length 0 lo=0/\HT.sIx xs.length xs.length hi=xs.length)/\ ∀ p,H p=none->Q (.ref p) (upd H p (.tup (ZfX xs lo hi)))
theorem Zig:SlR X (ZnJ X.K):=by
 intro pins s σ H x v vl vu lo hi sl Q I rx hs pl pu h
 obtain ⟨a,xs,rfl,hx,hw,q⟩:=h
 cases rx
 obtain ⟨its,r,ht,hz⟩:=I.tuple hx
 have hlen:its.toArray.size=xs.length:=by rw[List.size_toArray];exact r.length.symm
 refine ⟨"tuple",_,PyProof.Rows.slot_tuple_getitem.lookup,ht.typeIs,?_⟩
 refine HT.ZaN ht hs pl pu (by rw[hlen];exact hw) ?_ (by rw[hlen];exact hz)
 rw[hlen]
 refine ⟨.ref s.heap.objs.size,_,I.laid (t':=s.toks) (o:= .tup (ZfX xs lo hi)) (fun b ob q=>Heap.get?_push_of_some _ q) (Nat.le_refl _) ?_,rfl,q _ (I.hok.fresh (Nat.le_refl _))⟩
 exact ⟨Nat.le_trans (Zba xs lo hi) hz,_,(r.drop (HT.sIx xs.length 0 lo)).take (HT.sIx xs.length xs.length hi - HT.sIx xs.length 0 lo),IsTup.new _ _⟩
noncomputable def Zgy (K:PySem.W.Frag):R2:=fun x y H Q=> ∃ a b xs ys,x= .ref a/\y= .ref b/\SqT K H a xs/\SqT K H b ys/\xs≠[]/\xs.length + ys.length<=sizeLine/\
 (ys=[]->Q (.ref a) H)/\(ys≠[]-> ∀ p,H p=none->Q (.ref p) (upd H p (.tup (xs ++ ys))))
theorem ZJ.nil_iff {xs:List V} {us:List Value} (r:ZJ xs us):us=[] ↔ xs=[]:=by
 cases r with
 |nil=>simp
 |cons _ _=>simp
theorem Zgz:OpR X (binaryOp .Add) (Zgy X.K):=by
 intro pins s σ H x y v u Q I rx ry h
 obtain ⟨a,b,xs,ys,rfl,rfl,ha,hb,hx,hz,q1,q2⟩:=h
 cases rx
 cases ry
 obtain ⟨its,r1,p1,_⟩:=I.tuple ha
 obtain ⟨its2,r2,p2,_⟩:=I.tuple hb
 refine HT.Zgv p1 p2 (fun z=>hx (r1.nil_iff.mp z)) (fun z=>⟨.ref a,H,I,rfl,q1 (r2.nil_iff.mp z)⟩) (fun z=> ?_) (by rw[<- r1.length,<- r2.length];exact hz)
 refine ⟨.ref s.heap.objs.size,_,I.laid (t':=s.toks) (o:= .tup (xs ++ ys)) (fun b ob q=>Heap.get?_push_of_some _ q) (Nat.le_refl _) ?_,rfl,q2 (fun w=>z (r2.nil_iff.mpr w)) _ (I.hok.fresh (Nat.le_refl _))⟩
 exact ⟨by rw[List.length_append];exact hz,_,r1.append r2,IsTup.new _ _⟩
end
end L2
namespace L2
open PySem PySem.Spec PyProof.Rows
noncomputable def ixN (n:Nat) (i:Int):Option Nat:=if 0<=i then (if i < n then some i.toNat else none) else if -(n:Int)<=i then some (i + n).toNat else none
noncomputable def atI {α:Type} (xs:List α) (i:Int):Option α:=(ixN xs.length i).bind fun j=>xs[j]?
theorem Zd0 {n:Nat} {i:Int} {j:Nat} (h:ixN n i=some j):seqIndex? i n=some j/\j < n/\ -(n:Int)<=i/\i < n:=by
 unfold ixN at h
 by_cases h0:0<=i
 ·rw[if_pos h0] at h
  by_cases h1:i < n
  ·rw[if_pos h1] at h
   have e:i.toNat=j:=Option.some.inj h
   exact ⟨by rw[seqIndex_of h0 h1,e],by omega,by omega,h1⟩
  ·rw[if_neg h1] at h;cases h
 ·rw[if_neg h0] at h
  by_cases h1: -(n:Int)<=i
  ·rw[if_pos h1] at h
   have e:(i + n).toNat=j:=Option.some.inj h
   exact ⟨by rw[seqIndex_neg (by omega) h1,e],by omega,h1,by omega⟩
  ·rw[if_neg h1] at h;cases h
theorem Zd1 {α:Type} {xs:List α} {i:Int} {v:α} (h:atI xs i=some v): ∃ j,seqIndex? i xs.length=some j/\xs[j]?=some v/\j < xs.length/\ -(xs.length:Int)<=i/\i < xs.length:=by
 unfold atI at h
 cases e:ixN xs.length i with
 |none=>rw[e] at h;cases h
 |some j=>
  rw[e] at h
  obtain ⟨h1,h2,h3,h4⟩:=Zd0 e
  exact ⟨j,h1,h,h2,h3,h4⟩
theorem ZgA {α:Type} {xs:List α} {j:Nat} {v:α} (h:xs[j]?=some v):atI xs (j:Int)=some v:=by
 have hj:j < xs.length:=(List.getElem?_eq_some_iff.mp h).1
 have e:ixN xs.length (j:Int)=some j:=by
  unfold ixN
  rw[if_pos (by omega),if_pos (by omega)];simp
 unfold atI;rw[e];exact h
noncomputable def Zd2 (b:Expr):Prop:= ∀ o i,subscripted b false o i=operate [o,i] (getItem o i)
noncomputable def IxR (X:Cx) (r:R2):Prop:=
 ∀ (value slice:Expr) (pins:List (Addr × Obj)) (s:Shared) (σ:St) (H:Hp) (x y:V) (v u:Value) (Q:VK),Inv X pins σ H s->ZC x v->ZC y u->r x y H Q->
  subscripted slice false v u=operate [v,u] (getItem v u)->wpAny (model X.prog X.w) X.A (subscriptTail value slice v u) (EP X pins σ Q) X.xe s
noncomputable def MtR (X:Cx) (id:String) (r:V->List V->Hp->VK->Prop):Prop:=
 ∀ (pins:List (Addr × Obj)) (s:Shared) (σ:St) (H:Hp) (x:V) (xs:List V) (v:Value) (us:List Value) (Q:VK),Inv X pins σ H s->ZC x v->ZJ xs us->r x xs H Q->
  wpAny (model X.prog X.w) X.A (call (.builtin id) (v :: us)) (EP X pins σ Q) X.xe s
section
variable {X:Cx} {a b:Expr} {ta tb:TE} {pos:Pos}
theorem IxR.or {r r':R2} (h:IxR X r) (h':IxR X r'):IxR X (fun x y H Q=>r x y H Q\/r' x y H Q):=by
 intro value slice pins s σ H x y v u Q I rx ry q hs
 rcases q with q | q
 ·exact h value slice pins s σ H x y v u Q I rx ry q hs
 ·exact h' value slice pins s σ H x y v u Q I rx ry q hs
theorem ZkW {r:R2} (hr:IxR X r) (ha:PE X a ta) (hb:PE X b tb) (hs:Zd2 b):PE X (.Subscript a b pos) (tOp r ta tb):=by
 intro pins s σ H Q I h
 exact Subscript_ (ZkO ha hb I h fun v u s2 x y H2 I2 rx ry q=>hr a b pins s2 σ H2 x y v u Q I2 rx ry q (hs _ _))
noncomputable def ZmC (K:PySem.W.Frag):R2:=fun x y H Q=> ∃ p xs i v,x= .ref p/\y= .int i/\SqL K H p xs/\atI xs i=some v/\Q v H
noncomputable def ZmD (K:PySem.W.Frag):R2:=fun x y H Q=> ∃ p xs i v,x= .ref p/\y= .int i/\SqT K H p xs/\atI xs i=some v/\Q v H
theorem ZgB:IxR X (ZmC X.K):=by
 intro value slice pins s σ H x y v u Q I rx ry h hs
 obtain ⟨p,xs,i,z,rfl,rfl,hq,he,q⟩:=h
 cases rx
 obtain ⟨t,rfl⟩:=ry
 obtain ⟨its,r,pl,hz⟩:=I.list hq
 obtain ⟨j,h1,h2,h3,h4,h5⟩:=Zd1 he
 obtain ⟨w,ew,rw'⟩:=r.get h2
 have hl:=r.length
 have hn:=ZcY
 have fin:EP X pins σ Q w s:=⟨z,H,I,rw',q⟩
 by_cases h0:0<=i
 ·have hj:i.toNat=j:=by
   rw[seqIndex_of h0 h5] at h1
   exact Option.some.inj h1
  exact item_listR pl.isList h0 (by omega) (by rw[hj];simpa using ew) fin hs
 ·have hj:(i + (its.toArray.size:Int)).toNat=j:=by
   rw[seqIndex_neg (by omega) h4] at h1
   rw[List.size_toArray,<- hl]
   exact Option.some.inj h1
  exact subscriptTail_builtinR (x:=w) pl.isList.typeIs slot_list_getitem.lookup
   (wpAny_getItem_list_neg (Q:=fun r s'=>r=w/\EP X pins σ Q r s') pl.isList (by omega) (by rw[List.size_toArray]<;>omega) (by omega) (by rw[hj];simpa using ew) ⟨rfl,fin⟩) hs
theorem Zih:IxR X (ZmD X.K):=by
 intro value slice pins s σ H x y v u Q I rx ry h hs
 obtain ⟨p,xs,i,z,rfl,rfl,hq,he,q⟩:=h
 cases rx
 obtain ⟨t,rfl⟩:=ry
 obtain ⟨its,r,pl,hz⟩:=I.tuple hq
 obtain ⟨j,h1,h2,h3,h4,h5⟩:=Zd1 he
 obtain ⟨w,ew,rw'⟩:=r.get h2
 have hl:=r.length
 have hn:=ZcY
 have fin:EP X pins σ Q w s:=⟨z,H,I,rw',q⟩
 exact subscriptTail_builtinR (x:=w) pl.typeIs slot_tuple_getitem.lookup
  (getItem_tuple (j:=j) (Q:=fun r s'=>r=w/\EP X pins σ Q r s') pl (by omega) (by omega) (by rw[List.size_toArray,<- hl];exact h1) (by simpa using ew) ⟨rfl,fin⟩) hs
theorem Zdn (its:List Value) (n j:Nat) (u:Value):Obj.mapSeq (·.setIfInBounds j u) { cls:= .type "list",data:= .seq its.toArray n }={ cls:= .type "list",data:= .seq (its.set j u).toArray n }:=by
 simp[Obj.mapSeq]
theorem Inv.lst {pins:List (Addr × Obj)} {σ:St} {H:Hp} {s:Shared} {p:Addr} {xs:List V} (I:Inv X pins σ H s) (h:H p=some (.lst xs)):
  ∃ (its:List Value) (n:Nat),ZJ xs its/\s.heap.get? p=some { cls:= .type "list",data:= .seq its.toArray n }/\xs.length<=sizeLine:=by
 obtain ⟨z,its,n,r,e⟩:=I.hok p _ h
 exact ⟨its,n,r,e,z⟩
theorem Inv.lstUpd {pins:List (Addr × Obj)} {σ:St} {H:Hp} {s:Shared} {p:Addr} {xs ys:List V} {its its':List Value} {n n':Nat} {f:Obj->Obj} (I:Inv X pins σ H s) (h:H p=some (.lst xs))
  (ho:s.heap.get? p=some { cls:= .type "list",data:= .seq its.toArray n }) (hf:f { cls:= .type "list",data:= .seq its.toArray n }={ cls:= .type "list",data:= .seq its'.toArray n' }) (r:ZJ ys its') (hz:ys.length<=sizeLine) (t:Nat):
  Inv X pins σ (upd H p (.lst ys)) { s with heap:=s.heap.update p f,toks:=t }:=by
 have e:(s.heap.update p f).get? p=some { cls:= .type "list",data:= .seq its'.toArray n' }:=by
  rw[Heap.get?_update_self f ho (by rw[hf]<;>rfl),hf]
 refine I.write (x:=p) (e:=p) (by rw[h];trivial) (.inl rfl) (fun b u hb q=>(Heap.get?_update_other _ _ (Ne.symm hb)).trans q) ⟨_,e⟩ ?_
 exact ⟨hz,its',n',r,e⟩
noncomputable def rSetL:V->V->V->Hp->(Hp->Prop)->Prop:=fun o i v H Q=> ∃ p xs k j,o= .ref p/\i= .int k/\H p=some (.lst xs)/\ixN xs.length k=some j/\Q (upd H p (.lst (xs.set j v)))
theorem Ze7:Zmy X rSetL:=by
 intro pins s σ H o i v ov iv u Q I ro ri rv h
 obtain ⟨p,xs,k,j,rfl,rfl,hp,hj,q⟩:=h
 cases ro
 obtain ⟨t,rfl⟩:=ri
 obtain ⟨its,n,r,ho,hz⟩:=I.lst hp
 obtain ⟨h1,h2,h3,h4⟩:=Zd0 hj
 have hl:=r.length
 have hn:=ZcY
 have I':Inv X pins σ (upd H p (.lst (xs.set j v))) { s with heap:=s.heap.update p (Obj.mapSeq (·.setIfInBounds j u)) }:=
  I.lstUpd hp ho (Zdn its n j u) (r.set rv j) (by rw[List.length_set];exact hz) s.toks
 by_cases h0:0<=k
 ·have hk:k.toNat=j:=by
   rw[seqIndex_of h0 h4] at h1
   exact Option.some.inj h1
  exact PySem.W.ki_setAt ho h0 (by omega) (by rw[List.size_toArray,<- hl];exact h4) (by rw[hk];exact ⟨_,I',q⟩)
 ·have hk:(k + (its.toArray.size:Int)).toNat=j:=by
   rw[seqIndex_neg (by omega) h3] at h1
   rw[List.size_toArray,<- hl]
   exact Option.some.inj h1
  exact PySem.W.ki_setBack ho (by omega) (by rw[List.size_toArray,<- hl];exact h3) (by omega) (by rw[hk];exact ⟨_,I',q⟩)
theorem Zb5 (lo hi:Option Int) (n:Nat):(sliceBounds lo hi none n).1=((HT.sIx n 0 lo:Nat):Int)/\(sliceBounds lo hi none n).2.1=((HT.sIx n n hi:Nat):Int)/\(sliceBounds lo hi none n).2.2=1:=by
 refine ⟨?_,?_,rfl⟩
 ·cases lo with
  |none=>simp[sliceBounds,HT.sIx]
  |some i=>
   simp only[sliceBounds,HT.sIx,Option.getD_none,show (1:Int) > 0 by decide,if_true]
   by_cases h:i < 0
   ·simp only[h,if_true]<;>omega
   ·simp only[h,if_false]<;>omega
 ·cases hi with
  |none=>simp[sliceBounds,HT.sIx]
  |some i=>
   simp only[sliceBounds,HT.sIx,Option.getD_none,show (1:Int) > 0 by decide,if_true]
   by_cases h:i < 0
   ·simp only[h,if_true]<;>omega
   ·simp only[h,if_false]<;>omega
theorem ZbL (its:List Value) (lo hi:Option Int):slicePick its.toArray lo hi none=((its.drop (HT.sIx its.length 0 lo)).take (HT.sIx its.length its.length hi - HT.sIx its.length 0 lo)).toArray:=by
 obtain ⟨h1,h2,h3⟩:=Zb5 lo hi its.toArray.size
 unfold slicePick
 rw[h1,h2,h3]
 simp only[sliceRange_one,pick_run,List.size_toArray]<;>rfl
noncomputable def ZnK (K:PySem.W.Frag):V->Option Int->Option Int->Hp->VK->Prop:=fun x lo hi H Q=> ∃ a xs,x= .ref a/\SqL K H a xs/\ ∀ p,H p=none->Q (.ref p) (upd H p (.lst (ZfX xs lo hi)))
theorem ZgC:SlR X (ZnK X.K):=by
 intro pins s σ H x v vl vu lo hi sl Q I rx hs pl pu h
 obtain ⟨a,xs,rfl,hx,q⟩:=h
 cases rx
 obtain ⟨its,r,ht,hz⟩:=I.list hx
 have hlen:=r.length
 refine ⟨"list",_,slot_list_getitem.lookup,ht.isList.typeIs,?_⟩
 refine wpAny_getItem_list_slice ht.isList hs pl pu .none (by simp) ?_ (by rw[List.size_toArray]<;>omega)
 rw[ZbL,<- hlen]
 refine ⟨.ref s.heap.objs.size,_,I.laid (t':=s.toks) (o:= .lst (ZfX xs lo hi)) (fun b ob q=>Heap.get?_push_of_some _ q) (Nat.le_refl _) ?_,rfl,q _ (I.hok.fresh (Nat.le_refl _))⟩
 exact ⟨Nat.le_trans (Zba xs lo hi) hz,_,0,(r.drop (HT.sIx xs.length 0 lo)).take (HT.sIx xs.length xs.length hi - HT.sIx xs.length 0 lo),Heap.get?_push_size _ rfl⟩
theorem ZaW:Zbq X (.builtin "len") (fun xs H Q=> ∃ p ys,xs=[.ref p]/\(SqL X.K H p ys\/SqT X.K H p ys)/\Q (.int ys.length) H):=by
 intro pins s σ H xs us Q I r h
 obtain ⟨p,ys,rfl,hq,q⟩:=h
 obtain ⟨u,rfl,rx⟩:=Ze3 r
 cases rx
 have hn:=ZcY
 rcases hq with hq | hq
 ·obtain ⟨its,r',pl,hz⟩:=I.list hq
  have hlen:=r'.length
  exact Calls.call_len_list pl.isList (by simp only[List.size_toArray]<;>omega) ⟨.int ys.length,H,I.tok _,⟨s.toks + 1,by rw[List.size_toArray,hlen]⟩,q⟩
 ·obtain ⟨its,r',pl,hz⟩:=I.tuple hq
  have hlen:=r'.length
  exact len_tuple pl (by simp only[List.size_toArray]<;>omega) ⟨.int ys.length,H,I.tok _,⟨s.toks + 1,by rw[List.size_toArray,hlen]⟩,q⟩
noncomputable def tyV (K:PySem.W.Frag) (T:String) (x:V) (H:Hp):Prop:=match x with
 | .str _=>T="str"
 | .int _=>T="int"
 | .ref p=>(T="list"/\ ∃ xs,SqL K H p xs)\/(T="tuple"/\ ∃ o,K.lookup p=some o/\o.cls= .type "tuple"/\o.dict=none)\/
   (T="dict"/\((∃ kvs,H p=some (.dK kvs))\/ ∃ kvs,H p=some (.dT kvs)))\/(T="set"/\ ∃ S n,H p=some (.set S n))
 |_=>False
theorem Zii {pins:List (Addr × Obj)} {σ:St} {H:Hp} {s:Shared} {T:String} {x:V} {v:Value} (I:Inv X pins σ H s) (r:ZC x v) (ty:tyV X.K T x H):
  s.TypeIs v T/\ ∀ a,v= .ref a-> ∃ ob,s.heap.get? a=some ob/\ob.dict=none:=by
 cases x with
 |str z=>
  obtain ⟨t,rfl⟩:=r
  cases (show T="str" from ty)
  exact ⟨typeIs_str s z t,fun _ e=>nomatch e⟩
 |int i=>
  obtain ⟨t,rfl⟩:=r
  cases (show T="int" from ty)
  exact ⟨typeIs_int s i t,fun _ e=>nomatch e⟩
 |ref p=>
  cases r
  rcases ty with ⟨rfl,xs,hq⟩ | ⟨rfl,o,hk,hc,hd⟩ | ⟨rfl,hk⟩ | ⟨rfl,S,n,hk⟩
  ·obtain ⟨its,_,pl,_⟩:=I.list hq
   refine ⟨pl.isList.typeIs,fun a e=> ?_⟩
   cases e
   obtain ⟨o,n,e,c,hd,_⟩:=pl
   exact ⟨o,e,hd⟩
  ·refine ⟨⟨o,I.kIn p o hk,hc⟩,fun a e=> ?_⟩
   cases e
   exact ⟨o,I.kIn _ o hk,hd⟩
  ·have z: ∃ o,s.heap.get? p=some o/\o.ExactDict:=by
    rcases hk with ⟨kvs,hk⟩ | ⟨kvs,hk⟩
    ·obtain ⟨_,_,_,_,o,_,_,e,ex,_⟩:=I.hok p _ hk
     exact ⟨o,e,ex⟩
    ·obtain ⟨_,_,_,_,o,_,_,e,ex,_⟩:=I.hok p _ hk
     exact ⟨o,e,ex⟩
   obtain ⟨o,e,ex⟩:=z
   refine ⟨⟨o,e,ex.1⟩,fun a e2=> ?_⟩
   cases e2
   exact ⟨o,e,ex.2.1⟩
  ·obtain ⟨o,_,_,_,e,ex,_⟩:=I.hok p _ hk
   refine ⟨⟨o,e,ex.1⟩,fun a e2=> ?_⟩
   cases e2
   exact ⟨o,e,ex.2.1⟩
 |_=>exact False.elim ty
noncomputable def tBM (K:PySem.W.Frag) (T:String) (r:V->List V->Hp->VK->Prop) (to:TE) (t:TA):TE:=fun σ H Q=>to σ H fun x H1=>tyV K T x H1/\t σ H1 fun xs H2=>r x xs H2 Q
variable {o e:Expr} {es:List Expr} {to:TE} {t:TA} {name:Str} {apos cpos:Pos} {T id:String} {r:V->List V->Hp->VK->Prop}
theorem ZkX (pa:PlainAttrs T) (slot:Slot T name id) (hty:typeOf (.builtin id)=pure (.type "method_descriptor")) (hm:MtR X id r) (ho:PE X o to) (ha:PA X (e :: es) t)
  (hbase:attributeBase o name X.env (eval o X.env)=eval o X.env:=by rfl)
  (hfew:((backTo cpos (starEach (e :: es) X.env)).all (fun x=> !x.1) && (backToKw cpos (keywordEach [] X.env)).all (fun x=>x.1.isSome)
   && decide ((e :: es).length + ([]:List Keyword).length + (if ([]:List Keyword).isEmpty then 0 else 1) < 30))=true:=by rfl)
  (hline:(apos.endLine == cpos.line)=true:=by rfl) (hs:starEach (e :: es) X.env=(false,eval e X.env) :: starEach es X.env:=by rfl) (hplain:(backTo cpos (starEach es X.env)).any (·.1)=false:=by rfl):
  PE X (.Call (.Attribute o name apos) (e :: es) [] cpos) (tBM X.K T r to t):=by
 intro pins s σ H Q I h
 refine wpAny_Call_method_late hbase hfew hline rfl (thn (ho pins s σ H _ I h) fun v s1 ⟨x,H1,I1,r1,ty,q1⟩=> ?_)
 obtain ⟨h1,h2⟩:=Zii I1 r1 ty
 refine ⟨T,id,pa,slot,hty,h1,h2,?_⟩
 have hA:=ha cpos pins s1 σ H1 _ I1 q1
 rw[hs] at hA ⊢
 refine Calls.callWith_builtin (by show (false || (backTo cpos (starEach es X.env)).any (·.1))=false;rw[hplain]<;>rfl) (Calls.evalArgs_plain ?_)
 exact thn hA fun us s2 ⟨vs,H2,I2,r2,q2⟩=>hm pins s2 σ H2 x vs v us Q I2 r1 r2 q2
end
end L2
namespace L2
open PySem PySem.Spec PyProof.Rows
noncomputable def MtM (X:Cx) (id:String) (r:V->List V->Hp->VK->Prop):Prop:=
 ∀ (pins:List (Addr × Obj)) (s:Shared) (σ:St) (H:Hp) (x:V) (xs:List V) (v:Value) (us:List Value) (Q:VK),Inv X pins σ H s->ZC x v->ZJ xs us->r x xs H Q->
  wpAny (model X.prog X.w) X.A (call (.builtin id) (v :: us)) (EP X pins σ Q) X.xe s
theorem ZJ.one: ∀ {x:V} {us:List Value},ZJ [x] us-> ∃ u,us=[u]/\ZC x u
 |_,_,.cons r .nil=>⟨_,rfl,r⟩
section
variable {X:Cx} {pins:List (Addr × Obj)} {σ:St} {H:Hp} {s:Shared} {l b:Addr} {xs ys zs:List V}
theorem Inv.lset {its its':List Value} {n:Nat} {f:Array Value->Array Value} {t':Nat} (I:Inv X pins σ H s) (hH:H l=some (.lst xs))
  (e:s.heap.get? l=some { cls:= .type "list",data:= .seq its.toArray n }) (hf:f its.toArray=its'.toArray) (hv:ZJ ys its') (hz:ys.length<=sizeLine):
  Inv X pins σ (upd H l (.lst ys)) { s with heap:=s.heap.update l (Obj.mapSeq f),toks:=t' }:=by
 have q:=PySem.IsL.update e f
 rw[hf] at q
 refine I.write (x:=l) (e:=l) (by rw[hH];exact trivial) (.inl rfl) (fun b' u hb hu=>(Heap.get?_update_other s.heap (Obj.mapSeq f) (Ne.symm hb)).trans hu) ⟨_,q⟩ ?_
 exact ⟨hz,its',_,hv,q⟩
theorem Inv.lnew {its:List Value} {t':Nat} (I:Inv X pins σ H s) (hv:ZJ ys its) (hz:ys.length<=sizeLine):
  Inv X pins σ (upd H s.heap.objs.size (.lst ys)) { s with heap:=s.heap.push { cls:= .type "list",data:= .seq its.toArray },toks:=t' }:=
 I.laid (fun _ _ q=>Heap.get?_push_of_some _ q) (Nat.le_refl _) ⟨hz,its,0,hv,Heap.get?_push_size _ rfl⟩
theorem Inv.fresh (I:Inv X pins σ H s):H s.heap.objs.size=none:=I.hok.fresh (Nat.le_refl _)
theorem Inv.lstM (I:Inv X pins σ H s) (hH:H l=some (.lst xs)):xs.length<=sizeLine/\ ∃ (its:List Value) (n:Nat),ZJ xs its/\xs.length=its.length/\s.heap.get? l=some { cls:= .type "list",data:= .seq its.toArray n }:=by
 obtain ⟨z,its,n,r,e⟩:=I.hok l _ hH
 exact ⟨z,its,n,r,r.length,e⟩
theorem Ze8 {n:Nat} (h:n<=sizeLine):Builtin.List.listTooLong n=false:=by
 unfold Builtin.List.listTooLong
 exact decide_eq_false (by omega)
end
section
variable {X:Cx}
noncomputable def rAppend:V->List V->Hp->VK->Prop:=fun x vs H Q=> ∃ l xs y,x= .ref l/\vs=[y]/\H l=some (.lst xs)/\xs.length < sizeLine/\Q .non (upd H l (.lst (xs ++ [y])))
theorem Zb6:MtM X "list.append" rAppend:=by
 intro pins s σ H x vs v us Q I rx rv h
 obtain ⟨l,xs,y,rfl,rfl,hH,hz,q⟩:=h
 cases rx
 obtain ⟨u,rfl,ru⟩:=rv.one
 obtain ⟨z,its,n,r,hl,e⟩:=I.lstM hH
 refine call_meets F.slot_list_append ⟨_,e,rfl⟩ F.entry_list_append (F.args_list_append_2 _ _) (PySem.list_append l its.toArray n u (by rw[List.size_toArray];omega)) ⟨e,?_⟩
 refine ⟨.non,_,I.lset (its':=its ++ [u]) hH e (by simp) (r.append (.cons ru .nil)) ?_,rfl,q⟩
 rw[List.length_append,List.length_singleton]
 omega
noncomputable def rExtend:V->List V->Hp->VK->Prop:=fun x vs H Q=> ∃ l b xs zs,x= .ref l/\vs=[.ref b]/\H l=some (.lst xs)/\H b=some (.lst zs)/\xs.length + zs.length<=sizeLine/\Q .non (upd H l (.lst (xs ++ zs)))
theorem Zij:MtM X "list.extend" rExtend:=by
 intro pins s σ H x vs v us Q I rx rv h
 obtain ⟨l,b,xs,zs,rfl,rfl,hH,hB,hz,q⟩:=h
 cases rx
 obtain ⟨u,rfl,ru⟩:=rv.one
 cases ru
 obtain ⟨z,its,n,r,hl,e⟩:=I.lstM hH
 obtain ⟨z2,its2,n2,r2,hl2,e2⟩:=I.lstM hB
 have hsz:its.toArray.size + its2.toArray.size<=sizeLine:=by rw[List.size_toArray,List.size_toArray];omega
 have hlong: ¬ (!its.toArray.isEmpty && Builtin.List.listTooLong (its.toArray.size + its2.toArray.size))=true:=by
  rw[Ze8 hsz,Bool.and_false]
  exact Bool.false_ne_true
 refine call_meets F.slot_list_extend ⟨_,e,rfl⟩ F.entry_list_extend (F.args_list_extend_2 _ _)
  (AutoSeq1.list_extend_list_list_0 l its.toArray n b its2.toArray n2 hlong (by rw[List.size_toArray];omega) (by omega)) ⟨e,e2,?_⟩
 refine ⟨.non,_,I.lset (its':=its ++ its2) hH e (by simp) (r.append r2) ?_,rfl,q⟩
 rw[List.length_append]
 omega
noncomputable def rCat:R2:=fun x y H Q=> ∃ l b xs zs,x= .ref l/\y= .ref b/\H l=some (.lst xs)/\H b=some (.lst zs)/\xs.length + zs.length<=sizeLine/\ ∀ p,H p=none->Q (.ref p) (upd H p (.lst (xs ++ zs)))
theorem Zik:OpR X (binaryOp .Add) rCat:=by
 intro pins s σ H x y v u Q I rx ry h
 obtain ⟨l,b,xs,zs,rfl,rfl,hH,hB,hz,q⟩:=h
 cases rx
 cases ry
 obtain ⟨z,its,n,r,hl,e⟩:=I.lstM hH
 obtain ⟨z2,its2,n2,r2,hl2,e2⟩:=I.lstM hB
 refine PySem.P.add_list e e2 ?_ (by rw[List.size_toArray,List.size_toArray];omega)
 have ea:its.toArray ++ its2.toArray=(its ++ its2).toArray:=by simp
 rw[ea]
 exact ⟨.ref _,_,I.lnew (t':=s.toks) (r.append r2) (by rw[List.length_append];omega),rfl,q _ I.fresh⟩
end
section
variable {prog:Program} {w:World} {A:Around} {E:Value->Shared->Prop} {s:Shared}
end
section
variable {X:Cx}
end
end L2
namespace Att
open PySem PySem.W PySem.Calls PyProof.Rows
theorem Zbb {P:Params} {h:Heap}: ∀ (ns:List Int) (vs:List Value),WellAll P h vs (ns.map WData.int)->IntsAre vs ns:=by
 intro ns
 induction ns with
 |nil=>
  intro vs w
  rw[List.map_nil] at w
  cases w
  exact .nil
 |cons n ns ih=>
  intro vs w
  rw[List.map_cons] at w
  cases w with
  |cons a b=>
   cases a
   exact .cons _ _ (ih _ b)
theorem Zd3 {l:OpenLaw} {n:Nat} (hn:l.most=some n) {P:Params} {h:Heap} {args:List WData} {vals:List Value}
  (hpre:l.row.toRowW.claim.pre args=true) (hwl:WellAll P h vals args):
  ∃ a vs ns,vals=[Value.ref a]/\args=[WData.list (ns.map WData.int)]/\h.get? a=some { cls:= .type "list",data:= .seq vs.toArray }/\IntsAre vs ns/\ns.length<=n:=by
 have hsh:WShape.hasAll [] args [.list .int]=true:=(pre_splitW hpre).1
 have hc:l.pre.holds [] { args:=args }=true:=(pre_splitW hpre).2
 obtain ⟨d,r,rfl,h1,h2⟩:=hasAllW_cons hsh
 obtain rfl:=hasAllW_nil h2
 obtain ⟨xs,rfl,h3⟩:=hasW_list h1
 obtain ⟨ns,rfl⟩:=items_int h3
 have hlen:ns.length<=n:=by
  unfold OpenLaw.pre at hc
  have h4:(WTm.not (.lt (.lit (.int (n:Int))) (.len (.arg 0)))).holds [] { args:=[.list (ns.map .int)] }=true:=by
   have h4:=(holds_andW hc).1
   rw[hn] at h4
   exact h4
  have h5:=condW_of h4 (w_not (w_lt w_lit (w_len_list (w_arg rfl))))
  rw[List.length_map] at h5
  refine Nat.le_of_not_lt fun q=> ?_
  have q':(n:Int) < ((ns.length:Nat):Int):=by omega
  first
   | (rw[decide_eq_true q'] at h5;exact absurd h5 (by decide))
   | (simp at h5;omega)
 cases hwl with
 |cons w1 w2=>
  cases w2
  cases w1 with
  |list ho hall=>exact ⟨_,_,ns,rfl,rfl,ho,Zbb ns _ hall,hlen⟩
theorem Zd4 (l:OpenLaw) (args:List WData):l.row.toRowW.claim.post args (.bool true) args=true:=
 postW_of (r:=l.row.toRowW) (X:=(true == true))
  (show WShape.has [] (.bool true) .bool=true by first | rfl | decide | simp[WShape.has,WShape.arms,WShape.armsAll])
  (show (WTm.eq .res (.lit (.bool true))).value [] { args:=args,res:=some (.bool true),after:=args }=some (.bool (true == true)) from w_eq_bool (w_res rfl) w_lit) rfl
theorem ZcD {l:OpenLaw} {n:Nat} {q:Program} {loose:List Str} {XP:(Str->Option Value)->Heap->Prop} {YP:World->Heap->Prop} {d:DefRec}
  (hn:l.most=some n) (hdf:d.params.defaults=[])
  (call: ∀ (w:World) (s₀ s₁:Shared) (mg mb:Str->Option Value) (fa:Addr) (o:Obj) (pm cd doc:Value) (a:Addr) (vs:List Value) (ns:List Int),
   Ground q loose [] XP w s₀ mg mb s₁.heap->YP w s₁.heap->
   s₁.heap.get? fa=some o->o.data= .func (docDef d.name d.params d.body d.scope pm cd doc)->s₁.heap.CodeRec cd d.name->mg d.name=some (.ref fa)->
   s₁.heap.get? a=some { cls:= .type "list",data:= .seq vs.toArray }->IntsAre vs ns->ns.length<=n->s₁.gens= #[]->
   codeAny (model l.prog w) callerA (.call (.ref fa) ⟨[.ref a],[]⟩) (fun r s'=>r= .ok (.ret (.bool true))/\OldK s₁.heap s'.heap/\s'.os=s₁.os/\AllBare s'.gens) s₁):
  WalkO q loose XP YP l.row.toRowW d [] (fun f vs=>PySem.call f vs):=by
 intro w s₀ s₁ mg mb G Y fa o pm cd doc dV kV ho hd hcd hD hmg hg args vals as hpre hlay hrd hwl hlo
 obtain rfl:dV= .none:=Dflts.none hD hdf
 obtain rfl:kV= .none:=Dflts.noKw hD
 obtain ⟨a,vs,ns,rfl,rfl,hobj,hints,hlen⟩:=Zd3 hn hpre hwl
 refine enter_call (codeAny_mono (call w s₀ s₁ mg mb fa o pm cd doc a vs ns G Y ho (fd_plain hd) hcd hmg hobj hints hlen hg) fun r s' hq=> ?_)
 obtain ⟨rfl,h2,h3,h4⟩:=hq
 exact ⟨.inl ⟨.bool true,.bool true,[],rfl,fun _=>rfl,.bool true,Zd4 l _,fun _=>⟨List.Pairwise.nil,fun _ hm=>(nomatch hm)⟩⟩,h2,h3,h4⟩
section
variable {prog:Program} {w:World} {A:Around} {E:Value->Shared->Prop} {s:Shared} {K:Frag}
end
end Att
namespace L2
open PySem PySem.Spec PyProof.Rows
theorem Zb7: ∀ {vs:List Value} {ns:List Int},IntsAre vs ns->ZJ (ns.map V.int) vs
 |_,_,.nil=> .nil
 |_,_,.cons n t h=> .cons ⟨t,rfl⟩ (Zb7 h)
noncomputable def Zky (H:Hp):Prop:= ∀ b,H b=none\/ ∃ o xs,H b=some (.frz o (.lst xs))
theorem Ze9 {P:Program} {w:World} {K:PySem.W.Frag} {mg mb:Str->Option Value} {CX:CXT} {k:Nat} {fa a:Addr} {fd:FuncData} {x:Str} {sp:Sp} {s₁:Shared} {vs:List Value} {ns:List Int}
  (KX:K.In s₁.heap) (hns:s₁.heap.Ns mainGlobals mg) (hb:s₁.heap.Ns builtinsNs mb) (hbb: ∀ x:Str,x≠"__name__"->mb x=bootBuiltins x) (hlim:s₁.heap.NoLimit) (hg:s₁.gens= #[])
  (ha:s₁.heap.get? a=some { cls:= .type "list",data:= .seq vs.toArray }) (hi:IntsAre vs ns) (hl:ns.length<=sizeLine) (hr:Room k callerA)
  (F: ∀ base:Heap,K.In base->base.Ns mainGlobals mg->FnOk P w K mg base CX k fa fd [x] sp) (hbind: ∀ (s:Shared) (u:Value),BindsTo s fd ⟨[u],[]⟩ [(x,u)])
  (hsp: ∀ H:Hp,Zky H->SqL K H a (ns.map V.int)->sp [.ref a] H (fun v _=>v= .bl true) fun _ _ _=>False)
  (hCX: ∀ H e s',CX [] H s₁ (fun _ _ _=>False) e s'->False):
  codeAny (model P w) callerA (.call (.ref fa) ⟨[.ref a],[]⟩) (fun r s'=>r= .ok (.ret (.bool true))/\OldK s₁.heap s'.heap/\s'.os=s₁.os/\AllBare s'.gens) s₁:=by
 have rv:=Zb7 hi
 have lenV:=hi.length
 have core: ∀ H:Hp,Zky H->SqL K H a (ns.map V.int)->HOk P w H s₁.heap->(∀ b,H b≠none->b=a)->(H a≠none->K.lookup a=none)->
   codeAny (model P w) callerA (.call (.ref fa) ⟨[.ref a],[]⟩) (fun r s'=>r= .ok (.ret (.bool true))/\OldK s₁.heap s'.heap/\s'.os=s₁.os/\AllBare s'.gens) s₁:=by
  intro H hO hS hok hA hK
  have base_of: ∀ {b:Addr} {o:Obj},s₁.heap.get? b=some o->H b=none->(ZeU s₁.heap H).get? b=some o:=fun e n=>ZcW e n
  have noA: ∀ {b:Addr} {o:Obj} {es:Array DictEntry} {ep:Nat},s₁.heap.get? b=some o->o.data= .dict es ep->H b=none:=fun {b o es ep} e d=>by
   cases q:H b with
   |none=>rfl
   |some u=>
    have e':b=a:=hA b (by rw[q];simp)
    subst e'
    rw[ha] at e;cases e
    have d':Data.seq vs.toArray _=Data.dict es ep:=d
    cases d'
  have nsK: ∀ {b:Addr} {m:Str->Option Value},s₁.heap.Ns b m->(ZeU s₁.heap H).Ns b m:=fun {b m} ⟨o,es,ep,e,d,r⟩=>⟨o,es,ep,base_of e (noA e d),d,r⟩
  have hKb:K.In (ZeU s₁.heap H):=fun b o e=>base_of (KX b o e) (by
   cases q:H b with
   |none=>rfl
   |some u=>
    have e':b=a:=hA b (by rw[q];simp)
    subst e'
    rw[hK (by rw[q];simp)] at e;cases e)
  have hM:Mod K mg (ZeU s₁.heap H):=⟨hKb,nsK hns,⟨mb,nsK hb,hbb⟩,let ⟨mc,h1,h2⟩:=hlim;⟨mc,nsK h1,h2⟩⟩
  have e0:Env0 P w K mg (ZeU s₁.heap H) callerA [] s₁ H:=⟨rfl,hM,fun b o e=>ZdK e,Nat.le_of_eq (ZdJ _ _),trivial,fun b hb=>absurd (show b∈([]:List Addr) from hb) (by simp),hok,.of_eq hg,.inl rfl⟩
  refine codeAny_mono ((F _ hKb (nsK hns)).run callerA [] s₁ H ⟨[.ref a],[]⟩ [.ref a] [.ref a] _ _ hr e0 (hbind s₁ (.ref a)) (.cons rfl .nil) (hsp H hO hS)) fun r s' h=> ?_
  cases r with
  |error e=>exact (hCX H e s' h).elim
  |ok fl=>
   cases fl with
   |next=>exact False.elim h
   |brk=>exact False.elim h
   |cont=>exact False.elim h
   |ret u=>
    obtain ⟨v,H',os,bare,un,hok',r',q⟩:=h
    have q':v= .bl true:=q
    subst q'
    obtain rfl:u=Value.bool true:=r'
    refine ⟨rfl,OldK.of_keep fun b o e=> ?_,os,bare⟩
    cases q:H b with
    |none=>exact un.keep b o e q (by intro z;exact absurd (show b∈([]:List Addr) from z) (by simp)) (by simp)
    |some u=>
     rcases hO b with z | ⟨ob,xs,z⟩
     ·rw[q] at z;cases z
     ·have z2:=un.frzs b ob _ z
      obtain ⟨e1,_⟩:=hok b _ z
      obtain ⟨e2,_⟩:=hok' b _ z2
      rw[e] at e1;cases e1
      exact e2
 cases hk:K.lookup a with
 |some o=>
  have e:=KX a o hk
  rw[ha] at e
  cases e
  refine core (fun _=>none) (fun _=> .inl rfl) (.inr ⟨_,vs.toArray,_,hk,rfl,rfl,rfl,by rw[List.size_toArray,lenV];exact hl,by simpa using rv⟩) (fun b u z=>by have z':(none:Option HO)=some u:=z;cases z') (fun b z=>absurd rfl z) fun z=>absurd rfl z
 |none=>
  refine core (fun b=>if b=a then some (.frz { cls:= .type "list",data:= .seq vs.toArray } (.lst (ns.map V.int))) else none) (fun b=> ?_) (.inl (.inr ⟨{ cls:= .type "list",data:= .seq vs.toArray },if_pos rfl⟩)) (fun b u z=> ?_) (fun b z=> ?_) fun _=>hk
  ·by_cases hb:b=a
   ·exact .inr ⟨_,_,if_pos hb⟩
   ·exact .inl (if_neg hb)
  ·by_cases hb:b=a
   ·have z':=(if_pos hb).symm.trans z
    cases z'
    subst hb
    exact ⟨ha,by rw[List.length_map];exact hl,vs,_,rv,ha⟩
   ·have z':=(if_neg hb).symm.trans z
    cases z'
  ·by_cases hb:b=a
   ·exact hb
   ·exact absurd (if_neg hb) z
end L2
namespace L2
open PySem PySem.Spec PyProof.Rows
theorem ZgD {l:PySem.W.OpenLaw} {n k:Nat} {q:Program} {loose:List Str} {XP:(Str->Option Value)->Heap->Prop} {YP:World->Heap->Prop} {d:DefRec} {K:Params->PySem.W.Frag} {CX:World->CXT} {sp:World->Sp} {x:Str}
  (hn:l.most=some n) (hn2:n<=sizeLine) (hdf:d.params.defaults=[]) (hr:Room k callerA)
  (hY: ∀ (w:World) (h:Heap),YP w h->(K w.params).In h)
  (F: ∀ (w:World) (mg:Str->Option Value) (fa:Addr) (h:Heap),(K w.params).In h->h.Ns mainGlobals mg->mg d.name=some (.ref fa)->
   ∃ fd:FuncData,(∀ (s:Shared) (u:Value),BindsTo s fd ⟨[u],[]⟩ [(x,u)])/\
    ∀ base:Heap,(K w.params).In base->base.Ns mainGlobals mg->FnOk l.prog w (K w.params) mg base (CX w) k fa fd [x] (sp w))
  (hsp: ∀ (w:World) (H:Hp) (a:Addr) (ns:List Int),ns.length<=n->Zky H->SqL (K w.params) H a (ns.map V.int)->sp w [.ref a] H (fun v _=>v= .bl true) fun _ _ _=>False)
  (hCX: ∀ (w:World) (H:Hp) (s:Shared) (e:Value) (s':Shared),CX w [] H s (fun _ _ _=>False) e s'->False):
  PySem.W.WalkO q loose XP YP l.row.toRowW d [] (fun f vs=>PySem.call f vs):=by
 refine Att.ZcD hn hdf fun w s₀ s₁ mg mb fa o pm cd doc a vs ns G Y ho hd hcd hmg hobj hints hlen hg=> ?_
 have KX:=hY w _ Y
 obtain ⟨fd,hb,hF⟩:=F w mg fa _ KX G.T.g hmg
 exact Ze9 KX G.T.g G.T.b G.T.builtins G.T.nolimit hg hobj hints (Nat.le_trans hlen hn2) hr hF hb (fun H hO hS=>hsp w H a ns hlen hO hS) fun H e s'=>hCX w H s₁ e s'
end L2
namespace L2
open PySem PySem.Spec PyProof.Rows
noncomputable def Zp (s:Stmt):Arguments:=match s with
 | .FunctionDef _ a _ _ _ _ _ _ _ _=>a
 |_=>{ posonlyargs:=[],args:=[],vararg:=none,kwonlyargs:=[],kw_defaults:=[],kwarg:=none,defaults:=[] }
noncomputable def Zn (s:Stmt):List Stmt:=match s with
 | .FunctionDef _ _ b _ _ _ _ _ _ _=>b
 |_=>[]
noncomputable def Zh (s:Stmt):Scope:=match s with
 | .FunctionDef _ _ _ _ _ _ sc _ _ _=>sc
 |_=>{ kind:= .function,names:=[],isGenerator:=false,isCoroutine:=false }
noncomputable abbrev E0:XK:=fun _ _ _=>False
structure Fun (K:PySem.W.Frag) (x qual:Str) (st:Stmt) (f:Addr) (fd:FuncData):Prop where
 ex: ∃ (oc:Value) (od:Option Addr) (kV doc pm:Value) (an:Option Addr) (cdv ct:Value) (osl:Array (Option Value)),
  fd=PySem.W.fnOf x qual (Zp st) (Zn st) (Zh st) .none kV doc pm an cdv ct/\K.lookup f=some ⟨oc,od,.func fd,osl⟩/\PySem.W.codeIn K cdv qual=true
 kp:PySem.W.keepIn K (.ref f)=true
section
variable {P:Program} {w:World} {K:PySem.W.Frag} {mg:Str->Option Value} {base:Heap}
theorem Fun.binds {x qual:Str} {st:Stmt} {f:Addr} {fd:FuncData} {ps:List Str} (F:Fun K x qual st f fd)
  (h: ∀ (kV doc pm:Value) (an:Option Addr) (cdv ct:Value) (us:List Value),us.length=ps.length->bindArgs (PySem.W.fnOf x qual (Zp st) (Zn st) (Zh st) .none kV doc pm an cdv ct) ⟨us,[]⟩=pure (ps.zip us)):ZcC K fd ps []:=by
 obtain ⟨oc,od,kV,doc,pm,an,cdv,ct,osl,rfl,lk,hcd⟩:=F.ex
 exact .all (h kV doc pm an cdv ct)
theorem ZU {x qual:Str} {st:Stmt} {f:Addr} {oc:Value} {od an:Option Addr} {osl:Array (Option Value)} {kV doc pm cdv ct:Value} (l:K.lookup f=some ⟨oc,od,.func (PySem.W.fnOf x qual (Zp st) (Zn st) (Zh st) .none kV doc pm an cdv ct),osl⟩)
  (c:PySem.W.codeIn K cdv qual=true) (k:PySem.W.keepIn K (.ref f)=true):Fun K x qual st f (PySem.W.fnOf x qual (Zp st) (Zn st) (Zh st) .none kV doc pm an cdv ct):=⟨⟨oc,od,kV,doc,pm,an,cdv,ct,osl,rfl,l,c⟩,k⟩
end
theorem Zd5 {n:Nat} (h:n<=1000):n < sizeLine:=Nat.lt_of_le_of_lt h (by decide)
section
variable {X:Cx}
theorem pv (i:Nat) {x:Str} {pos:Pos} (hN:X.N[i]?=some x:=by rfl) (hv:Vis X.env.scope x:=by first | exact Or.inl rfl | exact Or.inr (Or.inl rfl) | exact Or.inr (Or.inr rfl)) (hd:(x == ("__debug__":Str))=false:=by decide)
  (hcd:(x == ("__classdict__":Str))=false:=by decide):PE X (.Name x pos) (Zmw i):=ZdM hN hv hd hcd
end
theorem Zil {A B:Prop} (h:B):if false=true then A else B:=by
 rw[if_neg Bool.false_ne_true]
 exact h
theorem Zim {A B:Prop} (h:A):if true=true then A else B:=by
 rw[if_pos rfl]
 exact h
noncomputable def ZmE (H H':Hp):Prop:= ∀ b o,H b=some o->H' b=some o
theorem ZmE.free {H H':Hp} (e:ZmE H H') {l:Addr} (h:H' l=Option.none):H l=Option.none:=by
 cases q:H l with
 |none=>rfl
 |some o=>
  rw[e l o q] at h
  cases h
end L2
end
section
namespace L2
open PySem PySem.Spec PyProof.Rows
end L2
namespace L2
open PySem PySem.Spec PyProof.Rows
section
variable (P:Program) (w:World)
end
section
variable {P:Program} {w:World} {H H':Hp} {h h':Heap} {a:Addr} {o:HO}
end
section
variable {P:Program} {w:World} {H:Hp} {h h':Heap} {x e:Addr} {o':HO}
end
section
variable {fs fs' ex ex':List Addr} {H H1 H2:Hp} {h h1 h2 h':Heap} {a x e:Addr} {o:HO}
end
end L2
namespace L2
open PySem PySem.Spec PyProof.Rows
section
variable {X:Cx} {pins:List (Addr × Obj)} {σ:List (Option V)} {H H':Hp} {s:Shared} {h':Heap}
end
end L2
namespace L2
open PySem PySem.Spec PyProof.Rows
section
variable {X:Cx}
variable {a b:Expr} {ta tb:TE} {pos:Pos}
variable {tA tB':TT} {rest:List Expr}
end
end L2
namespace L2
open PySem PySem.Spec PyProof.Rows
section
variable {X:Cx} {pins:List (Addr × Obj)} {σ:St} {H:Hp} {s:Shared} {a:Addr} {xs ys:List V}
end
section
variable {X:Cx} {pins:List (Addr × Obj)} {σ:St} {H:Hp} {s:Shared} {E:Value->Shared->Prop}
end
section
variable {X:Cx} {st:Stmt} {rest:List Stmt} {t u:TS} {e:Expr} {te:TE} {pos:Pos}
end
section
variable {X:Cx} {pos:Pos}
end
section
variable {X:Cx} {pos:Pos}
end
end L2
namespace L2
open PySem PySem.Spec PyProof.Rows
section
variable {X:Cx} {tg:Expr}
end
end L2
namespace L2
open PySem PySem.Spec PyProof.Rows
section
variable {X:Cx} {a b c:Expr} {ta tb tc:TE} {pos:Pos}
end
section
variable {X:Cx} {a b c:Expr} {ta tb tc:TE} {pos:Pos}
end
end L2
namespace L2
open PySem PySem.Spec PyProof.Rows
section
variable {prog:Program} {w:World} {A:Around} {E:Value->Shared->Prop} {s:Shared} {K:PySem.W.Frag} {x dx C f:Addr} {mA:Str->Option Value} {name:Str} {v:Value}
end
section
variable {P:Program} {w:World} {H H':Hp} {h h':Heap} {a C dx:Addr} {fs fs':List (Str × V)}
end
section
variable {X:Cx} {pins:List (Addr × Obj)} {σ:St} {H:Hp} {s:Shared} {a C dx:Addr} {fs:List (Str × V)} {f:Str} {v:V} {A:Around} {E:Value->Shared->Prop}
end
section
variable {X:Cx} {o e value:Expr} {f:Str} {pos pos' tpos:Pos} {ta tv:TE}
end
section
variable {X:Cx} {pins:List (Addr × Obj)} {σ:St} {H:Hp} {s:Shared} {A:Around} {E:Value->Shared->Prop} {Q:Value->Shared->Prop} {c:Value} {b:Bool}
end
end L2
namespace L2
open PySem PySem.Spec PyProof.Rows
section
variable {X:Cx} {e:Expr} {es:List Expr} {te:TE} {t:TA} {pos:Pos}
end
section
variable {X:Cx} {pins:List (Addr × Obj)} {σ:St} {H:Hp} {s s':Shared}
end
section
variable {X:Cx} {CX:CXT} {k:Nat} {f C:Addr} {fd:FuncData} {ps:List Str} {sp:Sp} {dvs:List V} {ds:List Value} {E:XK} {x m:Str} {p pos apos:Pos} {e o:Expr} {es:List Expr} {ta:TE} {t:TA}
end
section
variable {X:Cx} {CX:CXT} {k:Nat} {f C:Addr} {fd:FuncData} {ps ks:List Str} {sp:Sp} {E:XK} {x m:Str} {p pos apos kpos:Pos} {e o:Expr} {es:List Expr} {kws:List Keyword} {te ta:TE} {t tk:TA} {nm:Option Str}
variable {g:List Value->List Value->List Value} {gV:List V->List V->List V}
end
end L2
namespace L2
open PySem PySem.Spec PyProof.Rows
section
variable {X:Cx} {x:Str} {p pos:Pos} {e:Expr} {es:List Expr} {t:TA} {id T:String} {r:List V->Hp->VK->Prop}
end
end L2
namespace L2
open PySem PySem.Spec PyProof.Rows
section
variable {κ:Type} [DecidableEq κ]
noncomputable def ZcE (kvs:List (κ × V)) (k:κ):Option V:=(kvs.find? fun kv=>decide (kv.1=k)).map (·.2)
noncomputable def Zd6 (kvs:List (κ × V)) (k:κ) (v:V):List (κ × V):=
 if (kvs.any fun kv=>decide (kv.1=k))=true then kvs.map (fun kv=>if kv.1=k then (kv.1,v) else kv) else kvs ++ [(k,v)]
theorem ZbM {p:κ × V} {r:List (κ × V)} {k:κ} (e:p.1=k):ZcE (p :: r) k=some p.2:=by simp[ZcE,List.find?_cons,e]
theorem ZbN {p:κ × V} {r:List (κ × V)} {k:κ} (e: ¬ p.1=k):ZcE (p :: r) k=ZcE r k:=by simp[ZcE,List.find?_cons,e]
theorem ZcF (kvs:List (κ × V)) (k:κ) (v:V):(Zd6 kvs k v).length<=kvs.length + 1:=by
 unfold Zd6
 split
 ·rw[List.length_map];omega
 ·rw[List.length_append,List.length_cons,List.length_nil];omega
theorem KV.val {kvs:List (κ × V)} {vs:List (κ × Value)} (r:KV kvs vs) (k:κ):ZfR (ZcE kvs k) (valueAt vs k):=by
 unfold KV at r
 induction r with
 |nil=>exact True.intro
 | @cons p q ps qs h t ih=>
  obtain ⟨h1,h2⟩:=h
  by_cases e:p.1=k
  ·have e':q.1=k:=h1.symm.trans e
   have b:valueAt (q :: qs) k=some q.2:=by simp[valueAt,List.find?_cons,e']
   rw[ZbM e,b];exact h2
  ·have e': ¬ q.1=k:=fun z=>e (h1.trans z)
   have b:valueAt (q :: qs) k=valueAt qs k:=by simp[valueAt,List.find?_cons,e']
   rw[ZbN e,b];exact ih
theorem KV.any {kvs:List (κ × V)} {vs:List (κ × Value)} (r:KV kvs vs) (k:κ):(kvs.any fun kv=>decide (kv.1=k))=vs.any fun kv=>decide (kv.1=k):=by
 unfold KV at r
 induction r with
 |nil=>rfl
 |cons h t ih=>rw[List.any_cons,List.any_cons,ih,h.1]
theorem KV.repl {kvs:List (κ × V)} {vs:List (κ × Value)} (r:KV kvs vs) (k:κ) {y:V} {u:Value} (ry:ZC y u):
  KV (kvs.map fun kv=>if kv.1=k then (kv.1,y) else kv) (vs.map fun kv=>if kv.1=k then (kv.1,u) else kv):=by
 unfold KV at r ⊢
 induction r with
 |nil=>exact .nil
 | @cons p q ps qs h t ih=>
  rw[List.map_cons,List.map_cons]
  refine .cons ?_ ih
  obtain ⟨h1,h2⟩:=h
  by_cases e:p.1=k
  ·rw[if_pos e,if_pos (h1.symm.trans e)];exact ⟨h1,ry⟩
  ·rw[if_neg e,if_neg (fun z=>e (h1.trans z))];exact ⟨h1,h2⟩
theorem KV.put {kvs:List (κ × V)} {vs:List (κ × Value)} (r:KV kvs vs) (k:κ) {y:V} {u:Value} (ry:ZC y u):KV (Zd6 kvs k y) (stored vs k u):=by
 unfold Zd6 stored
 rw[r.any k]
 by_cases e:(vs.any fun kv=>decide (kv.1=k))=true
 ·rw[if_pos e,if_pos e];exact r.repl k ry
 ·rw[if_neg e,if_neg e];exact Paired.snoc r ⟨rfl,ry⟩
theorem KV.keys {kvs:List (κ × V)} {vs:List (κ × Value)} (r:KV kvs vs):kvs.map (·.1)=vs.map (·.1):=by
 unfold KV at r
 induction r with
 |nil=>rfl
 |cons h t ih=>rw[List.map_cons,List.map_cons,ih,h.1]
end
theorem ZgE {P:Program} {w:World} {k:Key} {u:Value} (r:ZC (kV k) u):(ZI P w).is k u=true:=by
 cases k with
 |inl i=>obtain ⟨t,e⟩:=(show ∃ t,u=Value.int i t from r);subst e;exact Zcx P w i t
 |inr x=>obtain ⟨t,e⟩:=(show ∃ t,u=Value.str x t from r);subst e;exact Zcy P w x t
theorem Zb8 {P:Program} {w:World}: ∀ {ks:List Key} {us:List Value},ZJ (ks.map kV) us->ItemsAre (ZI P w) ks us
 | [],_,r=>by rw[List.map_nil] at r;cases r;exact .nil
 |k :: ks,_,r=>by
  rw[List.map_cons] at r
  cases r with
  |cons h t=>exact .cons (ZgE h) (Zb8 t)
noncomputable abbrev KT (H:Hp):List (List Key × V)->List (List Key × Addr × Value)->Prop:=Paired fun p q=>p.1=q.1/\H q.2.1=some (.tup (p.1.map kV))/\ZC p.2 q.2.2
theorem KT.val {H:Hp} {kvs:List (List Key × V)} {xs:List (List Key × Addr × Value)} (r:KT H kvs xs) (k:List Key):ZfR (ZcE kvs k) ((atKey xs k).map (·.2)):=by
 induction r with
 |nil=>exact True.intro
 | @cons p q ps qs h t ih=>
  obtain ⟨h1,_,h2⟩:=h
  by_cases e:p.1=k
  ·have e':q.1=k:=h1.symm.trans e
   have b:atKey (q :: qs) k=some q.2:=by simp[atKey,List.find?_cons,e']
   rw[ZbM e,b];exact h2
  ·have e': ¬ q.1=k:=fun z=>e (h1.trans z)
   have b:atKey (q :: qs) k=atKey qs k:=by simp[atKey,List.find?_cons,e']
   rw[ZbN e,b];exact ih
section
variable {P:Program} {w:World} {H:Hp} {h:Heap} {a:Addr}
theorem Zin {u:HO} (ok:HOk P w H h) (e:Rd H a u):Z2 P w H h a u:=e.ok ok
theorem ZgF {kvs:List (Key × V)} (ok:HOk P w H h) (e:Rd H a (.dK kvs)):kvs.length<=sizeLine/\(a == sysModules)=false/\ ∃ vs,KV kvs vs/\h.DictOf (ZI P w) a vs:=
 show Z2 P w H h a (.dK kvs) from Zin ok e
theorem ZkY {kvs:List (Key × V)} (ok:HOk P w H h) (e:H a=some (.dK kvs)):kvs.length<=sizeLine/\(a == sysModules)=false/\ ∃ vs,KV kvs vs/\h.DictOf (ZI P w) a vs:=ZgF ok (.inl e)
theorem ZfY {ks:List Key} (ok:HOk P w H h) (e:H a=some (.tup (ks.map kV))):(tupleKind (ZI P w)).is h ks a:=by
 obtain ⟨_,its,r,o,h1,h2,n,h3⟩:=(show Z2 P w H h a (.tup (ks.map kV)) from ok a _ e)
 exact ⟨o,its.toArray,n,h1,h2,h3,by simpa using Zb8 r⟩
theorem Zio {kvs:List (List Key × V)} (ok:HOk P w H h) (e:Rd H a (.dT kvs)):kvs.length<=sizeLine/\(a == sysModules)=false/\
  ∃ xs,KT H kvs xs/\h.DictOfH (tupleKind (ZI P w)) a xs:=by
 obtain ⟨z,y,xs,r,o,es,ep,h1,h2,h3,h4,h5⟩:=(show Z2 P w H h a (.dT kvs) from Zin ok e)
 refine ⟨z,y,xs,r,o,es,ep,h1,h2,h3,h4,fun x hx=> ?_,h5⟩
 have all: ∀ {l:List (List Key × V)} {m:List (List Key × Addr × Value)},KT H l m-> ∀ x∈m,(tupleKind (ZI P w)).is h x.1 x.2.1:=by
  intro l m q
  induction q with
  |nil=>intro x hx;exact nomatch hx
  | @cons p q ps qs hq t ih=>
   intro x hx
   rcases List.mem_cons.mp hx with e | hx
   ·subst e
    exact ZfY ok (by rw[<- hq.1];exact hq.2.1)
   ·exact ih x hx
 exact all r x hx
end
noncomputable def Zkz (H:Hp) (a:Addr) (y:V) (r:Option V):Prop:=
 (∃ kvs k,Rd H a (.dK kvs)/\y=kV k/\r=ZcE kvs k)\/ ∃ kvs k b,Rd H a (.dT kvs)/\y= .ref b/\H b=some (.tup (k.map kV))/\r=ZcE kvs k
section
variable {X:Cx} {pins:List (Addr × Obj)} {σ:St} {H:Hp} {s:Shared} {a:Addr} {y v:V} {u r:Value} {o:Option V} {A:Around} {E:Value->Shared->Prop}
theorem Inv.big (I:Inv X pins σ H s):sysModules < s.heap.objs.size:=by
 have h:mainGlobals < s.heap.objs.size:=(I.mod.glob.keeps I.bk).lt
 exact Nat.lt_trans (by decide) h
theorem Zd7 {Q:Value->Shared->Prop} (hu:A.units + 1 < cLine) (I:Inv X pins σ H s) (g:Zkz H a y (some v)) (ry:ZC y u) (h: ∀ w' s',Inv X pins σ H s'->ZC v w'->Q w' s'):
  wpAny (model X.prog X.w) A (getItem (.ref a) u) Q E s:=by
 rcases g with ⟨kvs,k,e,ey,l⟩ | ⟨kvs,k,b,e,ey,eb,l⟩
 ·subst ey
  obtain ⟨z,hd,vs,rel,dd⟩:=ZgF I.hok e
  obtain ⟨w',hw,rw'⟩:=ZfR.some_of (v:=v) (o:=valueAt vs k) (by rw[l];exact rel.val k)
  exact wpAny_getItem_of (ZgE ry) dd.mapOf hw (h w' _ (I.tok _) rw')
 ·subst ey
  cases (show u=Value.ref b from ry)
  obtain ⟨z,hd,xs,rel,dd⟩:=Zio I.hok e
  obtain ⟨w',hw,rw'⟩:=ZfR.some_of (v:=v) (o:=(atKey xs k).map (·.2)) (by rw[l];exact rel.val k)
  obtain ⟨p,hp,hp2⟩:=Option.map_eq_some_iff.mp hw
  refine wpAny_getItem_heap (tupleKind_room_in1 hu) (ZfY I.hok eb) dd hp ?_
  rw[hp2]
  exact h w' _ (I.tok _) rw'
theorem ZgG {h':Heap} {t':Nat} {ob:HO} (I:Inv X pins σ H s) (mu:Mut (H a)) (hs:Heap.SameBut a s.heap h') (he: ∃ q,h'.get? a=some q) (new:Z2 X.prog X.w (upd H a ob) h' a ob):
  Inv X pins σ (upd H a ob) { s with heap:=h',toks:=t' }:=
 I.write (x:=a) (e:=a) mu (.inl rfl) (fun b q hb z=>(hs.2 b hb).trans z) he new
theorem Zip {P:Program} {w:World} {H':Hp} {h':Heap} {kvs:List (Key × V)} {vs:List (Key × Value)} (z:kvs.length<=sizeLine) (hd:(a == sysModules)=false) (rel:KV kvs vs) (dd:h'.DictOf (ZI P w) a vs):
  Z2 P w H' h' a (.dK kvs):=⟨z,hd,vs,rel,dd⟩
end
section
variable {X:Cx} {pins:List (Addr × Obj)} {σ:St} {H:Hp} {s:Shared} {a:Addr} {kvs:List (Key × V)} {k:Key} {u:Value} {A:Around} {E:Value->Shared->Prop}
end
noncomputable def ZkZ (i:Expr):Prop:= ∀ ov iv,subscripted i false ov iv=operate [ov,iv] (getItem ov iv)
theorem ZgH {prog:Program} {w:World} {A:Around} {E:Value->Shared->Prop} {s:Shared} {env:Env} {value slice:Expr} {pos:Pos} {T id:String} {Q:Value->Shared->Prop}
  (hl:typeLookup (.type T) "__getitem__"=pure (some (.builtin id))) (hs:ZkZ slice)
  (h:wpAny (model prog w) A (eval value env) (fun o s₁=>wpAny (model prog w) A (eval slice env) (fun i s₂=>s₂.TypeIs o T/\wpAny (model prog w) A (getItem o i) Q E s₂) E s₁) E s):
  wpAny (model prog w) A (eval (.Subscript value slice pos) env) Q E s:=by
 refine Subscript_ (wpAny_mono h (fun o s₁ h₁=>wpAny_mono h₁ (fun i s₂ h₂=> ?_) fun _ _ x=>x) fun _ _ x=>x)
 obtain ⟨hT,h₂⟩:=h₂
 unfold subscriptTail
 refine wpAny_bind ?_
 rw[getitemInPython_of_ne hT.not_modules]
 refine wpAny_bind (wpAny_specialOf hT hl ?_)
 have fin:wpAny (model prog w) A (subscripted slice false o i) (fun r s₃=>wpAny (model prog w) A (letTemporaryGo value o r >>= fun _=>pure r) Q E s₃) E s₂:=by
  rw[hs o i]
  exact wpAny_operating (wpAny_mono h₂ (fun r s₃ h₃=>wpAny_bind (wpAny_letTemporaryGo (wpAny_pure h₃))) fun _ _ x=>x)
 first
  |exact wpAny_pure (wpAny_bind fin)
  |exact wpAny_bind (wpAny_pure (wpAny_bind fin))
  |exact wpAny_bind fin
theorem ZcG {X:Cx} {pins:List (Addr × Obj)} {σ:St} {H:Hp} {s:Shared} {a:Addr} {y:V} {o:Option V} (I:Inv X pins σ H s) (g:Zkz H a y o):s.TypeIs (.ref a) "dict":=by
 rcases g with ⟨kvs,k,e,_,_⟩ | ⟨kvs,k,b,e,_,_,_⟩
 ·obtain ⟨_,_,vs,_,dd⟩:=ZgF I.hok e
  exact dd.typeIs
 ·obtain ⟨_,_,xs,_,dd⟩:=Zio I.hok e
  exact dd.typeIs
noncomputable def Zk0 (td ty:TE):TE:=fun σ H Q=>td σ H fun x H1=>ty σ H1 fun y H2=> ∃ a v,x= .ref a/\Zkz H2 a y (some v)/\Q v H2
section
variable {X:Cx} {o i e value:Expr} {pos pos' tpos:Pos} {td ty tv:TE}
theorem ZgI (hu:X.A.units + 1 < cLine) (ho:PE X o td) (hi:PE X i ty) (hs:ZkZ i):PE X (.Subscript o i pos) (Zk0 td ty):=by
 intro pins s σ H Q I h
 refine ZgH PySem.F.slot_dict_getitem.lookup hs (thn (ho pins s σ H _ I h) fun u s1 ⟨x,H1,I1,rx,q1⟩=>thn (hi pins s1 σ H1 _ I1 q1) fun iv s2 ⟨y,H2,I2,ry,a,v,ex,g,q2⟩=> ?_)
 subst ex
 obtain rfl:u=Value.ref a:=rx
 exact ⟨ZcG I2 g,Zd7 hu I2 g ry fun w' s3 I3 rw'=>⟨v,H2,I3,rw',q2⟩⟩
end
theorem Zfa {P:Program} {w:World} {H:Hp} (h:Heap) (hb:sysModules < h.objs.size):Z2 P w H (h.push { cls:= .type "dict",data:= .dict #[] }) h.objs.size (.dK []):=
 ⟨Nat.zero_le _,beq_eq_false_iff_ne.mpr (Ne.symm (Nat.ne_of_lt hb)),[],.nil,Heap.DictOf.new h⟩
section
variable {X:Cx} {pos:Pos}
end
noncomputable def Zc1:List (TE × TE)->St->Hp->(List (V × V)->Hp->Prop)->Prop
 | [],_,H,Q=>Q [] H
 | (tk,tv) :: r,σ,H,Q=>tk σ H fun x H1=>tv σ H1 fun y H2=>Zc1 r σ H2 fun ps H3=>Q ((x,y) :: ps) H3
noncomputable abbrev VV:List (V × V)->List (Value × Value)->Prop:=Paired fun p q=>ZC p.1 q.1/\ZC p.2 q.2
noncomputable def PPs (X:Cx) (pos:Pos) (keys:List (Option Expr)) (values:List Expr) (trs:List (TE × TE)):Prop:=
 ∀ (pins:List (Addr × Obj)) (s:Shared) (σ:St) (H:Hp) (Q:List (V × V)->Hp->Prop),Inv X pins σ H s->Zc1 trs σ H Q->
  wpAny (model X.prog X.w) X.A (evalPairs (pairTrees keys values X.env pos)) (fun vs s'=> ∃ ps H',Inv X pins σ H' s'/\VV ps vs/\Q ps H') X.xe s
theorem ZgJ {X:Cx} {pos:Pos}:PPs X pos [] [] []:=fun pins s σ H Q I h=>pairTrees_nil_walk ⟨[],H,I,.nil,h⟩
theorem Zfb {X:Cx} {pos:Pos} {k v:Expr} {ks:List (Option Expr)} {vs:List Expr} {tk tv:TE} {trs:List (TE × TE)} (hk:PE X k tk) (hv:PE X v tv) (hr:PPs X pos ks vs trs):
  PPs X pos (some k :: ks) (v :: vs) ((tk,tv) :: trs):=fun pins s σ H Q I h=>
 pairTrees_cons_walk (thn (hk pins s σ H _ I h) fun u s1 ⟨x,H1,I1,rx,q1⟩=>thn (hv pins s1 σ H1 _ I1 q1) fun w2 s2 ⟨y,H2,I2,ry,q2⟩=>
  thn (hr pins s2 σ H2 _ I2 q2) fun ws s3 ⟨ps,H3,I3,rel,q3⟩=>⟨(x,y) :: ps,H3,I3,.cons ⟨rx,ry⟩ rel,q3⟩)
noncomputable def Zbc (kvs more:List (Key × V)):List (Key × V):=more.foldl (fun acc kv=>Zd6 acc kv.1 kv.2) kvs
theorem KV.merge: ∀ {more:List (Key × V)} {rs:List (Key × Value)} {kvs:List (Key × V)} {vs:List (Key × Value)},KV more rs->KV kvs vs->KV (Zbc kvs more) (merged vs rs):=by
 intro more rs kvs vs r
 unfold KV at r
 induction r generalizing kvs vs with
 |nil=>intro q;exact q
 | @cons p q ps qs h t ih=>
  intro r0
  have e:KV (Zd6 kvs p.1 p.2) (stored vs q.1 q.2):=by
   have:=r0.put p.1 h.2
   rw[<- h.1];exact this
  exact ih e
theorem Zaz: ∀ (more kvs:List (Key × V)),(Zbc kvs more).length<=kvs.length + more.length
 | [],kvs=>by show kvs.length<=kvs.length + 0;omega
 |p :: r,kvs=>by
  have h1:=Zaz r (Zd6 kvs p.1 p.2)
  have h2:=ZcF kvs p.1 p.2
  show (Zbc (Zd6 kvs p.1 p.2) r).length<=_
  rw[List.length_cons];omega
theorem Zbx {P:Program} {w:World}: ∀ {kvs:List (Key × V)} {ws:List (Value × Value)},VV (kvs.map fun kv=>(kV kv.1,kv.2)) ws-> ∃ rs,Carries (ZI P w) ws rs/\KV kvs rs
 | [],_,r=>by rw[List.map_nil] at r;cases r;exact ⟨[],True.intro,.nil⟩
 |p :: kvs,_,r=>by
  rw[List.map_cons] at r
  cases r with
  | @cons a b as bs h t=>
   obtain ⟨rs,c,q⟩:=Zbx (P:=P) (w:=w) t
   obtain ⟨b1,b2⟩:=b
   exact ⟨(p.1,b2) :: rs,⟨ZgE h.1,rfl,c⟩,.cons ⟨rfl,h.2⟩ q⟩
noncomputable def Zk1 (trs:List (TE × TE)):TE:=fun σ H Q=> ∀ p,H p=none->Zc1 trs σ (upd H p (.dK [])) fun ps H2=>H2 p=some (.dK [])/\ ∃ kvs:List (Key × V),ps=kvs.map (fun kv=>(kV kv.1,kv.2))/\kvs.length<=15/\Q (.ref p) (upd H2 p (.dK (Zbc [] kvs)))
theorem ZgK {X:Cx} {pos:Pos} {keys:List (Option Expr)} {values:List Expr} {trs:List (TE × TE)} (h:PPs X pos keys values trs) (hall:keys.all (·.isSome)=true) (hl:keys.length=values.length) (h0:keys≠[])
  (h15:keys.length<=15):PE X (.Dict keys values pos) (Zk1 trs):=by
 intro pins s σ H Q I q
 have hn:=I.hok.fresh (Nat.le_refl s.heap.objs.size)
 have I1:=I.laid (a:=s.heap.objs.size) (o:= .dK []) (h':=s.heap.push { cls:= .type "dict",data:= .dict #[] }) (t':=s.toks) (fun _ _ q=>Heap.get?_push_of_some _ q) (Nat.le_refl _) (Zfa s.heap I.big)
 refine wpAny_Dict_walk (knd:=ZI X.prog X.w) hall hl h0 h15 (thn (h pins _ σ _ _ I1 (q _ hn)) fun ws s2 ⟨ps,H2,I2,rel,e,kvs,ep,lk,q2⟩=> ?_)
 subst ep
 obtain ⟨rs,c,rk⟩:=Zbx (P:=X.prog) (w:=X.w) rel
 obtain ⟨z,hd,vs0,r0,dd⟩:=ZkY I2.hok e
 cases r0
 refine ⟨rs,c,dd,fun h' dd' hs=>⟨.ref s.heap.objs.size,_,?_,rfl,q2⟩⟩
 have hz:(Zbc [] kvs).length<=sizeLine:=by
  have h1:=Zaz kvs []
  rw[List.length_nil] at h1
  rw[sizeLine_eq];omega
 have he: ∃ q,h'.get? s.heap.objs.size=some q:=let ⟨q,_,_,hq,_⟩:=dd';⟨q,hq⟩
 exact ZgG I2 (by rw[e];exact True.intro) hs he (Zip hz hd (rk.merge .nil) dd')
structure M1 (X:Cx) (o:Expr) (m:Str) (apos:Pos) (e:Expr) (cpos:Pos):Prop where
 base:attributeBase o m X.env (eval o X.env)=eval o X.env
 few:((backTo cpos (starEach [e] X.env)).all (fun x=> !x.1) && (backToKw cpos (keywordEach [] X.env)).all (fun x=>x.1.isSome)
  && decide (([e]:List Expr).length + ([]:List Keyword).length + (if ([]:List Keyword).isEmpty then 0 else 1) < 30))=true
 line:(apos.endLine == cpos.line)=true
 trees:backTo cpos (starEach [e] X.env)=[(false,eval e X.env)]
structure M2 (X:Cx) (o:Expr) (m:Str) (apos:Pos) (e f:Expr) (cpos:Pos):Prop where
 base:attributeBase o m X.env (eval o X.env)=eval o X.env
 few:((backTo cpos (starEach [e,f] X.env)).all (fun x=> !x.1) && (backToKw cpos (keywordEach [] X.env)).all (fun x=>x.1.isSome)
  && decide (([e,f]:List Expr).length + ([]:List Keyword).length + (if ([]:List Keyword).isEmpty then 0 else 1) < 30))=true
 line:(apos.endLine == cpos.line)=true
 trees:backTo cpos (starEach [e,f] X.env)=[(false,eval e X.env),(false,eval f X.env)]
noncomputable def IsD (H:Hp) (a:Addr):Prop:=(∃ kvs,Rd H a (.dK kvs))\/ ∃ kvs,Rd H a (.dT kvs)
section
variable {X:Cx} {pins:List (Addr × Obj)} {σ:St} {H:Hp} {s:Shared} {a:Addr} {y d:V} {u r:Value} {o:Option V} {A:Around} {E:Value->Shared->Prop}
end
section
variable {X:Cx} {o e f:Expr} {apos cpos:Pos} {td ty tx:TE}
end
section
variable {X:Cx} {pins:List (Addr × Obj)} {σ:St} {H:Hp} {s:Shared} {a:Addr} {kvs:List (Key × V)} {A:Around} {E:Value->Shared->Prop}
end
section
variable {X:Cx} {pins:List (Addr × Obj)} {σ:St} {H:Hp} {s:Shared} {a:Addr} {y:V} {u:Value} {A:Around} {E:Value->Shared->Prop}
end
end L2
namespace Att
open PySem PySem.W PySem.Calls PyProof.Rows
section
variable {prog:Program} {w:World} {A:Around} {E:Value->Shared->Prop} {s:Shared} {K:Frag}
end
end Att
namespace L2
open PySem PySem.Spec PyProof.Rows
end L2
namespace L2
open PySem PySem.Spec PyProof.Rows
end L2
namespace L2
open PySem PySem.Spec PyProof.Rows
section
variable {P:Program} {w:World} {K:PySem.W.Frag} {mg:Str->Option Value} {base:Heap}
end
section
variable {X:Cx}
end
section
variable {κ:Type} [DecidableEq κ]
end
end L2
end
section
namespace DQ
open PySem PySem.Spec PyProof.Rows
structure Fly (B:Heap) (l:List Env) (e:Addr) (cls:Value) (dct:Option Addr) (fl:Value) (h:Heap):Prop where
 stay:B.StaysIn h
 new:B.get? e=none
 frames:h.FunFrames B l
 obj: ∃ oe vs T oT ts,h.get? e=some oe/\oe.cls=cls/\oe.dict=dct/\oe.data= .fields vs/\vs[2]?=some .none/\vs[1]?=some (.ref T)/\B.get? T=none/\T≠e/\h.get? T=some oT/\oT.data= .fields ts/\ts[3]?=some fl
theorem Fly.tail {B:Heap} {env:Env} {l:List Env} {e:Addr} {cls:Value} {dct:Option Addr} {fl:Value} {h:Heap} (f:Fly B (env :: l) e cls dct fl h):Fly B l e cls dct fl h:=⟨f.stay,f.new,f.frames.2.2,f.obj⟩
section
variable {M:Model} {A:Around} {E:Value->Shared->Prop} {s:Shared} {B:Heap} {env:Env} {outer l:List Env} {L e:Addr} {cls:Value} {dct:Option Addr} {fl:Value}
theorem apart {h:Heap} {oe:Obj} {vs:Array Value} (hl:h.FunFrames B l) (he:h.get? e=some oe) (hd:oe.data= .fields vs):e ∉ l.filterMap (·.frame):=fun z=>by
 obtain ⟨_,o,h1,h2⟩:=hl.mem z
 rw[he] at h1
 cases h1
 exact h2 vs hd
theorem Zbd {oe:Obj} {vs:Array Value} {head:Value} {hn:Bool} {Q:Unit->Shared->Prop} (hfr:A.frames=some (env :: outer)) (hl:s.heap.FunFrames B (env :: outer)) (hf:env.frame=some L)
  (he:s.heap.get? e=some oe) (hs:B.StaysIn s.heap) (hb:B.get? e=none) (hd:oe.data= .fields vs) (hz:2 < vs.size) (h2:vs[2]?=some .none)
  (h: ∀ h',Fly B (env :: outer) e oe.cls oe.dict (rawInt L) h'->s.heap.UpToSlots h'->Q () { s with heap:=h' }):
  wpAny M A (frameOf env >>= fun a=>entryPlaceOf L hn >>= fun pl=>EntryCells.newEntry head a .none (rawInt L) .none pl >>= fun b=>setField (.ref e) 1 b) Q E s:=by
 have ne:=apart hl he hd
 refine wpAny_bind (wpAny_frameOf_fun hfr hl hf fun h1 k1=>wpAny_bind (wpAny_entryPlaceOf fun pl hpl=>wpAny_bind ?_))
 unfold EntryCells.newEntry newFields
 refine wpAny_newObj_type ?_ (hpl.sizeOk5 _ _ _ _ _)
 generalize hT:([head,Value.ref L,Value.none,rawInt L,Value.none] ++ (if pl.isEmpty then List.replicate 6 Value.none else pl)).toArray=ts
 have h3:ts[3]?=some (rawInt L):=by
  rw[<- hT]
  rcases hpl with rfl | ⟨_,_,_,_,_,_,_,rfl⟩<;>simp
 have e1:h1.get? e=some oe:=(k1.2.1 e ne).trans he
 have s1:B.StaysIn h1:=fun b o hbo=>(k1.2.1 b fun z=>by rw[(hl.mem z).1] at hbo;cases hbo).trans (hs b o hbo)
 generalize hoT:({ cls:= .type "traceback",dict:=none,data:= .fields ts }:Obj)=oT
 have dT:oT.data= .fields ts:=by rw[<- hoT]
 have fT:oT.isFreed=false:=Obj.isFreed_of_fields dT
 have e2:(h1.push oT).get? e=some oe:=Heap.get?_push_of_some _ e1
 have nT:h1.objs.size≠e:=Nat.ne_of_gt (Heap.lt_size e1)
 refine wpAny_setField e2 hd (Nat.lt_trans (by decide) hz) (h _ ?_ ?_)
 ·have d3:=Obj.data_mapFields hd (·.setIfInBounds 1 (Value.ref h1.objs.size))
  have e3:=Heap.get?_update_self (Obj.mapFields (·.setIfInBounds 1 (Value.ref h1.objs.size))) e2 (Obj.isFreed_of_fields d3)
  have keep: ∀ b o,b≠e->h1.get? b=some o->((h1.push oT).update e (Obj.mapFields (·.setIfInBounds 1 (Value.ref h1.objs.size)))).get? b=some o:=fun b o hbe x=>by
   rw[Heap.get?_update_other _ _ (Ne.symm hbe)]
   exact Heap.get?_push_of_some _ x
  have gT:(h1.push oT).get? h1.objs.size=some oT:=Heap.get?_push_size _ fT
  refine ⟨fun b o x=>keep b o (fun z=>by rw[z,hb] at x;cases x) (s1 b o x),hb,hl.of_keeps fun b o x y=> ?_,_,_,h1.objs.size,oT,ts,e3,Obj.cls_mapFields _ _,?_,d3,?_,?_,s1.fresh,nT,?_,dT,h3⟩
  ·obtain ⟨sl,z⟩:=k1.2.2 b o x
   exact ⟨_,keep b _ (fun w=>y vs (by rw[w,he] at x;cases x;exact hd)) z,rfl⟩
  ·obtain ⟨c,d,dd,sl⟩:=oe
   cases hd
   rfl
  ·rw[Array.getElem?_setIfInBounds_ne (by decide)]
   exact h2
  ·rw[Array.getElem?_setIfInBounds_self_of_lt (Nat.lt_trans (by decide) hz)]
  ·rw[Heap.get?_update_other _ _ (Ne.symm nT)]
   exact gT
 ·intro b o x y
  obtain ⟨sl,z⟩:=k1.2.2 b o x
  refine ⟨sl,?_⟩
  rw[Heap.get?_update_other _ _ (fun w=>y vs (by rw[<- w,he] at x;cases x;exact hd))]
  exact Heap.get?_push_of_some _ z
theorem Za5 {Q:Unit->Shared->Prop} (f:Fly B l e cls dct fl s.heap) (h: ∀ h',Fly B l e cls dct .none h'->s.heap.UpToSlots h'->Q () { s with heap:=h' }):wpAny M A (setFlight (.ref e) none) Q E s:=by
 obtain ⟨st,nw,fr,oe,vs,T,oT,ts,g1,g2,g3,g4,g5,g6,g7,g8,g9,g10,g11⟩:=f
 have hz:3 < ts.size:=(Array.getElem?_eq_some_iff.mp g11).1
 unfold setFlight
 refine wpAny_bind (wpAny_field g1 g4 g6 ?_)
 rw[if_pos (by simp)]
 have oth: ∀ b o,b≠T->s.heap.get? b=some o->(s.heap.update T (Obj.mapFields (·.setIfInBounds 3 Value.none))).get? b=some o:=fun b o hb x=>by
  rw[Heap.get?_update_other _ _ (Ne.symm hb)]
  exact x
 have nr: ∀ b o,s.heap.get? b=some o->(∀ vs,o.data≠ .fields vs)->b≠T:=fun b o x y z=>by
  rw[z,g9] at x
  cases x
  exact y ts g10
 refine wpAny_setField g9 g10 hz (h _ ⟨fun b o x=>oth b o (fun z=>by rw[z,g7] at x;cases x) (st b o x),nw,fr.of_keeps fun b o x y=>⟨o,oth b o (nr b o x y) x,rfl⟩,?_⟩ fun b o x y=>⟨o.slots,oth b o (nr b o x y) x⟩)
 exact ⟨oe,vs,T,_,_,oth e oe (Ne.symm g8) g1,g2,g3,g4,g5,g6,g7,g8,Heap.get?_update_self _ g9 (Obj.isFreed_of_fields (Obj.data_mapFields g10 _)),Obj.data_mapFields g10 _,by rw[Array.getElem?_setIfInBounds_self_of_lt hz];rfl⟩
theorem Zc2 {Q:Unit->Shared->Prop} (hfr:A.frames=some (env :: outer)) (hf:env.frame=some L) (f:Fly B (env :: outer) e cls dct .none s.heap)
  (h: ∀ h',Fly B (env :: outer) e cls dct (rawInt L) h'->s.heap.UpToSlots h'->Q () { s with heap:=h' }):wpAny M A (noteFrame (.ref e) env) Q E s:=by
 obtain ⟨st,nw,fr,oe,vs,T,oT,ts,g1,g2,g3,g4,g5,g6,g7,g8,g9,g10,g11⟩:=f
 unfold noteFrame
 simp only[hf]
 refine wpAny_bind (wpAny_field g1 g4 g6 ?_)
 rw[if_pos (by simp)]
 refine wpAny_bind (wpAny_field g9 g10 g11 ?_)
 rw[if_neg (by simp[rawInt])]
 have oth: ∀ b o,b≠T->s.heap.get? b=some o->(s.heap.update T (Obj.mapFields (·.setIfInBounds 3 Value.none))).get? b=some o:=fun b o hb x=>by
  rw[Heap.get?_update_other _ _ (Ne.symm hb)]
  exact x
 have nr: ∀ b o,s.heap.get? b=some o->(∀ vs,o.data≠ .fields vs)->b≠T:=fun b o x y z=>by
  rw[z,g9] at x
  cases x
  exact y ts g10
 refine wpAny_bind (wpAny_setField g9 g10 (Array.getElem?_eq_some_iff.mp g11).1 ?_)
 refine Zbd hfr (fr.of_keeps fun b o x y=>⟨o,oth b o (nr b o x y) x,rfl⟩) hf (oth e oe (Ne.symm g8) g1) (fun b o x=>oth b o (fun z=>by rw[z,g7] at x;cases x) (st b o x)) nw g4 (Array.getElem?_eq_some_iff.mp g5).1 g5 fun h' k1 k2=>h h' (g2 ▸ g3 ▸ k1) ?_
 intro b o x y
 exact k2 b o (oth b o (nr b o x y) x) y
theorem Zd8 {Q:Unit->Shared->Prop} (hfr:A.frames=some (env :: outer)) (hf:env.frame=some L) (f:Fly B (env :: outer) e cls dct .none s.heap)
  (h: ∀ h',Fly B outer e cls dct .none h'->s.heap.UpToSlots h'->Q () { s with heap:=h' }):wpAny M A (leaving env (.ref e)) Q E s:=by
 unfold leaving
 refine wpAny_bind (Zc2 hfr hf f fun h1 k1 u1=> ?_)
 exact Za5 (s:={ s with heap:=h1 }) k1 fun h2 k2 u2=>h h2 k2.tail (u1.trans u2)
theorem Zd9 {oe:Obj} {vs:Array Value} {Q:Unit->Shared->Prop} (hfr:A.frames=some (env :: outer)) (hf:env.frame=some L) (hl:s.heap.FunFrames B (env :: outer)) (he:s.heap.get? e=some oe) (hs:B.StaysIn s.heap) (hb:B.get? e=none) (hd:oe.data= .fields vs) (h1:vs[1]?=some .none) (h2:vs[2]?=some .none)
  (h: ∀ h',Fly B outer e oe.cls oe.dict .none h'->s.heap.UpToSlots h'->Q () { s with heap:=h' }):wpAny M A (leaving env (.ref e)) Q E s:=by
 unfold leaving noteFrame
 simp only[hf]
 refine wpAny_bind (wpAny_bind (wpAny_field he hd h1 ?_))
 rw[if_neg (by decide)]
 refine Zbd hfr hl hf he hs hb hd (Array.getElem?_eq_some_iff.mp h2).1 h2 fun h' k1 u1=> ?_
 exact Za5 (s:={ s with heap:=h' }) k1 fun h2 k2 u2=>h h2 k2.tail (u1.trans u2)
end
end DQ
end
section
namespace DQ
open PySem PySem.Spec PyProof.Rows
open PySem.W (Looks findIn mroIn specialIn takesIn clsIn looks_findIn looks_mroIn looks_find findObj KitX)
structure ExcC (K:PySem.W.Frag) (C:Addr):Prop where
 ga:findIn K (.ref C) "__getattribute__"=some (some (.builtin "BaseException.__getattribute__"))
 gt:findIn K (.ref C) "__getattr__"=some none
 cl:findIn K (.ref C) "__class__"=some (some (.builtin "object.__class__"))
 gs:specialIn K (.builtin "object.__class__") "__get__"=some (some (.builtin "getset_descriptor.__get__"))
 tk:takesIn K (.builtin "object.__class__")=some true
 bx:mroIn K C (.type "BaseException")=some true
 ob:mroIn K C (.type "object")=some true
 is:(clsIn K C).isSome=true
section
variable {prog:Program} {w:World} {A:Around} {E:Value->Shared->Prop} {s:Shared} {K:PySem.W.Frag} {e C:Addr} {oe:Obj} {od:Option Obj}
theorem Zfc {nameV:Value} {Q:Unit->Shared->Prop} (c:ExcC K C) (X:K.In s.heap) (I:PySem.W.InstAt s.heap e oe C od) (h:Q () s):wpAny (model prog w) A (checkBuiltinCall "BaseException.__getattribute__" ⟨[.ref e,nameV],[]⟩) Q E s:=by
 have hk:builtinKind "BaseException.__getattribute__"=some .slot:=by decide +kernel
 have hp:splitId "BaseException.__getattribute__"=some ("BaseException","__getattribute__"):=by decide +kernel
 obtain ⟨hh,g,d,t,os⟩:=s
 have L0:=I.type (M:=model prog w)
 have L1:=looks_mroIn (M:=model prog w) X c.bx
 have ha:=F.args_bexc_ga (.ref e) nameV
 simp only[checkBuiltinCall,hk,hp]
 refine wpAny_bind (wpAny_bind (L0.at (L1.at ?_)))
 repeat (any_goals (first | assumption | wp_step))
theorem Zea {tk:Tok} {Q:Fin->Shared->Prop} (c:ExcC K C) (X:K.In s.heap) (I:PySem.W.InstAt s.heap e oe C od) (h:Q (.done (.ret (.ref C))) s):
  wpAny (model prog w) A (Builtin.«object.__getattribute__» ⟨[.ref e,.str "__class__" tk],[]⟩) Q E s:=by
 have hf:findObj K C od "__class__"=some (.bind (.builtin "getset_descriptor.__get__") (.builtin "object.__class__")):=by
  obtain ⟨cd,hc⟩:=Option.isSome_iff_exists.mp c.is
  unfold findObj
  rw[hc,Option.bind_some,c.cl,Option.bind_some]
  simp[c.gs,c.tk]
 have fin: ∀ {E':Value->Shared->Prop} {Q':Value->Shared->Prop},Q' (.ref C) s->wpAny (model prog w) A (call (.builtin "getset_descriptor.__get__") [.builtin "object.__class__",.ref e,.ref C]) Q' E' s:=fun {E' Q'} z=>wpAny_call (PySem.W.class_get X I c.ob z)
 obtain ⟨hh,g,d,t,os⟩:=s
 have L0:=I.type (M:=model prog w)
 have L1:=looks_find (M:=model prog w) X I hf
 refine wpAny_bind (wpAny_pure (wpAny_bind (wpAny_pure (wpAny_bind (L0.at (wpAny_bind (L1.at ?_)))))))
 refine wpAny_bind (wpAny_holding (fin ?_))
 exact wpAny_pure h
theorem Ziq {tk:Tok} {fill expr:Bool} {Q:Value->Shared->Prop} (c:ExcC K C) (X:K.In s.heap) (I:PySem.W.InstAt s.heap e oe C od) (h:Q (.ref C) s):wpAny (model prog w) A (getAttrBy (.ref e) (.str "__class__" tk) fill expr) Q E s:=by
 have hc: ∀ {E':Value->Shared->Prop} {Q':Value->Shared->Prop},Q' (.ref C) s->wpAny (model prog w) A (call (.builtin "BaseException.__getattribute__") [.ref e,.str "__class__" tk]) Q' E' s:=fun {E' Q'} z=>
  wpAny_call (codeAny_call_builtin F.attr_ValueError.ga.plain F.entry_bexc_ga (Zfc c X I (Zea c X I z)))
 obtain ⟨hh,g,d,t,os⟩:=s
 have L0:=I.type (M:=model prog w)
 have L1:=looks_findIn (M:=model prog w) X c.ga
 have L2:=looks_findIn (M:=model prog w) X c.gt
 have hb:=F.attr_ValueError.ga.bind (.ref e)
 have hx:(onTheHeap (Value.ref C) && Value.builtin "BaseException.__getattribute__" == Value.builtin "object.__getattribute__")=false:=by rw[show (Value.builtin "BaseException.__getattribute__" == Value.builtin "object.__getattribute__")=false by decide +kernel];rfl
 have hy:(expr && onTheHeap (Value.builtin "BaseException.__getattribute__"))=false:=by cases expr<;>rfl
 unfold getAttrBy
 refine wpAny_holding (wpAny_bind (L0.at (wpAny_bind (L1.at ?_))))
 dsimp only
 rw[hx,if_neg (by decide)]
 unfold getAttrByItsOwn hookBefore
 rw[if_pos (show onTheHeap (Value.ref C)=true from rfl)]
 refine wpAny_bind (L2.at (wpAny_bind (wpAny_attempt (wpAny_holding ?_))))
 unfold callGetattribute
 rw[hy,if_neg (by decide)]
 unfold boundAndCalled
 refine wpAny_bind (wpAny_of_eq hb (hc ?_))
 exact wpAny_pure h
theorem Zfd {Q:Option Value->Shared->Prop} (c:ExcC K C) (X:K.In s.heap) (I:PySem.W.InstAt s.heap e oe C od) (h:Q (some (.ref C)) { s with toks:=s.toks + 1 }):wpAny (model prog w) A (getAttr? (.ref e) "__class__") Q E s:=by
 unfold getAttr? getAttrBy?
 refine wpAny_bind (wpAny_mkText (wpAny_bind (wpAny_attempt (Ziq (s:={ s with toks:=s.toks + 1 }) c X I (wpAny_pure h)))))
theorem Zfe (c:ExcC K C):KitX K (.ref e) (.ref C) (fun h=>PySem.W.InstAt h e oe C od) where
 ty:=fun _ _ _ I=>I.type
 it:=fun M h X _=>by
  obtain ⟨cd,hc⟩:=Option.isSome_iff_exists.mp c.is
  unfold clsIn at hc
  split at hc
  ·rename_i o1 o2 o3 o4 ho
   intro A' Q' E' s' k q
   unfold isType loadHead
   exact wpAny_bind (wpAny_loadPart (k _ _ (X _ _ ho)) (wpAny_pure q))
  ·cases hc
 ne:=fun h tp dd its n sl X htp=>by
  obtain ⟨cd,hc⟩:=Option.isSome_iff_exists.mp c.is
  refine Bool.eq_false_iff.mpr fun q=> ?_
  cases Value.ref.inj (beq_iff_eq.mp q)
  unfold clsIn at hc
  split at hc
  ·rename_i o1 o2 o3 o4 ho
   cases (X _ _ ho).symm.trans htp
  ·cases hc
 ca:=fun X I k=>Zfd c X I k
end
end DQ
end
section
namespace DL
open PySem PySem.Spec PyProof.Rows L2
inductive D where
 |non
 |bl (b:Bool)
 |int (i:Int)
 |str (x:Str)
 |tup (xs:List D)
 |rol (xs:List D)
 |con (xs:List D)
 |ref (n:Nat)
 |err (c:Str) (xs:List D)
 |dk (n:Nat)
 |dt (n:Nat)
 |fn (c:Str)
inductive SO where
 |lst (xs:List D)
noncomputable abbrev Sto:=List SO
noncomputable abbrev Ro:=List (Option D)
noncomputable def SqF (K:PySem.W.Frag) (H:Hp) (a:Addr) (xs:List V):Prop:=
 (∃ o,H a=some (.frz o (.lst xs)))\/ ∃ (o:Obj) (its:Array Value) (n:Nat),K.lookup a=some o/\o.cls= .type "list"/\o.dict=none/\o.data= .seq its n/\its.size<=sizeLine/\ZJ xs its.toList
theorem SqF.sq {K:PySem.W.Frag} {H:Hp} {a:Addr} {xs:List V} (h:SqF K H a xs):SqL K H a xs:=by
 rcases h with ⟨o,h⟩ | h
 ·exact .inl (.inr ⟨o,h⟩)
 ·exact .inr h
noncomputable def SqK (K:PySem.W.Frag) (a:Addr) (xs:List V):Prop:= ∃ (o:Obj) (its:Array Value) (n:Nat),K.lookup a=some o/\o.cls= .type "tuple"/\o.data= .seq its n/\its.size<=sizeLine/\ZJ xs its.toList/\o.dict=none
theorem SqK.sq {K:PySem.W.Frag} {H:Hp} {a:Addr} {xs:List V} (h:SqK K a xs):SqT K H a xs:=
 let ⟨o,its,n,h1,h2,h3,h4,h5,_⟩:=h
 .inr ⟨o,its,n,h1,h2,h3,h4,h5⟩
noncomputable def EOk (H:Hp) (p C:Addr) (xs:List V):Prop:= ∃ oe u vs,H p=some (.frz oe u)/\oe.cls= .ref C/\oe.data= .fields vs/\vs[2]?=some .none/\((xs=[]/\oe.dict=none)\/ ∃ dx fs,oe.dict=some dx/\H dx=some (.xd fs)/\fs.map (·.2)=xs)
noncomputable def Kn (H:Hp) (p:Addr):Option Nat:=match H p with | some (.lst _)=>some 0 | some (.dK _)=>some 1 | some (.dT _)=>some 2 | some (.frz _ (.dK _))=>some 1 | some (.frz _ (.dT _))=>some 2 | _=>none
structure RefK (H:Hp) (α:List Addr) (j n:Nat) (p:Addr):Prop where
 at':α[n]?=some p
 kn:Kn H p=some j
theorem Kn.lst {H:Hp} {p:Addr} {xs:List V} (h:H p=some (.lst xs)):Kn H p=some 0:=by unfold Kn;rw[h]
theorem Kn.ne {H:Hp} {p q:Addr} {j:Nat} {o:HO} (h:Kn H p=some j) (hq:H q=none):Kn (upd H q o) p=some j:=by
 have:p≠q:=by
  intro z
  unfold Kn at h
  rw[z,hq] at h
  cases h
 unfold Kn
 rw[Zm this]
 exact h
mutual
inductive Rep (K:PySem.W.Frag) (H:Hp) (α:List Addr):V->D->Prop where
 |non:Rep K H α .non .non
 |bl (b:Bool):Rep K H α (.bl b) (.bl b)
 |int (i:Int):Rep K H α (.int i) (.int i)
 |str (x:Str):Rep K H α (.str x) (.str x)
 |tup {p:Addr} {xs:List V} {ds:List D}:H p=some (.tup xs)->Reps K H α xs ds->Rep K H α (.ref p) (.tup ds)
 |rol {p:Addr} {xs:List V} {ds:List D}:SqF K H p xs->Reps K H α xs ds->Rep K H α (.ref p) (.rol ds)
 |con {p:Addr} {xs:List V} {ds:List D}:SqK K p xs->Reps K H α xs ds->Rep K H α (.ref p) (.con ds)
 |ref {p:Addr} {n:Nat}:RefK H α 0 n p->Rep K H α (.ref p) (.ref n)
 |dk {p:Addr} {n:Nat}:RefK H α 1 n p->Rep K H α (.ref p) (.dk n)
 |dt {p:Addr} {n:Nat}:RefK H α 2 n p->Rep K H α (.ref p) (.dt n)
 |fn {p:Addr} {c:Str}:PySem.W.nsIn K mainGlobals c=some (some (.ref p))->Rep K H α (.ref p) (.fn c)
 |err {p C:Addr} {c:Str} {xs:List V} {ds:List D}:PySem.W.nsIn K mainGlobals c=some (some (.ref C))->EOk H p C xs->Reps K H α xs ds->Rep K H α (.ref p) (.err c ds)
inductive Reps (K:PySem.W.Frag) (H:Hp) (α:List Addr):List V->List D->Prop where
 |nil:Reps K H α [] []
 |cons {v:V} {d:D} {vs:List V} {ds:List D}:Rep K H α v d->Reps K H α vs ds->Reps K H α (v :: vs) (d :: ds)
end
structure Ext (K:PySem.W.Frag) (H H':Hp) (α α':List Addr):Prop where
 tup: ∀ p xs,H p=some (.tup xs)->H' p=some (.tup xs)
 rol: ∀ p xs,SqF K H p xs->SqF K H' p xs
 err: ∀ p C xs,EOk H p C xs->EOk H' p C xs
 kn: ∀ p j,Kn H p=some j->Kn H' p=some j
 fz: ∀ p o u,H p=some (.frz o u)->H' p=some (.frz o u)
 al: ∃ β,α'=α ++ β
section
variable {K:PySem.W.Frag} {H H1 H2 H':Hp} {α α1 α2 α':List Addr}
theorem Ext.refl:Ext K H H α α:=⟨fun _ _ h=>h,fun _ _ h=>h,fun _ _ _ h=>h,fun _ _ h=>h,fun _ _ _ h=>h,[],(List.append_nil _).symm⟩
theorem Ext.trans (a:Ext K H H1 α α1) (b:Ext K H1 H2 α1 α2):Ext K H H2 α α2:=by
 obtain ⟨b1,e1⟩:=a.al
 obtain ⟨b2,e2⟩:=b.al
 exact ⟨fun p xs h=>b.tup p xs (a.tup p xs h),fun p xs h=>b.rol p xs (a.rol p xs h),fun p C xs h=>b.err p C xs (a.err p C xs h),fun p j h=>b.kn p j (a.kn p j h),fun p o u h=>b.fz p o u (a.fz p o u h),b1 ++ b2,by rw[e2,e1,List.append_assoc]⟩
theorem Ext.get0 (e:Ext K H H' α α') {n:Nat} {p:Addr} (h:α[n]?=some p):α'[n]?=some p:=by
 obtain ⟨β,e1⟩:=e.al
 have hl:n < α.length:=(List.getElem?_eq_some_iff.mp h).1
 rw[e1,List.getElem?_append_left hl]
 exact h
theorem Ext.get (e:Ext K H H' α α') {j n:Nat} {p:Addr} (h:RefK H α j n p):RefK H' α' j n p:=⟨e.get0 h.at',e.kn _ _ h.kn⟩
mutual
theorem Rep.mono (e:Ext K H H' α α'): ∀ {v:V} {d:D},Rep K H α v d->Rep K H' α' v d
 |_,_,.non=> .non
 |_,_,.bl b=> .bl b
 |_,_,.int i=> .int i
 |_,_,.str x=> .str x
 |_,_,.tup h r=> .tup (e.tup _ _ h) (Reps.mono e r)
 |_,_,.rol h r=> .rol (e.rol _ _ h) (Reps.mono e r)
 |_,_,.con h r=> .con h (Reps.mono e r)
 |_,_,.ref h=> .ref (e.get h)
 |_,_,.dk h=> .dk (e.get h)
 |_,_,.dt h=> .dt (e.get h)
 |_,_,.fn h=> .fn h
 |_,_,.err n h r=> .err n (e.err _ _ _ h) (Reps.mono e r)
theorem Reps.mono (e:Ext K H H' α α'): ∀ {vs:List V} {ds:List D},Reps K H α vs ds->Reps K H' α' vs ds
 |_,_,.nil=> .nil
 |_,_,.cons r t=> .cons (Rep.mono e r) (Reps.mono e t)
end
theorem Reps.length: ∀ {vs:List V} {ds:List D},Reps K H α vs ds->vs.length=ds.length
 |_,_,.nil=>rfl
 |_,_,.cons _ t=>by rw[List.length_cons,List.length_cons,Reps.length t]
theorem Reps.get: ∀ {vs:List V} {ds:List D} {i:Nat} {d:D},Reps K H α vs ds->ds[i]?=some d-> ∃ v,vs[i]?=some v/\Rep K H α v d
 |_,_,_,_,.nil,e=>by simp at e
 |_,_,0,_,.cons r _,e=>by simp at e;subst e;exact ⟨_,rfl,r⟩
 |_,_,i + 1,d,.cons _ t,e=>by
  obtain ⟨u,h1,h2⟩:=Reps.get (i:=i) (d:=d) t (by simpa using e)
  exact ⟨u,by simpa using h1,h2⟩
theorem Reps.set {v:V} {d:D} (r:Rep K H α v d): ∀ {vs:List V} {ds:List D} (i:Nat),Reps K H α vs ds->Reps K H α (vs.set i v) (ds.set i d)
 |_,_,_,.nil=> .nil
 |_,_,0,.cons _ t=> .cons r t
 |_,_,i + 1,.cons q t=> .cons q (Reps.set r i t)
theorem Reps.append: ∀ {vs ws:List V} {ds es:List D},Reps K H α vs ds->Reps K H α ws es->Reps K H α (vs ++ ws) (ds ++ es)
 |_,_,_,_,.nil,s=>s
 |_,_,_,_,.cons r t,s=> .cons r (Reps.append t s)
theorem Reps.ints: ∀ (ns:List Int),Reps K H α (ns.map V.int) (ns.map D.int)
 | []=> .nil
 |n :: r=> .cons (.int n) (Reps.ints r)
theorem Zeb {p q:Addr} {xs:List V} {o:HO} (h:H q=some (.tup xs)) (hp: ∀ u,H p=some u->(∀ ys,u≠ .tup ys)/\ ∀ ob w,u≠ .frz ob w):upd H p o q=some (.tup xs):=by
 rw[Zm (fun e=>(hp _ (e ▸ h)).1 _ rfl)]
 exact h
theorem Zec {p q:Addr} {xs:List V} {o:HO} (h:SqF K H q xs) (hp: ∀ u,H p=some u-> ∀ ob w,u≠ .frz ob w):SqF K (upd H p o) q xs:=by
 rcases h with ⟨ob,h⟩ | h
 ·refine .inl ⟨ob,?_⟩
  rw[Zm (fun e=>hp _ (e ▸ h) _ _ rfl)]
  exact h
 ·exact .inr h
theorem ZfZ {p q:Addr} {ob:Obj} {u o:HO} (h:H q=some (.frz ob u)) (hp: ∀ u,H p=some u-> ∀ ob w,u≠ .frz ob w):upd H p o q=some (.frz ob u):=by
 rw[Zm (fun e=>hp _ (e ▸ h) _ _ rfl)]
 exact h
theorem Zed {p q C:Addr} {xs:List V} {o:HO} (h:EOk H q C xs) (hp: ∀ u,H p=some u->(∀ ob w,u≠ .frz ob w)/\ ∀ fs,u≠ .xd fs):EOk (upd H p o) q C xs:=by
 obtain ⟨oe,u,vs,h1,h2,h3,h4,h5⟩:=h
 refine ⟨oe,u,vs,?_,h2,h3,h4,?_⟩
 ·rw[Zm (fun e=>(hp _ (e ▸ h1)).1 _ _ rfl)]
  exact h1
 ·rcases h5 with h5 | ⟨dx,fs,k1,k2,k3⟩
  ·exact .inl h5
  ·refine .inr ⟨dx,fs,k1,?_,k3⟩
   rw[Zm (fun e=>(hp _ (e ▸ k2)).2 _ rfl)]
   exact k2
theorem Ext.new {p:Addr} {o:HO} (h:H p=none) {β:List Addr}:Ext K H (upd H p o) α (α ++ β):=
 ⟨fun q xs z=>Zeb z (fun u e=>(by rw[h] at e;cases e)),fun q xs z=>Zec z (fun u e=>(by rw[h] at e;cases e)),fun q C xs z=>Zed z (fun u e=>(by rw[h] at e;cases e)),fun q j z=>Kn.ne z h,fun q o u z=>ZfZ z (fun u e=>(by rw[h] at e;cases e)),β,rfl⟩
theorem Ext.new0 {p:Addr} {o:HO} (h:H p=none):Ext K H (upd H p o) α α:=by
 have e:=Ext.new (K:=K) (H:=H) (α:=α) (o:=o) h (β:=[])
 rw[List.append_nil] at e
 exact e
theorem Ext.wrK {p:Addr} {o:HO} {j:Nat} (h:Kn H p=some j) (nf: ∀ ob w,H p≠some (.frz ob w)) (h':Kn (upd H p o) p=some j):Ext K H (upd H p o) α α:=by
 have ne (u:HO) (e:H p=some u):(∀ ys,u≠ .tup ys)/\(∀ ob w,u≠ .frz ob w)/\ ∀ fs,u≠ .xd fs:=by
  unfold Kn at h
  rw[e] at h
  refine ⟨fun ys z=> ?_,fun ob w z=>nf ob w (by rw[e,z]),fun fs z=> ?_⟩<;>subst z<;>cases h
 refine ⟨fun q xs z=>Zeb z fun u e=>⟨(ne u e).1,(ne u e).2.1⟩,fun q xs z=>Zec z fun u e=>(ne u e).2.1,fun q C xs z=>Zed z fun u e=>⟨(ne u e).2.1,(ne u e).2.2⟩,fun q i z=> ?_,fun q ob u z=>ZfZ z fun u e=>(ne u e).2.1,[],(List.append_nil _).symm⟩
 by_cases c:q=p
 ·subst c
  rw[h] at z
  cases z
  exact h'
 ·unfold Kn
  rw[Zm c]
  exact z
theorem Ext.wr {p:Addr} {xs ys:List V} (h:H p=some (.lst xs)):Ext K H (upd H p (.lst ys)) α α:=Ext.wrK (Kn.lst h) (fun ob w z=>by rw[h] at z;cases z) (Kn.lst Zl)
noncomputable def Zdo:Key->D
 | .inl i=> .int i
 | .inr x=> .str x
noncomputable def Zdp (ks:List Key):D:= .tup (ks.map Zdo)
noncomputable def Z6 (K:PySem.W.Frag) (H:Hp) (α:List Addr) {κ:Type} (key:κ->D) (kvs:List (κ × V)) (ds:List D):Prop:=
 ∃ es:List D,ds=List.zipWith (fun kv e=>D.tup [key kv.1,e]) kvs es/\Reps K H α (kvs.map (·.2)) es
noncomputable def SOk (K:PySem.W.Frag) (H:Hp) (α:List Addr) (p:Addr):SO->Prop
 | .lst ds=>(∃ xs,H p=some (.lst xs)/\Reps K H α xs ds)\/(∃ kvs,H p=some (.dK kvs)/\Z6 K H α Zdo kvs ds)\/(∃ kvs,H p=some (.dT kvs)/\Z6 K H α Zdp kvs ds)\/(∃ o kvs r,H p=some (.frz o (.dK kvs))/\ds= .non :: r/\Z6 K H α Zdo kvs r)\/(∃ o kvs r,H p=some (.frz o (.dT kvs))/\ds= .non :: r/\Z6 K H α Zdp kvs r)
theorem SOk.there {p:Addr} {o:SO} (h:SOk K H α p o): ∃ u,H p=some u:=by
 cases o with
 |lst ds=>rcases h with ⟨_,e,_⟩ | ⟨_,e,_⟩ | ⟨_,e,_⟩ | ⟨_,_,_,e,_⟩ | ⟨_,_,_,e,_⟩<;>exact ⟨_,e⟩
theorem SOk.mono {p:Addr} {o:SO} (h:SOk K H α p o) (ex:Ext K H H' α α') (e:H' p=H p):SOk K H' α' p o:=by
 cases o with
 |lst ds=>
  rcases h with ⟨xs,h1,h2⟩ | ⟨kvs,h1,es,h2,h3⟩ | ⟨kvs,h1,es,h2,h3⟩ | ⟨o,kvs,r,h1,h0,es,h2,h3⟩ | ⟨o,kvs,r,h1,h0,es,h2,h3⟩
  ·exact .inl ⟨xs,e.trans h1,Reps.mono ex h2⟩
  ·exact .inr (.inl ⟨kvs,e.trans h1,es,h2,Reps.mono ex h3⟩)
  ·exact .inr (.inr (.inl ⟨kvs,e.trans h1,es,h2,Reps.mono ex h3⟩))
  ·exact .inr (.inr (.inr (.inl ⟨o,kvs,r,e.trans h1,h0,es,h2,Reps.mono ex h3⟩)))
  ·exact .inr (.inr (.inr (.inr ⟨o,kvs,r,e.trans h1,h0,es,h2,Reps.mono ex h3⟩)))
structure HR (K:PySem.W.Frag) (H:Hp) (α:List Addr) (M:Sto):Prop where
 len:α.length=M.length
 nd:α.Nodup
 ob: ∀ (n:Nat) (p:Addr) (o:SO),α[n]?=some p->M[n]?=some o->SOk K H α p o
theorem HR.nil:HR K H [] []:=⟨rfl,List.nodup_nil,fun n p o h=>by simp at h⟩
theorem Kn.at {H:Hp} {p:Addr} {j:Nat} {u:HO} (k:Kn H p=some j) (e:H p=some u):(match some u with | some (.lst _)=>some 0 | some (.dK _)=>some 1 | some (.dT _)=>some 2 | some (.frz _ (.dK _))=>some 1 | some (.frz _ (.dT _))=>some 2 | _=>none)=some j:=by
 unfold Kn at k
 rw[e] at k
 exact k
theorem HR.at (h:HR K H α M) {n:Nat} {p:Addr} {ds:List D} (e:RefK H α 0 n p) (m:M[n]?=some (.lst ds)): ∃ xs,H p=some (.lst xs)/\Reps K H α xs ds:=by
 rcases h.ob n p _ e.at' m with h1 | ⟨_,h1,_⟩ | ⟨_,h1,_⟩ | ⟨_,_,_,h1,_⟩ | ⟨_,_,_,h1,_⟩
 ·exact h1
 all_goals exact absurd (Kn.at e.kn h1) (fun z=>nomatch z)
noncomputable def nfz (ds:List D):Bool:=match ds with | .non :: _=>false | _=>true
theorem HR.atK (h:HR K H α M) {n:Nat} {p:Addr} {ds:List D} (e:RefK H α 1 n p) (m:M[n]?=some (.lst ds)):(∃ kvs,H p=some (.dK kvs)/\Z6 K H α Zdo kvs ds)\/ ∃ o kvs r,H p=some (.frz o (.dK kvs))/\ds= .non :: r/\Z6 K H α Zdo kvs r:=by
 rcases h.ob n p _ e.at' m with ⟨_,h1,_⟩ | h1 | ⟨_,h1,_⟩ | h1 | ⟨_,_,_,h1,_⟩
 ·exact absurd (Kn.at e.kn h1) (fun z=>nomatch z)
 ·exact .inl h1
 ·exact absurd (Kn.at e.kn h1) (fun z=>nomatch z)
 ·exact .inr h1
 ·exact absurd (Kn.at e.kn h1) (fun z=>nomatch z)
theorem HR.atT (h:HR K H α M) {n:Nat} {p:Addr} {ds:List D} (e:RefK H α 2 n p) (m:M[n]?=some (.lst ds)):(∃ kvs,H p=some (.dT kvs)/\Z6 K H α Zdp kvs ds)\/ ∃ o kvs r,H p=some (.frz o (.dT kvs))/\ds= .non :: r/\Z6 K H α Zdp kvs r:=by
 rcases h.ob n p _ e.at' m with ⟨_,h1,_⟩ | ⟨_,h1,_⟩ | h1 | ⟨_,_,_,h1,_⟩ | h1
 ·exact absurd (Kn.at e.kn h1) (fun z=>nomatch z)
 ·exact absurd (Kn.at e.kn h1) (fun z=>nomatch z)
 ·exact .inl h1
 ·exact absurd (Kn.at e.kn h1) (fun z=>nomatch z)
 ·exact .inr h1
theorem RefK.lst {n:Nat} {p:Addr} (e:RefK H α 0 n p): ∃ xs,H p=some (.lst xs):=by
 have:=e.kn
 unfold Kn at this
 split at this
 ·rename_i xs h;exact ⟨xs,h⟩
 all_goals cases this
theorem HR.some_at {M:Sto} (h:HR K H α M) {n:Nat} {p:Addr} (e:RefK H α 0 n p): ∃ xs,H p=some (.lst xs):=e.lst
theorem HR.there {M:Sto} (h:HR K H α M) {n:Nat} {p:Addr} (e:α[n]?=some p): ∃ u,H p=some u:=by
 have hl:n < α.length:=(List.getElem?_eq_some_iff.mp e).1
 have hm:n < M.length:=by rw[<- h.len];exact hl
 exact (h.ob n p M[n] e (List.getElem?_eq_getElem hm)).there
theorem HR.tup {M:Sto} {p:Addr} {o:HO} (h:HR K H α M) (hp:H p=none):HR K (upd H p o) α M:=
 ⟨h.len,h.nd,fun n q so e m=>by
  obtain ⟨u,hu⟩:=h.there e
  exact (h.ob n q so e m).mono (Ext.new0 hp) (Zm (ZK hu hp))⟩
theorem HR.newO {M:Sto} {p:Addr} {o:HO} {so:SO} (h:HR K H α M) (hp:H p=none) (r:SOk K (upd H p o) (α ++ [p]) p so):HR K (upd H p o) (α ++ [p]) (M ++ [so]):=by
 have ex:Ext K H (upd H p o) α (α ++ [p]):=Ext.new hp
 refine ⟨by rw[List.length_append,List.length_append,h.len];rfl,?_,fun n q so' e m=> ?_⟩
 ·refine List.nodup_append.mpr ⟨h.nd,by simp,fun a ha b hb=> ?_⟩
  have hb':b=p:=by simpa using hb
  obtain ⟨n,hn,e⟩:=List.getElem_of_mem ha
  obtain ⟨u,z⟩:=h.there (n:=n) (p:=a) (by rw[List.getElem?_eq_getElem hn,e])
  rw[hb']
  exact ZK z hp
 ·by_cases hn:n < α.length
  ·rw[List.getElem?_append_left hn] at e
   rw[List.getElem?_append_left (by rw[<- h.len];exact hn)] at m
   obtain ⟨u,hu⟩:=h.there e
   exact (h.ob n q so' e m).mono ex (Zm (ZK hu hp))
  ·have en:n=α.length:=by
    have:n < (α ++ [p]).length:=(List.getElem?_eq_some_iff.mp e).1
    rw[List.length_append,List.length_singleton] at this
    omega
   subst en
   rw[List.getElem?_append_right (Nat.le_refl _),Nat.sub_self] at e
   rw[h.len,List.getElem?_append_right (Nat.le_refl _),Nat.sub_self] at m
   cases e
   cases m
   exact r
theorem HR.new {M:Sto} {p:Addr} {xs:List V} {ds:List D} (h:HR K H α M) (hp:H p=none) (r:Reps K H α xs ds):HR K (upd H p (.lst xs)) (α ++ [p]) (M ++ [.lst ds]):=
 h.newO hp (.inl ⟨xs,Zl,Reps.mono (Ext.new hp) r⟩)
theorem Zff {n m:Nat} {p:Addr} (h:α.Nodup) (a:α[n]?=some p) (b:α[m]?=some p):n=m:=by
 obtain ⟨h1,e1⟩:=List.getElem?_eq_some_iff.mp a
 obtain ⟨h2,e2⟩:=List.getElem?_eq_some_iff.mp b
 exact (List.getElem_inj h).mp (e1.trans e2.symm)
theorem HR.wrO {M:Sto} {n:Nat} {p:Addr} {o:HO} {so:SO} (h:HR K H α M) (e:α[n]?=some p) (ex:Ext K H (upd H p o) α α) (r:SOk K (upd H p o) α p so):HR K (upd H p o) α (M.set n so):=by
 have hn:n < M.length:=by rw[<- h.len];exact (List.getElem?_eq_some_iff.mp e).1
 refine ⟨by rw[List.length_set];exact h.len,h.nd,fun k q so' e' m=> ?_⟩
 by_cases hk:k=n
 ·subst hk
  rw[e] at e'
  cases e'
  rw[List.getElem?_set_self hn] at m
  cases m
  exact r
 ·rw[List.getElem?_set_ne (Ne.symm hk)] at m
  have hq:q≠p:=fun z=>hk (Zff h.nd (z ▸ e') e)
  exact (h.ob k q so' e' m).mono ex (Zm hq)
theorem HR.wr {M:Sto} {n:Nat} {p:Addr} {xs ys:List V} {ds:List D} (h:HR K H α M) (e:RefK H α 0 n p) (hp:H p=some (.lst ys)) (r:Reps K H α xs ds):HR K (upd H p (.lst xs)) α (M.set n (.lst ds)):=
 h.wrO e.at' (Ext.wr hp) (.inl ⟨xs,Zl,Reps.mono (Ext.wr hp) r⟩)
end
inductive Out (β:Type) where
 |ok (a:β) (M:Sto)
 |exc (c:Str) (M:Sto)
 |bad
noncomputable def Out.bind {β γ:Type} (o:Out β) (f:β->Sto->Out γ):Out γ:=match o with
 | .ok a M=>f a M
 | .exc c M=> .exc c M
 | .bad=> .bad
inductive Fl where
 |nx (ρ:Ro) (M:Sto)
 |ret (d:D) (M:Sto)
 |brk (ρ:Ro) (M:Sto)
 |cnt (ρ:Ro) (M:Sto)
 |exc (c:Str) (M:Sto)
 |bad
noncomputable def OG {β γ:Type} (K:PySem.W.Frag) (R:Hp->List Addr->γ->β->Prop) (H:Hp) (α:List Addr) (ξ:XK) (Q:γ->Hp->Prop):Out β->Prop
 | .ok d M'=> ∀ v H' α',Ext K H H' α α'->HR K H' α' M'->R H' α' v d->Q v H'
 | .exc c M'=> ∀ C H' α',PySem.W.nsIn K mainGlobals c=some (some (.ref C))->Ext K H H' α α'->HR K H' α' M'->ξ (.ref C) none H'
 | .bad=>False
theorem OG.ext {β γ:Type} {K:PySem.W.Frag} {R:Hp->List Addr->γ->β->Prop} {H H1:Hp} {α α1:List Addr} {ξ:XK} {Q:γ->Hp->Prop} {o:Out β} (h:OG K R H α ξ Q o) (e:Ext K H H1 α α1):OG K R H1 α1 ξ Q o:=by
 cases o with
 |ok d M'=>exact fun v H' α' e'=>h v H' α' (e.trans e')
 |exc c M'=>exact fun C H' α' n e'=>h C H' α' n (e.trans e')
 |bad=>exact h
noncomputable abbrev OP (K:PySem.W.Frag):=OG K (Rep K)
noncomputable abbrev OT (K:PySem.W.Frag):=OG (β:=Bool) (γ:=Bool) K (fun _ _ v d=>v=d)
noncomputable abbrev OA (K:PySem.W.Frag):=OG K (Reps K)
noncomputable def SR (K:PySem.W.Frag) (H:Hp) (α:List Addr) (σ:L2.St) (ρ:Ro):Prop:=σ.length=ρ.length/\ ∀ (i:Nat) (d:D),ρ[i]?=some (some d)-> ∃ v,σ[i]?=some (some v)/\Rep K H α v d
theorem SR.mono {K:PySem.W.Frag} {H H':Hp} {α α':List Addr} {σ:L2.St} {ρ:Ro} (h:SR K H α σ ρ) (e:Ext K H H' α α'):SR K H' α' σ ρ:=
 ⟨h.1,fun i d q=>let ⟨v,a,b⟩:=h.2 i d q;⟨v,a,Rep.mono e b⟩⟩
theorem SR.set {K:PySem.W.Frag} {H:Hp} {α:List Addr} {σ:L2.St} {ρ:Ro} {v:V} {d:D} (h:SR K H α σ ρ) (i:Nat) (r:Rep K H α v d):SR K H α (σ.set i (some v)) (ρ.set i (some d)):=by
 refine ⟨by rw[List.length_set,List.length_set];exact h.1,fun j e q=> ?_⟩
 by_cases hj:j=i
 ·subst hj
  have hl:j < ρ.length:=by
   have:=(List.getElem?_eq_some_iff.mp q).1
   rw[List.length_set] at this
   exact this
  rw[List.getElem?_set_self hl] at q
  cases q
  exact ⟨v,by rw[List.getElem?_set_self (by rw[h.1];exact hl)],r⟩
 ·rw[List.getElem?_set_ne (Ne.symm hj)] at q
  rw[List.getElem?_set_ne (Ne.symm hj)]
  exact h.2 j e q
noncomputable abbrev Ev:=Ro->Sto->Out D
noncomputable abbrev Tv:=Ro->Sto->Out Bool
noncomputable abbrev Av:=Ro->Sto->Out (List D)
noncomputable abbrev Sv:=Ro->Sto->Fl
noncomputable def DE (X:Cx) (ξ:XK) (e:Expr) (f:Ev):Prop:= ∃ t:TE,PE X e t/\ ∀ σ ρ H α M Q,SR X.K H α σ ρ->HR X.K H α M->OP X.K H α ξ Q (f ρ M)->t σ H Q
noncomputable def DT (X:Cx) (ξ:XK) (e:Expr) (f:Tv):Prop:= ∃ t:TT,PT X e t/\ ∀ σ ρ H α M Q,SR X.K H α σ ρ->HR X.K H α M->OT X.K H α ξ Q (f ρ M)->t σ H Q
noncomputable def DW (X:Cx) (ξ:XK) (e:Expr) (f:Tv):Prop:= ∃ t:TT,PW X e t/\ ∀ σ ρ H α M Q,SR X.K H α σ ρ->HR X.K H α M->OT X.K H α ξ Q (f ρ M)->t σ H Q
noncomputable def DA (X:Cx) (ξ:XK) (es:List Expr) (f:Av):Prop:= ∃ t:TA,PA X es t/\ ∀ σ ρ H α M Q,SR X.K H α σ ρ->HR X.K H α M->OA X.K H α ξ Q (f ρ M)->t σ H Q
theorem OG.seq {β γ β' γ':Type} {K:PySem.W.Frag} {R:Hp->List Addr->γ->β->Prop} {R':Hp->List Addr->γ'->β'->Prop} {H:Hp} {α:List Addr} {ξ:XK} {Q:γ'->Hp->Prop} {Q1:γ->Hp->Prop} {o:Out β} {f:β->Sto->Out β'}
  (h:OG K R' H α ξ Q (o.bind f)) (k: ∀ d M' v H' α',Ext K H H' α α'->HR K H' α' M'->R H' α' v d->OG K R' H' α' ξ Q (f d M')->Q1 v H'):OG K R H α ξ Q1 o:=by
 cases o with
 |ok d M'=>exact fun v H' α' e hr r=>k d M' v H' α' e hr r (OG.ext (o:=f d M') h e)
 |exc c M'=>exact h
 |bad=>exact h
section
variable {X:Cx} {ξ:XK} {a b e:Expr} {fa fb:Ev} {pos:Pos}
noncomputable def Zg (i:Nat):Ev:=fun ρ M=>match ρ[i]? with | some (some d)=> .ok d M | _=> .bad
noncomputable def eC (d:D):Ev:=fun _ M=> .ok d M
theorem Zb (i:Nat) {x:Str} (hN:X.N[i]?=some x:=by rfl) (hv:Vis X.env.scope x:=by first | exact Or.inl rfl | exact Or.inr (Or.inl rfl) | exact Or.inr (Or.inr rfl)) (hd:(x == ("__debug__":Str))=false:=by decide)
  (hcd:(x == ("__classdict__":Str))=false:=by decide):DE X ξ (.Name x pos) (Zg i):=by
 refine ⟨_,ZdM hN hv hd hcd,fun σ ρ H α M Q s h q=> ?_⟩
 unfold Zg at q
 cases e:ρ[i]? with
 |none=>rw[e] at q;exact q.elim
 |some o=>
  cases o with
  |none=>rw[e] at q;exact q.elim
  |some d=>
   rw[e] at q
   obtain ⟨v,h1,h2⟩:=s.2 i d e
   exact ⟨v,h1,q v H α Ext.refl h h2⟩
theorem Zd {i:Int} {j pos}:DE X ξ (.Constant (.int i) j pos) (eC (.int i)):=⟨_,ZhT,fun _ _ H α M _ _ h q=>q _ H α Ext.refl h (.int i)⟩
theorem Zee {i:Bool} {j pos}:DE X ξ (.Constant (.bool i) j pos) (eC (.bl i)):=⟨_,ZkH,fun _ _ H α M _ _ h q=>q _ H α Ext.refl h (.bl i)⟩
theorem Zf0 {j pos}:DE X ξ (.Constant .none j pos) (eC .non):=⟨_,ZhU,fun _ _ H α M _ _ h q=>q _ H α Ext.refl h .non⟩
theorem Zef {x:Str} {j pos}:DE X ξ (.Constant (.str x) j pos) (eC (.str x)):=⟨_,ZfS,fun _ _ H α M _ _ h q=>q _ H α Ext.refl h (.str x)⟩
noncomputable abbrev Bo:=D->D->Sto->Out D
noncomputable def e2 (f:Bo) (fa fb:Ev):Ev:=fun ρ M=>(fa ρ M).bind fun x M1=>(fb ρ M1).bind fun y M2=>f x y M2
noncomputable def BO (X:Cx) (ξ:XK) (r:R2) (f:Bo):Prop:= ∀ H α M v w x y Q,HR X.K H α M->Rep X.K H α v x->Rep X.K H α w y->OP X.K H α ξ Q (f x y M)->r v w H Q
theorem two {r:R2} {f:Bo} (hb:BO X ξ r f) {ta tb:TE} (qa: ∀ σ ρ H α M Q,SR X.K H α σ ρ->HR X.K H α M->OP X.K H α ξ Q (fa ρ M)->ta σ H Q)
  (qb: ∀ σ ρ H α M Q,SR X.K H α σ ρ->HR X.K H α M->OP X.K H α ξ Q (fb ρ M)->tb σ H Q): ∀ σ ρ H α M Q,SR X.K H α σ ρ->HR X.K H α M->OP X.K H α ξ Q (e2 f fa fb ρ M)->tOp r ta tb σ H Q:=by
 intro σ ρ H α M Q s h q
 refine qa σ ρ H α M _ s h (OG.seq q fun x M1 v H1 α1 e1 h1 r1 q1=> ?_)
 refine qb σ ρ H1 α1 M1 _ (s.mono e1) h1 (OG.seq q1 fun y M2 w H2 α2 e2 h2 r2 q2=> ?_)
 exact hb H2 α2 M2 v w x y Q h2 (Rep.mono e2 r1) r2 q2
theorem Zdq {op:Operator} {r:R2} {f:Bo} (ho:OpR X (binaryOp op) r) (hf:BO X ξ r f) (ha:DE X ξ a fa) (hb:DE X ξ b fb):DE X ξ (.BinOp a op b pos) (e2 f fa fb):=by
 obtain ⟨ta,ha,qa⟩:=ha
 obtain ⟨tb,hb,qb⟩:=hb
 exact ⟨_,ZkP ho ha hb,two hf qa qb⟩
theorem Zf1 {op:CmpOp} {r:R2} {f:Bo} (ho:OpR X (compareOp op) r) (hf:BO X ξ r f) (ha:DE X ξ a fa) (hb:DE X ξ b fb) (hm:behindInMarks op b=false:=by first | exact ZfU _ | with_unfolding_all rfl):DE X ξ (.Compare a [op] [b] pos) (e2 f fa fb):=by
 obtain ⟨ta,ha,qa⟩:=ha
 obtain ⟨tb,hb,qb⟩:=hb
 exact ⟨_,Zgs ho ha hb hm,two hf qa qb⟩
noncomputable def tv (f:Ev):Tv:=fun ρ M=>(f ρ M).bind fun x M1=>match x with | .bl k=> .ok k M1 | _=> .bad
theorem Zir {t:TE} {f:Ev} (qa: ∀ σ ρ H α M Q,SR X.K H α σ ρ->HR X.K H α M->OP X.K H α ξ Q (f ρ M)->t σ H Q): ∀ σ ρ H α M Q,SR X.K H α σ ρ->HR X.K H α M->OT X.K H α ξ Q (tv f ρ M)->Zic t σ H Q:=by
 intro σ ρ H α M Q s h q
 refine qa σ ρ H α M _ s h (OG.seq q fun x M1 v H1 α1 e1 h1 r1 q1=> ?_)
 cases r1 with
 |bl k=>exact ⟨k,rfl,q1 k H1 α1 Ext.refl h1 rfl⟩
 |_=>exact q1.elim
theorem Zag {op:CmpOp} {r:R2} {f:Bo} (ho:OpR X (compareOp op) r) (hf:BO X ξ r f) (ha:DE X ξ a fa) (hb:DE X ξ b fb) (hm:behindInMarks op b=false:=by first | exact ZfU _ | with_unfolding_all rfl):DT X ξ (.Compare a [op] [b] pos) (tv (e2 f fa fb)):=by
 obtain ⟨ta,ha,qa⟩:=ha
 obtain ⟨tb,hb,qb⟩:=hb
 exact ⟨_,Zgt ho ha hb hm,Zir (two hf qa qb)⟩
theorem Zb9 (h:DE X ξ e fa) (he: ∀ whole,isTrue e X.env whole=(do let v <- whole;standAt e.pos;holding [v] (truthy v)):=by intro _;rfl):DT X ξ e (tv fa):=by
 obtain ⟨ta,ha,qa⟩:=h
 exact ⟨_,ZhV ha he,Zir qa⟩
variable {ga gb:Tv} {rest:List Expr}
noncomputable def Zis (f g:Tv):Tv:=fun ρ M=>(f ρ M).bind fun k M1=>if k=true then g ρ M1 else .ok false M1
noncomputable def ZkA (f g:Tv):Tv:=fun ρ M=>(f ρ M).bind fun k M1=>if k=true then .ok true M1 else g ρ M1
noncomputable def Zca (f:Tv):Tv:=fun ρ M=>(f ρ M).bind fun k M1=> .ok (!k) M1
theorem Zk2 (ha:DT X ξ a ga):DW X ξ (.BoolOp .And [a] pos) ga:=let ⟨_,h,q⟩:=ha;⟨_,pw_and1 h,q⟩
theorem Zit (ha:DT X ξ a ga):DW X ξ (.BoolOp .Or [a] pos) ga:=let ⟨_,h,q⟩:=ha;⟨_,pw_or1 h,q⟩
theorem Zk3 (ha:DT X ξ a ga) (hb:DW X ξ (.BoolOp .Or (b :: rest) pos) gb):DW X ξ (.BoolOp .Or (a :: b :: rest) pos) (ZkA ga gb):=by
 obtain ⟨ta,ha,qa⟩:=ha
 obtain ⟨tb,hb,qb⟩:=hb
 refine ⟨_,pw_or ha hb,fun σ ρ H α M Q s h q=> ?_⟩
 refine qa σ ρ H α M _ s h (OG.seq q fun k M1 v H1 α1 e1 h1 r1 q1=> ?_)
 cases r1
 cases k with
 |true=>exact Zim (q1 true H1 α1 Ext.refl h1 rfl)
 |false=>exact Zil (qb σ ρ H1 α1 M1 Q (s.mono e1) h1 q1)
theorem ZnL (h:DW X ξ e ga):DT X ξ e ga:=let ⟨_,h,q⟩:=h;⟨_,h.pt,q⟩
theorem Zc3 (ha:DT X ξ a ga):DT X ξ (.UnaryOp .Not a pos) (Zca ga):=by
 obtain ⟨ta,ha,qa⟩:=ha
 refine ⟨_,ZhW ha,fun σ ρ H α M Q s h q=> ?_⟩
 refine qa σ ρ H α M _ s h (OG.seq q fun k M1 v H1 α1 e1 h1 r1 q1=> ?_)
 cases r1
 exact q1 (!k) H1 α1 Ext.refl h1 rfl
noncomputable def Zfg (f g:Ev):Ev:=fun ρ M=>(f ρ M).bind fun x M1=>match x with | .bl k=>if k=true then g ρ M1 else .ok (.bl false) M1 | _=> .bad
noncomputable def ZmF (f g:Ev):Ev:=fun ρ M=>(f ρ M).bind fun x M1=>match x with | .bl k=>if k=true then .ok (.bl true) M1 else g ρ M1 | _=> .bad
noncomputable def Ziu (f:Ev):Ev:=fun ρ M=>(f ρ M).bind fun x M1=>match x with | .bl k=> .ok (.bl (!k)) M1 | _=> .bad
theorem Ziv {op} (ha:DE X ξ a fa):DE X ξ (.BoolOp op [a] pos) fa:=let ⟨_,h,q⟩:=ha;⟨_,ZhX h,q⟩
theorem Ziw (ha:DE X ξ a fa) (hb:DE X ξ (.BoolOp .And (b :: rest) pos) fb):DE X ξ (.BoolOp .And (a :: b :: rest) pos) (Zfg fa fb):=by
 obtain ⟨ta,ha,qa⟩:=ha
 obtain ⟨tb,hb,qb⟩:=hb
 refine ⟨_,ZhY ha hb,fun σ ρ H α M Q s h q=> ?_⟩
 refine qa σ ρ H α M _ s h (OG.seq q fun x M1 v H1 α1 e1 h1 r1 q1=> ?_)
 cases r1 with
 |bl k=>
  refine ⟨k,rfl,?_⟩
  cases k with
  |true=>exact Zim (qb σ ρ H1 α1 M1 Q (s.mono e1) h1 q1)
  |false=>exact Zil (q1 _ H1 α1 Ext.refl h1 (.bl false))
 |_=>exact q1.elim
noncomputable def eIf (c:Tv) (f g:Ev):Ev:=fun ρ M=>(c ρ M).bind fun k M1=>if k=true then f ρ M1 else g ρ M1
variable {es:List Expr} {fs:Av}
noncomputable def aNil:Av:=fun _ M=> .ok [] M
noncomputable def Zc (f:Ev) (g:Av):Av:=fun ρ M=>(f ρ M).bind fun x M1=>(g ρ M1).bind fun xs M2=> .ok (x :: xs) M2
theorem Ze:DA X ξ [] aNil:=⟨_,ZfV,fun _ _ H α M _ _ h q=>q _ H α Ext.refl h .nil⟩
theorem Za (ha:DE X ξ e fa) (hr:DA X ξ es fs) (hs:starEach (e :: es) X.env=(false,eval e X.env) :: starEach es X.env:=by rfl):DA X ξ (e :: es) (Zc fa fs):=by
 obtain ⟨ta,ha,qa⟩:=ha
 obtain ⟨tb,hb,qb⟩:=hr
 refine ⟨_,ZcB ha hb hs,fun σ ρ H α M Q s h q=> ?_⟩
 refine qa σ ρ H α M _ s h (OG.seq q fun x M1 v H1 α1 e1 h1 r1 q1=> ?_)
 refine qb σ ρ H1 α1 M1 _ (s.mono e1) h1 (OG.seq q1 fun y M2 w H2 α2 e2 h2 r2 q2=> ?_)
 exact q2 _ H2 α2 Ext.refl h2 (.cons (Rep.mono e2 r1) r2)
noncomputable def ZaO (f:Av):Ev:=fun ρ M=>(f ρ M).bind fun xs M1=>if xs.length<=1000 then .ok (.tup xs) M1 else .bad
noncomputable def Zdr (f:Av):Ev:=fun ρ M=>(f ρ M).bind fun xs M1=>if xs.length<=1000 then .ok (.ref M1.length) (M1 ++ [.lst xs]) else .bad
theorem ZgL {n:Nat} (h:n<=1000):n<=sizeLine:=Nat.le_of_lt (Zd5 h)
theorem Zw {x1} (ha:DA X ξ es fs):DE X ξ (.Tuple es x1 pos) (ZaO fs):=by
 obtain ⟨ta,ha,qa⟩:=ha
 refine ⟨_,Zid ha,fun σ ρ H α M Q s h q=> ?_⟩
 refine qa σ ρ H α M _ s h (OG.seq q fun xs M1 vs H1 α1 e1 h1 r1 q1=> ?_)
 by_cases hl:xs.length<=1000
 ·rw[if_pos hl] at q1
  refine ⟨by rw[r1.length];exact ZgL hl,fun p hp=>q1 _ _ α1 (Ext.new0 hp) (h1.tup hp) (.tup Zl (Reps.mono (Ext.new0 hp) r1))⟩
 ·rw[if_neg hl] at q1
  exact q1.elim
theorem HR.last {K:PySem.W.Frag} {H:Hp} {α:List Addr} {M:Sto} (h:HR K H α M) (p:Addr):(α ++ [p])[M.length]?=some p:=by
 rw[<- h.len,List.getElem?_append_right (Nat.le_refl _),Nat.sub_self]
 rfl
theorem ZaA (ha:DA X ξ es fs):DE X ξ (.List es pos) (Zdr fs):=by
 obtain ⟨ta,ha,qa⟩:=ha
 refine ⟨_,Zie ha,fun σ ρ H α M Q s h q=> ?_⟩
 refine qa σ ρ H α M _ s h (OG.seq q fun xs M1 vs H1 α1 e1 h1 r1 q1=> ?_)
 by_cases hl:xs.length<=1000
 ·rw[if_pos hl] at q1
  refine ⟨by rw[r1.length];exact ZgL hl,fun p hp=>q1 _ _ (α1 ++ [p]) (Ext.new hp) (h1.new hp r1) (.ref ⟨h1.last p,Kn.lst Zl⟩)⟩
 ·rw[if_neg hl] at q1
  exact q1.elim
end
end DL
end
section
namespace DL
open PySem PySem.Spec PyProof.Rows L2
open PySem.SeqAt (EqAt RcAt RcNeAt)
noncomputable def ZE (i j:Int):Prop:=Builtin.Int.intBits i<=64\/Builtin.Int.intBits j<=64\/(Builtin.Int.intBits i<=60000000/\Builtin.Int.intBits j<=60000000)
noncomputable instance (i j:Int):Decidable (ZE i j):=by unfold ZE;infer_instance
theorem ZE.ok {i j:Int} (h:ZE i j):IntMulOk i j:=by
 rcases h with h | h | ⟨h1,h2⟩
 ·exact .of_left h
 ·exact .of_right h
 ·exact .of_le h1 h2 (by decide)
theorem Zds {i j:Int} (m n:Nat) (h1:i.natAbs < 2 ^ m) (h2:j.natAbs < 2 ^ n) (hm:m<=60000000:=by decide) (hn:n<=60000000:=by decide):ZE i j:=
 .inr (.inr ⟨Nat.le_trans (intBits_le_iff.mpr h1) hm,Nat.le_trans (intBits_le_iff.mpr h2) hn⟩)
noncomputable def Zah (j:Int):Prop:=j≠0/\j.natAbs.log2 < 9000
noncomputable instance (j:Int):Decidable (Zah j):=by unfold Zah;infer_instance
section
variable {X:Cx}
theorem ZgM:OpR X (binaryOp .Mult) (rI ZE fun i j=> .int (i * j)):=opI fun _ _ _ _ _ _ _ hc q=>mul_int q hc.ok
theorem Zfh:OpR X (binaryOp .FloorDiv) (rI (fun _ j=>Zah j) fun i j=> .int (i.fdiv j)):=opI fun _ _ _ _ _ _ _ hc q=>floordiv_int hc.1 q (.inl (PyProof.noPylong_of_log2 hc.2))
end
noncomputable def dAdd:Bo:=fun x y M=>match x,y with
 | .int i,.int j=> .ok (.int (i + j)) M
 | .str i,.str j=>if i.length + j.length<=100000 then .ok (.str (i ++ j)) M else .bad
 | .ref n,.ref m=>match M[n]?,M[m]? with
  |some (.lst xs),some (.lst ys)=>if xs.length + ys.length<=10000000 then .ok (.ref M.length) (M ++ [.lst (xs ++ ys)]) else .bad
  |_,_=> .bad
 | .tup xs,.tup ys=>if xs.length + ys.length<=100000/\xs≠[] then .ok (.tup (xs ++ ys)) M else .bad
 |_,_=> .bad
noncomputable def dSub:Bo:=fun x y M=>match x,y with | .int i,.int j=> .ok (.int (i - j)) M | _,_=> .bad
noncomputable def dMul:Bo:=fun x y M=>match x,y with | .int i,.int j=>if ZE i j then .ok (.int (i * j)) M else .bad | _,_=> .bad
noncomputable def dDiv:Bo:=fun x y M=>match x,y with | .int i,.int j=>if Zah j then .ok (.int (i.fdiv j)) M else .bad | _,_=> .bad
noncomputable def dMod:Bo:=fun x y M=>match x,y with | .int i,.int j=>if j≠0 then .ok (.int (i.fmod j)) M else .bad | _,_=> .bad
noncomputable def dPow:Bo:=fun x y M=>match x,y with | .int i,.int j=>if 0<=j/\j<=1000000/\i.natAbs < 2 ^ 64 then .ok (.int (i ^ j.toNat)) M else .bad | _,_=> .bad
noncomputable def dLt:Bo:=fun x y M=>match x,y with | .int i,.int j=> .ok (.bl (decide (i < j))) M | _,_=> .bad
noncomputable def dLe:Bo:=fun x y M=>match x,y with | .int i,.int j=> .ok (.bl (decide (i<=j))) M | _,_=> .bad
noncomputable def dGt:Bo:=fun x y M=>match x,y with | .int i,.int j=> .ok (.bl (decide (j < i))) M | _,_=> .bad
noncomputable def dGe:Bo:=fun x y M=>match x,y with | .int i,.int j=> .ok (.bl (decide (j<=i))) M | _,_=> .bad
theorem Zix {n:Nat} (h:n<=100000):n<=sizeLine:=Nat.le_trans h (by decide)
section
variable {X:Cx} {ξ:XK}
theorem ZaB {r:R2} {f:Bo} {C:Int->Int->Prop} [∀ i j,Decidable (C i j)] {g:Int->Int->D} {gV:Int->Int->V} (hg: ∀ H α i j,Rep X.K H α (gV i j) (g i j))
  (hf: ∀ x y M,f x y M=match x,y with | .int i,.int j=>if C i j then .ok (g i j) M else .bad | _,_=> .bad) (hr: ∀ i j H Q,C i j->Q (gV i j) H->r (.int i) (.int j) H Q):BO X ξ r f:=by
 intro H α M v w x y Q h rv rw' q
 rw[hf] at q
 cases rv<;>first | exact q.elim | skip
 cases rw'<;>first | exact q.elim | skip
 rename_i i j
 by_cases c:C i j
 ·simp only[if_pos c] at q
  exact hr i j H Q c (q _ H α Ext.refl h (hg H α i j))
 ·simp only[if_neg c] at q
  exact q.elim
theorem Ziy:BO X ξ (rI0 fun i j=> .int (i - j)) dSub:=ZaB (C:=fun _ _=>True) (fun _ _ i j=> .int (i - j)) (fun x y M=>by cases x<;>cases y<;>simp[dSub]) fun i j H Q _ q=>⟨i,j,rfl,rfl,q⟩
theorem Ziz:BO X ξ (rI ZE fun i j=> .int (i * j)) dMul:=ZaB (C:=ZE) (fun _ _ i j=> .int (i * j)) (fun x y M=>by cases x<;>cases y<;>rfl) fun i j H Q c q=>⟨i,j,rfl,rfl,c,q⟩
theorem ZiA:BO X ξ (rI (fun _ j=>Zah j) fun i j=> .int (i.fdiv j)) dDiv:=ZaB (C:=fun _ j=>Zah j) (fun _ _ i j=> .int (i.fdiv j)) (fun x y M=>by cases x<;>cases y<;>rfl) fun i j H Q c q=>⟨i,j,rfl,rfl,c,q⟩
theorem ZiB:BO X ξ (rI (fun _ j=>j≠0) fun i j=> .int (i.fmod j)) dMod:=ZaB (C:=fun _ j=>j≠0) (fun _ _ i j=> .int (i.fmod j)) (fun x y M=>by cases x<;>cases y<;>rfl) fun i j H Q c q=>⟨i,j,rfl,rfl,c,q⟩
theorem ZiC:BO X ξ (rI ZmB fun i j=> .int (i ^ j.toNat)) dPow:=ZaB (C:=fun i j=>0<=j/\j<=1000000/\i.natAbs < 2 ^ 64) (fun _ _ i j=> .int (i ^ j.toNat)) (fun x y M=>by cases x<;>cases y<;>rfl) fun i j H Q c q=>⟨i,j,rfl,rfl,c,q⟩
theorem ZiD:BO X ξ (rI0 fun i j=> .bl (decide (i < j))) dLt:=ZaB (C:=fun _ _=>True) (fun _ _ i j=> .bl _) (fun x y M=>by cases x<;>cases y<;>simp[dLt]) fun i j H Q _ q=>⟨i,j,rfl,rfl,q⟩
theorem ZiE:BO X ξ (rI0 fun i j=> .bl (decide (i<=j))) dLe:=ZaB (C:=fun _ _=>True) (fun _ _ i j=> .bl _) (fun x y M=>by cases x<;>cases y<;>simp[dLe]) fun i j H Q _ q=>⟨i,j,rfl,rfl,q⟩
theorem ZgN:BO X ξ (rI0 fun i j=> .bl (decide (j < i))) dGt:=ZaB (C:=fun _ _=>True) (fun _ _ i j=> .bl _) (fun x y M=>by cases x<;>cases y<;>simp[dGt]) fun i j H Q _ q=>⟨i,j,rfl,rfl,q⟩
theorem Zk4:BO X ξ (rI0 fun i j=> .bl (decide (j<=i))) dGe:=ZaB (C:=fun _ _=>True) (fun _ _ i j=> .bl _) (fun x y M=>by cases x<;>cases y<;>simp[dGe]) fun i j H Q _ q=>⟨i,j,rfl,rfl,q⟩
theorem ZgO:OpR X (binaryOp .Add) (fun x y H Q=>(rI0 (fun i j=> .int (i + j)) x y H Q\/(∃ i j,x= .str i/\y= .str j/\i.length + j.length<=sizeLine/\Q (.str (i ++ j)) H))\/(rCat x y H Q\/Zgy X.K x y H Q)):=
 OpR.or (OpR.or Zh6 Zdk) (OpR.or Zik Zgz)
theorem ZiF:BO X ξ (fun x y H Q=>(rI0 (fun i j=> .int (i + j)) x y H Q\/(∃ i j,x= .str i/\y= .str j/\i.length + j.length<=sizeLine/\Q (.str (i ++ j)) H))\/(rCat x y H Q\/Zgy X.K x y H Q)) dAdd:=by
 intro H α M v w x y Q h rv rw' q
 unfold dAdd at q
 split at q
 ·rename_i i j
  cases rv
  cases rw'
  exact .inl (.inl ⟨i,j,rfl,rfl,q _ H α Ext.refl h (.int (i + j))⟩)
 ·rename_i i j
  cases rv
  cases rw'
  split at q
  ·rename_i c
   exact .inl (.inr ⟨i,j,rfl,rfl,Zix c,q _ H α Ext.refl h (.str _)⟩)
  ·exact q.elim
 ·rename_i n m
  cases rv with
  | @ref p _ hp=>
   cases rw' with
   | @ref p2 _ hp2=>
    split at q
    ·rename_i ds ds2 e1 e2
     split at q
     ·rename_i c
      obtain ⟨xs,g1,r1⟩:=h.at hp e1
      obtain ⟨ys,g2,r2⟩:=h.at hp2 e2
      refine .inr (.inl ⟨p,p2,xs,ys,rfl,rfl,g1,g2,by rw[r1.length,r2.length];exact Nat.le_trans c (by decide),fun l hl=> ?_⟩)
      exact q _ _ (α ++ [l]) (Ext.new hl) (h.new hl (r1.append r2)) (.ref ⟨h.last l,Kn.lst Zl⟩)
     ·exact q.elim
    ·exact q.elim
 ·rename_i ds ds2
  cases rv with
  | @tup p xs _ hp rp=>
   cases rw' with
   | @tup p2 xs2 _ hp2 rp2=>
    split at q
    ·rename_i c
     have nx:xs≠[]:=fun z=>c.2 (by have:=rp.length;rw[z] at this;exact List.eq_nil_of_length_eq_zero this.symm)
     refine .inr (.inr ⟨p,p2,xs,xs2,rfl,rfl,(SqT.of hp),(SqT.of hp2),nx,by rw[rp.length,rp2.length];exact Zix c.1,fun z=> ?_,fun _ l hl=> ?_⟩)
     ·subst z
      cases rp2
      rw[List.append_nil] at q
      exact q _ H α Ext.refl h (.tup hp rp)
     ·exact q _ _ α (Ext.new0 hl) (h.tup hl) (.tup Zl (Reps.mono (Ext.new0 hl) (rp.append rp2)))
    ·exact q.elim
 ·exact q.elim
variable {a b e:Expr} {fa fb:Ev} {pos:Pos}
theorem ZaC (ha:DE X ξ a fa) (hb:DE X ξ b fb):DE X ξ (.BinOp a .Add b pos) (e2 dAdd fa fb):=Zdq ZgO ZiF ha hb
theorem ZD (ha:DE X ξ a fa) (hb:DE X ξ b fb):DE X ξ (.BinOp a .Sub b pos) (e2 dSub fa fb):=Zdq Zh7 Ziy ha hb
theorem Zv (ha:DE X ξ a fa) (hb:DE X ξ b fb):DE X ξ (.BinOp a .Mult b pos) (e2 dMul fa fb):=Zdq ZgM Ziz ha hb
theorem ZaD (ha:DE X ξ a fa) (hb:DE X ξ b fb):DE X ξ (.BinOp a .FloorDiv b pos) (e2 dDiv fa fb):=Zdq Zfh ZiA ha hb
theorem ZaX (ha:DE X ξ a fa) (hb:DE X ξ b fb):DE X ξ (.BinOp a .Mod b pos) (e2 dMod fa fb):=Zdq Zgq ZiB ha hb
theorem Zeg (ha:DE X ξ a fa) (hb:DE X ξ b fb):DE X ξ (.BinOp a .Pow b pos) (e2 dPow fa fb):=Zdq Zh8 ZiC ha hb
noncomputable def ZhJ (f:Ev):Ev:=fun ρ M=>(f ρ M).bind fun x M1=>match x with | .int i=> .ok (.int (-i)) M1 | _=> .bad
theorem Zeh (ha:DE X ξ a fa):DE X ξ (.UnaryOp .USub a pos) (ZhJ fa):=by
 obtain ⟨ta,ha,qa⟩:=ha
 refine ⟨_,ZkQ Zh9 ha,fun σ ρ H α M Q s h q=> ?_⟩
 refine qa σ ρ H α M _ s h (OG.seq q fun x M1 v H1 α1 e1 h1 r1 q1=> ?_)
 cases r1 with
 |int i=>exact ⟨i,rfl,q1 _ H1 α1 Ext.refl h1 (.int (-i))⟩
 |_=>exact q1.elim
noncomputable def atD (xs:List D) (i:Int) (M:Sto):Out D:=match atI xs i with | some d=> .ok d M | none=> .bad
noncomputable def dIx:Bo:=fun x y M=>match x,y with
 | .tup xs,.int i=>atD xs i M
 | .rol xs,.int i=>atD xs i M
 | .ref n,.int i=>match M[n]? with | some (.lst xs)=>atD xs i M | _=> .bad
 |_,_=> .bad
theorem Reps.atI {K:PySem.W.Frag} {H:Hp} {α:List Addr} {vs:List V} {ds:List D} {i:Int} {d:D} (r:Reps K H α vs ds) (h:L2.atI ds i=some d): ∃ v,L2.atI vs i=some v/\Rep K H α v d:=by
 unfold L2.atI at h ⊢
 rw[r.length]
 cases e:ixN ds.length i with
 |none=>rw[e] at h;cases h
 |some j=>
  rw[e] at h
  exact r.get h
theorem Zk5:BO X ξ (fun x y H Q=>ZmC X.K x y H Q\/ZmD X.K x y H Q) dIx:=by
 intro H α M v w x y Q h rv rw' q
 have at': ∀ {ds:List D} {i:Int},OP X.K H α ξ Q (atD ds i M)-> ∃ d,L2.atI ds i=some d/\OP X.K H α ξ Q (.ok d M):=fun {ds i} q=>by
  unfold atD at q
  cases e:L2.atI ds i with
  |none=>rw[e] at q;exact q.elim
  |some d=>rw[e] at q;exact ⟨d,rfl,q⟩
 unfold dIx at q
 split at q
 ·rename_i ds i
  cases rw'
  cases rv with
  | @tup p xs _ hp rp=>
   obtain ⟨d,e,q⟩:=at' q
   obtain ⟨v,h1,h2⟩:=rp.atI e
   exact .inr ⟨p,xs,i,v,rfl,rfl,(SqT.of hp),h1,q v H α Ext.refl h h2⟩
 ·rename_i ds i
  cases rw'
  cases rv with
  | @rol p xs _ hp rp=>
   obtain ⟨d,e,q⟩:=at' q
   obtain ⟨v,h1,h2⟩:=rp.atI e
   exact .inl ⟨p,xs,i,v,rfl,rfl,hp.sq,h1,q v H α Ext.refl h h2⟩
 ·rename_i n i
  cases rw'
  cases rv with
  | @ref p _ hp=>
   split at q
   ·rename_i ds e1
    obtain ⟨d,e,q⟩:=at' q
    obtain ⟨xs,g1,r1⟩:=h.at hp e1
    obtain ⟨v,h1,h2⟩:=r1.atI e
    exact .inl ⟨p,xs,i,v,rfl,rfl,SqL.of g1,h1,q v H α Ext.refl h h2⟩
   ·exact q.elim
 ·exact q.elim
theorem Zs (ha:DE X ξ a fa) (hb:DE X ξ b fb) (hs:Zd2 b:=by exact fun _ _=>rfl):DE X ξ (.Subscript a b pos) (e2 dIx fa fb):=by
 obtain ⟨ta,ha,qa⟩:=ha
 obtain ⟨tb,hb,qb⟩:=hb
 exact ⟨_,ZkW (IxR.or ZgB Zih) ha hb hs,two Zk5 qa qb⟩
end
inductive Kd where
 |non | bl (b:Bool) | int (i:Int) | str (x:Str) | tup (xs:List D) | lst (xs:List D)
noncomputable def kd (M:Sto):D->Option Kd
 | .non=>some .non
 | .bl b=>some (.bl b)
 | .int i=>some (.int i)
 | .str x=>some (.str x)
 | .tup xs=>some (.tup xs)
 | .rol xs=>some (.lst xs)
 | .con xs=>some (.tup xs)
 | .ref n=>match M[n]? with | some (.lst xs)=>some (.lst xs) | _=>none
 | .err _ _=>none
 | .dk _=>none
 | .dt _=>none
 | .fn _=>none
noncomputable def eqL (f:D->D->Option Bool):List D->List D->Option Bool
 | [],[]=>some true
 |x :: xs,y :: ys=>match f x y with | some a=>(match eqL f xs ys with | some b=>some (a && b) | none=>none) | none=>none
 |_,_=>some false
noncomputable def eqK (f:D->D->Option Bool):Kd->Kd->Option Bool
 | .non,.non=>some true
 | .bl a,.bl b=>some (a == b)
 | .bl a,.int b=>some ((if a then 1 else 0) == b)
 | .int a,.bl b=>some (a == (if b then 1 else 0))
 | .int a,.int b=>some (a == b)
 | .str a,.str b=>some (a == b)
 | .tup xs,.tup ys=>eqL f xs ys
 | .lst xs,.lst ys=>if xs.length=ys.length then eqL f xs ys else some false
 |_,_=>some false
noncomputable def eqF:Nat->Sto->D->D->Option Bool
 |0,_,_,_=>none
 |n + 1,M,x,y=>match kd M x,kd M y with | some a,some b=>eqK (eqF n M) a b | _,_=>none
inductive Vw (X:Cx) (H:Hp) (α:List Addr) (s:Shared):Kd->Value->Prop where
 |non:Vw X H α s .non .none
 |bl (b:Bool):Vw X H α s (.bl b) (.bool b)
 |int (i:Int) (t:Tok):Vw X H α s (.int i) (.int i t)
 |str (x:Str) (t:Tok):Vw X H α s (.str x) (.str x t)
 |tup {p:Addr} {xs:List V} {ds:List D} {its:List Value}:s.heap.IsTuple p its.toArray->ZJ xs its->Reps X.K H α xs ds->Vw X H α s (.tup ds) (.ref p)
 |lst {p:Addr} {xs:List V} {ds:List D} {its:List Value}:s.heap.IsList p its.toArray->ZJ xs its->Reps X.K H α xs ds->Vw X H α s (.lst ds) (.ref p)
section
variable {X:Cx} {ξ:XK} {pins:List (Addr × Obj)} {σ:L2.St} {H:Hp} {s:Shared} {α:List Addr} {M:Sto}
theorem vw (I:Inv X pins σ H s) (h:HR X.K H α M) {v:V} {x:D} {u:Value} {k:Kd} (r:Rep X.K H α v x) (ru:ZC v u) (e:kd M x=some k):Vw X H α s k u:=by
 cases r with
 |non=>cases e;cases ru;exact .non
 |bl b=>cases e;cases ru;exact .bl b
 |int i=>cases e;obtain ⟨t,rfl⟩:=ru;exact .int i t
 |str x=>cases e;obtain ⟨t,rfl⟩:=ru;exact .str x t
 |err _ _ _=>cases e
 |dk _=>cases e
 |dt _=>cases e
 |fn _=>cases e
 | @tup p xs ds hp rp=>
  cases e;cases ru
  obtain ⟨its,h1,h2,_⟩:=I.tuple (SqT.of hp)
  exact .tup h2 h1 rp
 | @con p xs ds hp rp=>
  cases e;cases ru
  obtain ⟨its,h1,h2,_⟩:=I.tuple hp.sq
  exact .tup h2 h1 rp
 | @rol p xs ds hp rp=>
  cases e;cases ru
  obtain ⟨its,h1,h2,_⟩:=I.list hp.sq
  exact .lst h2.isList h1 rp
 | @ref p n hp=>
  cases ru
  cases e1:M[n]? with
  |none=>simp only[kd,e1] at e;cases e
  |some o=>
   cases o with
   |lst ds=>
    simp only[kd,e1] at e
    cases e
    obtain ⟨xs,g1,r1⟩:=h.at hp e1
    obtain ⟨its,h1,h2,_⟩:=I.list (SqL.of g1)
    exact .lst h2.isList h1 r1
noncomputable def Eq3 (A:Around) (s:Shared) (u z:Value) (b:Bool):Prop:=EqAt A s u z b/\RcAt A s u z b/\RcNeAt A s u z (!b)
theorem Zei {f:D->D->Option Bool}: ∀ {xs ys:List D} {b:Bool},eqL f xs ys=some b->
  (∀ (j:Nat) x y,xs[j]?=some x->ys[j]?=some y-> ∃ c,f x y=some c)/\
  b=((List.range (min xs.length ys.length)).all (fun j=>match xs[j]?,ys[j]? with | some x,some y=>(f x y).getD false | _,_=>false) && xs.length == ys.length)
 | [],[],b,e=>by
  simp only[eqL,Option.some.injEq] at e
  subst e
  exact ⟨fun j x y h=>(by simp at h),(by simp)⟩
 |x :: xs,[],b,e=>by
  simp only[eqL,Option.some.injEq] at e
  subst e
  exact ⟨fun j x y h1 h2=>(by simp at h2),(by simp)⟩
 | [],y :: ys,b,e=>by
  simp only[eqL,Option.some.injEq] at e
  subst e
  exact ⟨fun j x y h1 h2=>(by simp at h1),(by simp)⟩
 |x :: xs,y :: ys,b,e=>by
  cases e1:f x y with
  |none=>simp only[eqL,e1] at e;cases e
  |some a=>
   cases e2:eqL f xs ys with
   |none=>simp only[eqL,e1,e2] at e;cases e
   |some c=>
    simp only[eqL,e1,e2,Option.some.injEq] at e
    subst e
    obtain ⟨h1,h2⟩:=Zei e2
    refine ⟨fun j x' y' g1 g2=> ?_,?_⟩
    ·cases j with
     |zero=>
      simp at g1 g2
      subst g1 g2
      exact ⟨a,e1⟩
     |succ j=>
      simp at g1 g2
      exact h1 j x' y' g1 g2
    ·have em:min (x :: xs).length (y :: ys).length=min xs.length ys.length + 1:=by simp only[List.length_cons];omega
     rw[em,List.range_succ_eq_map,List.all_cons,List.all_map,h2]
     simp[e1,Bool.and_assoc,Function.comp_def]
theorem Zfi (I:Inv X pins σ H s) (h:HR X.K H α M): ∀ (n:Nat) {v:V} {x y:D} {b:Bool},Rep X.K H α v x->Rep X.K H α v y->eqF n M x y=some b->b=true:=by
 intro n
 induction n with
 |zero=>intro v x y b _ _ e;simp only[eqF] at e;cases e
 |succ n ih=>
  have lists: ∀ (vs:List V) (xs ys:List D) (b:Bool),Reps X.K H α vs xs->Reps X.K H α vs ys->eqL (eqF n M) xs ys=some b->b=true:=by
   intro vs
   induction vs with
   |nil=>
    intro xs ys b r1 r2 e
    cases r1;cases r2
    simp only[eqL,Option.some.injEq] at e
    exact e.symm
   |cons v vs iv=>
    intro xs ys b r1 r2 e
    cases r1 with
    |cons p1 t1=>
     cases r2 with
     |cons p2 t2=>
      rename_i d1 ds1 d2 ds2
      cases e1:eqF n M d1 d2 with
      |none=>simp only[eqL,e1] at e;cases e
      |some a=>
       cases e2:eqL (eqF n M) ds1 ds2 with
       |none=>simp only[eqL,e1,e2] at e;cases e
       |some c=>
        simp only[eqL,e1,e2,Option.some.injEq] at e
        rw[<- e,ih p1 p2 e1,iv _ _ _ t1 t2 e2]
        rfl
  intro v x y b r1 r2 e
  have nl: ∀ {p:Addr} {xs ys:List V},SqT X.K H p xs->SqL X.K H p ys->False:=fun {p xs ys} a c=>by
   obtain ⟨i1,_,⟨o1,g1,c1,_⟩,_⟩:=I.tuple a
   obtain ⟨i2,_,⟨o2,_,g2,c2,_⟩,_⟩:=I.list c
   rw[g1] at g2
   cases g2
   rw[c1] at c2
   exact absurd c2 (by decide)
  have ll: ∀ {p:Addr} {n:Nat} {ds:List D},RefK H α 0 n p->M[n]?=some (.lst ds)-> ∃ vs,SqL X.K H p vs/\Reps X.K H α vs ds:=fun {p n ds} a c=>by
   obtain ⟨xs,g1,r1⟩:=h.at a c
   exact ⟨xs,SqL.of g1,r1⟩
  cases r1 with
  |non=>cases r2;simp only[eqF,kd,eqK,Option.some.injEq] at e;exact e.symm
  |bl c=>cases r2;simp only[eqF,kd,eqK,Option.some.injEq,beq_self_eq_true] at e;exact e.symm
  |int c=>cases r2;simp only[eqF,kd,eqK,Option.some.injEq,beq_self_eq_true] at e;exact e.symm
  |str c=>cases r2;simp only[eqF,kd,eqK,Option.some.injEq,beq_self_eq_true] at e;exact e.symm
  |err _ _ _=>simp[eqF,kd] at e
  |dk _=>simp[eqF,kd] at e
  |dt _=>simp[eqF,kd] at e
  |fn _=>simp[eqF,kd] at e
  | @tup p xs ds hp rp=>
   cases r2 with
   | @tup _ xs2 ds2 hp2 rp2=>
    cases I.tuple_inj (SqT.of hp) (SqT.of hp2)
    simp only[eqF,kd,eqK] at e
    exact lists _ _ _ _ rp rp2 e
   | @con _ xs2 ds2 hp2 rp2=>
    cases I.tuple_inj (SqT.of hp) hp2.sq
    simp only[eqF,kd,eqK] at e
    exact lists _ _ _ _ rp rp2 e
   | @rol _ xs2 ds2 hp2 rp2=>exact (nl (SqT.of hp) hp2.sq).elim
   |err _ _ _=>simp[eqF,kd] at e
   |dk _=>simp[eqF,kd] at e
   |dt _=>simp[eqF,kd] at e
   |fn _=>simp[eqF,kd] at e
   | @ref _ n2 hp2=>
    obtain ⟨ys,g⟩:=h.some_at hp2
    exact (nl (SqT.of hp) (SqL.of g)).elim
  | @con p xs ds hp rp=>
   cases r2 with
   | @tup _ xs2 ds2 hp2 rp2=>
    cases I.tuple_inj hp.sq (SqT.of hp2)
    simp only[eqF,kd,eqK] at e
    exact lists _ _ _ _ rp rp2 e
   | @con _ xs2 ds2 hp2 rp2=>
    cases I.tuple_inj hp.sq hp2.sq
    simp only[eqF,kd,eqK] at e
    exact lists _ _ _ _ rp rp2 e
   | @rol _ xs2 ds2 hp2 rp2=>exact (nl hp.sq hp2.sq).elim
   |err _ _ _=>simp[eqF,kd] at e
   |dk _=>simp[eqF,kd] at e
   |dt _=>simp[eqF,kd] at e
   |fn _=>simp[eqF,kd] at e
   | @ref _ n2 hp2=>
    obtain ⟨ys,g⟩:=h.some_at hp2
    exact (nl hp.sq (SqL.of g)).elim
  | @rol p xs ds hp rp=>
   cases r2 with
   | @tup _ xs2 ds2 hp2 rp2=>exact (nl (SqT.of hp2) hp.sq).elim
   | @con _ xs2 ds2 hp2 rp2=>exact (nl hp2.sq hp.sq).elim
   |err _ _ _=>simp[eqF,kd] at e
   |dk _=>simp[eqF,kd] at e
   |dt _=>simp[eqF,kd] at e
   |fn _=>simp[eqF,kd] at e
   | @rol _ xs2 ds2 hp2 rp2=>
    cases I.list_inj hp.sq hp2.sq
    simp only[eqF,kd,eqK,if_pos (rp.length.symm.trans rp2.length)] at e
    exact lists _ _ _ _ rp rp2 e
   | @ref _ n2 hp2=>
    cases e1:M[n2]? with
    |none=>simp only[eqF,kd,e1] at e;cases e
    |some o=>
     cases o with
     |lst ds2=>
      obtain ⟨ys,g,r⟩:=ll hp2 e1
      cases I.list_inj hp.sq g
      simp only[eqF,kd,e1,eqK,if_pos (rp.length.symm.trans r.length)] at e
      exact lists _ _ _ _ rp r e
  | @ref p n1 hp=>
   cases e0:M[n1]? with
   |none=>simp only[eqF,kd,e0] at e;cases e
   |some o0=>
    cases o0 with
    |lst ds=>
     obtain ⟨xs,g0,rp⟩:=ll hp e0
     cases r2 with
     | @tup _ xs2 ds2 hp2 rp2=>exact (nl (SqT.of hp2) g0).elim
     | @con _ xs2 ds2 hp2 rp2=>exact (nl hp2.sq g0).elim
     |err _ _ _=>simp[eqF,kd,e0] at e
     |dk _=>simp[eqF,kd,e0] at e
     |dt _=>simp[eqF,kd,e0] at e
     |fn _=>simp[eqF,kd,e0] at e
     | @rol _ xs2 ds2 hp2 rp2=>
      cases I.list_inj g0 hp2.sq
      simp only[eqF,kd,e0,eqK,if_pos (rp.length.symm.trans rp2.length)] at e
      exact lists _ _ _ _ rp rp2 e
     | @ref _ n2 hp2=>
      cases e1:M[n2]? with
      |none=>simp only[eqF,kd,e0,e1] at e;cases e
      |some o=>
       cases o with
       |lst ds2=>
        obtain ⟨ys,g,r⟩:=ll hp2 e1
        cases I.list_inj g0 g
        simp only[eqF,kd,e0,e1,eqK,if_pos (rp.length.symm.trans r.length)] at e
        exact lists _ _ _ _ rp r e
end
end DL
end
section
namespace DL
open PySem PySem.Spec PyProof.Rows L2
open PySem.SeqAt (EqAt RcAt RcNeAt)
section
variable {X:Cx} {ξ:XK} {pins:List (Addr × Obj)} {σ:L2.St} {H:Hp} {s:Shared} {α:List Addr} {M:Sto}
theorem Zc4 {A:Around} {n:Nat} {xs1 xs2:List V} {ds1 ds2:List D} {i1 i2:List Value} {b:Bool} (v1:ZJ xs1 i1) (v2:ZJ xs2 i2) (r1:Reps X.K H α xs1 ds1) (r2:Reps X.K H α xs2 ds2)
  (ih: ∀ (x y:D) (v w:V) (u z:Value) (b:Bool),eqF n M x y=some b->Rep X.K H α v x->Rep X.K H α w y->ZC v u->ZC w z->EqAt A s u z b) (e:eqL (eqF n M) ds1 ds2=some b):
  ∃ f:Nat->Bool,(∀ (j:Nat) (h1:j < i1.toArray.size) (h2:j < i2.toArray.size),EqAt A s i1.toArray[j] i2.toArray[j] (f j))/\b=((List.range (min i1.toArray.size i2.toArray.size)).all f && i1.toArray.size == i2.toArray.size):=by
 obtain ⟨g1,g2⟩:=Zei e
 have l1:i1.toArray.size=ds1.length:=by rw[List.size_toArray,<- v1.length,r1.length]
 have l2:i2.toArray.size=ds2.length:=by rw[List.size_toArray,<- v2.length,r2.length]
 refine ⟨_,fun j h1 h2=> ?_,by rw[l1,l2];exact g2⟩
 have k1:j < ds1.length:=by rw[<- l1];exact h1
 have k2:j < ds2.length:=by rw[<- l2];exact h2
 obtain ⟨c,hc⟩:=g1 j _ _ (List.getElem?_eq_getElem k1) (List.getElem?_eq_getElem k2)
 obtain ⟨v,a1,a2⟩:=r1.get (List.getElem?_eq_getElem k1)
 obtain ⟨w,b1,b2⟩:=r2.get (List.getElem?_eq_getElem k2)
 obtain ⟨u,a3,a4⟩:=v1.get a1
 obtain ⟨z,b3,b4⟩:=v2.get b1
 have q:=ih _ _ v w u z c hc a2 b2 a4 b4
 simp only[List.getElem?_eq_getElem k1,List.getElem?_eq_getElem k2,hc,Option.getD_some]
 have e1:i1.toArray[j]=u:=by
  have:=List.getElem?_eq_some_iff.mp a3
  obtain ⟨_,z⟩:=this
  simpa using z
 have e2:i2.toArray[j]=z:=by
  have:=List.getElem?_eq_some_iff.mp b3
  obtain ⟨_,z⟩:=this
  simpa using z
 rw[e1,e2]
 exact q
theorem Zej (I:Inv X pins σ H s) (h:HR X.K H α M) {n:Nat} {x y:D} {v w:V} {p q:Addr} {b:Bool} {A:Around} (e:eqF n M x y=some b) (rx:Rep X.K H α v x) (ry:Rep X.K H α w y) (rv:ZC v (.ref p)) (rw':ZC w (.ref q))
  (k:RcAt A s (.ref p) (.ref q) b) (k':RcNeAt A s (.ref p) (.ref q) (!b)):Eq3 A s (.ref p) (.ref q) b:=by
 refine ⟨?_,k,k'⟩
 by_cases c:p=q
 ·subst c
  cases ZC.inj rv rw'
  rw[Zfi I h n rx ry e]
  exact EqAt.same _
 ·exact EqAt.of_refs c k
theorem eq3 (I:Inv X pins σ H s) (h:HR X.K H α M): ∀ (n:Nat) (x y:D) (v w:V) (u z:Value) (b:Bool) (A:Around),A.units + n < cLine->eqF n M x y=some b->Rep X.K H α v x->Rep X.K H α w y->ZC v u->ZC w z->Eq3 A s u z b:=by
 intro n
 induction n with
 |zero=>intro x y v w u z b A _ e;simp only[eqF] at e;cases e
 |succ n ih=>
  intro x y v w u z b A hn e rx ry rv rw'
  have hu:A.units < cLine:=by omega
  have e0:=e
  unfold eqF at e
  cases ka:kd M x with
  |none=>rw[ka] at e;cases e
  |some ka'=>
   cases kb:kd M y with
   |none=>rw[ka,kb] at e;cases e
   |some kb'=>
    rw[ka,kb] at e
    have va:=vw I h rx rv ka
    have vb:=vw I h ry rw' kb
    have deep: ∀ (x y:D) (v w:V) (u z:Value) (b:Bool),eqF n M x y=some b->Rep X.K H α v x->Rep X.K H α w y->ZC v u->ZC w z->EqAt A.in1 s u z b:=fun x y v w u z b e a1 a2 a3 a4=>
     (ih x y v w u z b A.in1 (by rw[Around.in1_units];omega) e a1 a2 a3 a4).1
    cases va with
    |non=>
     cases vb<;>simp only[eqK,Option.some.injEq] at e<;>subst e
     ·exact ⟨EqAt.same _,.none_none,.none_none⟩
     ·exact ⟨.none_bool _,.none_bool _,.none_bool _⟩
     ·exact ⟨.none_int _ _,.none_int _ _,.none_int _ _⟩
     ·exact ⟨.none_str _ _,.none_str _ _,.none_str _ _⟩
     ·rename_i g _ _;exact ⟨.none_tuple g hu,.none_tuple g hu,.none_tuple g hu⟩
     ·rename_i g _ _;exact ⟨.none_list g hu,.none_list g hu,.none_list g hu⟩
    |bl c=>
     cases vb<;>simp only[eqK,Option.some.injEq] at e<;>subst e
     ·exact ⟨.bool_none _,.bool_none _,.bool_none _⟩
     ·exact ⟨.bool_bool _ _,.bool_bool _ _,.bool_bool _ _⟩
     ·exact ⟨.bool_int _ _ _,.bool_int _ _ _,.bool_int _ _ _⟩
     ·exact ⟨.bool_str _ _ _,.bool_str _ _ _,.bool_str _ _ _⟩
     ·rename_i g _ _;exact ⟨.bool_tuple _ g hu,.bool_tuple _ g hu,.bool_tuple _ g hu⟩
     ·rename_i g _ _;exact ⟨.bool_list _ g hu,.bool_list _ g hu,.bool_list _ g hu⟩
    |int c t=>
     cases vb<;>simp only[eqK,Option.some.injEq] at e<;>subst e
     ·exact ⟨.int_none _ _,.int_none _ _,.int_none _ _⟩
     ·exact ⟨.int_bool _ _ _,.int_bool _ _ _,.int_bool _ _ _⟩
     ·exact ⟨.int_int _ _ _ _,.int_int _ _ _ _,.int_int _ _ _ _⟩
     ·exact ⟨.int_str _ _ _ _,.int_str _ _ _ _,.int_str _ _ _ _⟩
     ·rename_i g _ _;exact ⟨.int_tuple _ _ g hu,.int_tuple _ _ g hu,.int_tuple _ _ g hu⟩
     ·rename_i g _ _;exact ⟨.int_list _ _ g hu,.int_list _ _ g hu,.int_list _ _ g hu⟩
    |str c t=>
     cases vb<;>simp only[eqK,Option.some.injEq] at e<;>subst e
     ·exact ⟨.str_none _ _,.str_none _ _,.str_none _ _⟩
     ·exact ⟨.str_bool _ _ _,.str_bool _ _ _,.str_bool _ _ _⟩
     ·exact ⟨.str_int _ _ _ _,.str_int _ _ _ _,.str_int _ _ _ _⟩
     ·exact ⟨.str_str _ _ _ _,.str_str _ _ _ _,.str_str _ _ _ _⟩
     ·rename_i g _ _;exact ⟨.str_tuple _ _ g hu,.str_tuple _ _ g hu,.str_tuple _ _ g hu⟩
     ·rename_i g _ _;exact ⟨.str_list _ _ g hu,.str_list _ _ g hu,.str_list _ _ g hu⟩
    | @tup p xs ds its g1 w1 q1=>
     cases vb with
     | @tup p2 xs2 ds2 its2 g2 w2 q2=>
      simp only[eqK] at e
      obtain ⟨f,hf,hb⟩:=Zc4 w1 w2 q1 q2 deep e
      subst hb
      exact Zej I h e0 rx ry rv rw' (.tuples g1 g2 hu hf) (.tuples g1 g2 hu hf)
     | @lst p2 xs2 ds2 its2 g2 w2 q2=>
      simp only[eqK,Option.some.injEq] at e
      subst e
      exact Zej I h e0 rx ry rv rw' (.tuple_list g1 g2 hu) (.tuple_list g1 g2 hu)
     |non=>simp only[eqK,Option.some.injEq] at e;subst e;exact ⟨.tuple_none g1 hu,.tuple_none g1 hu,.tuple_none g1 hu⟩
     |bl c=>simp only[eqK,Option.some.injEq] at e;subst e;exact ⟨.tuple_bool _ g1 hu,.tuple_bool _ g1 hu,.tuple_bool _ g1 hu⟩
     |int c t=>simp only[eqK,Option.some.injEq] at e;subst e;exact ⟨.tuple_int _ _ g1 hu,.tuple_int _ _ g1 hu,.tuple_int _ _ g1 hu⟩
     |str c t=>simp only[eqK,Option.some.injEq] at e;subst e;exact ⟨.tuple_str _ _ g1 hu,.tuple_str _ _ g1 hu,.tuple_str _ _ g1 hu⟩
    | @lst p xs ds its g1 w1 q1=>
     cases vb with
     | @lst p2 xs2 ds2 its2 g2 w2 q2=>
      simp only[eqK] at e
      have l1:its.toArray.size=ds.length:=by rw[List.size_toArray,<- w1.length,q1.length]
      have l2:its2.toArray.size=ds2.length:=by rw[List.size_toArray,<- w2.length,q2.length]
      by_cases c:ds.length=ds2.length
      ·rw[if_pos c] at e
       have hs:its.toArray.size=its2.toArray.size:=by rw[l1,l2,c]
       obtain ⟨f,hf,hb⟩:=Zc4 w1 w2 q1 q2 deep e
       rw[hs,Nat.min_self,beq_self_eq_true,Bool.and_true,<- hs] at hb
       subst hb
       exact Zej I h e0 rx ry rv rw' (.lists g1 g2 hs hu hf) (.lists g1 g2 hs hu hf)
      ·rw[if_neg c] at e
       have e':false=b:=Option.some.inj e
       subst e'
       have hs:(its.toArray.size != its2.toArray.size)=true:=by rw[l1,l2];simpa using c
       exact Zej I h e0 rx ry rv rw' (.lists_lengths g1 g2 hs hu) (.lists_lengths g1 g2 hs hu)
     | @tup p2 xs2 ds2 its2 g2 w2 q2=>
      simp only[eqK,Option.some.injEq] at e
      subst e
      exact Zej I h e0 rx ry rv rw' (.list_tuple g1 g2 hu) (.list_tuple g1 g2 hu)
     |non=>simp only[eqK,Option.some.injEq] at e;subst e;exact ⟨.list_none g1 hu,.list_none g1 hu,.list_none g1 hu⟩
     |bl c=>simp only[eqK,Option.some.injEq] at e;subst e;exact ⟨.list_bool _ g1 hu,.list_bool _ g1 hu,.list_bool _ g1 hu⟩
     |int c t=>simp only[eqK,Option.some.injEq] at e;subst e;exact ⟨.list_int _ _ g1 hu,.list_int _ _ g1 hu,.list_int _ _ g1 hu⟩
     |str c t=>simp only[eqK,Option.some.injEq] at e;subst e;exact ⟨.list_str _ _ g1 hu,.list_str _ _ g1 hu,.list_str _ _ g1 hu⟩
end
section
variable {X:Cx} {ξ:XK}
noncomputable def ZkB (X:Cx) (neg:Bool):R2:=fun v w H Q=> ∃ α M x y b,HR X.K H α M/\Rep X.K H α v x/\Rep X.K H α w y/\eqF 12 M x y=some b/\Q (.bl (neg ^^ b)) H
theorem Zek (hu:X.A.units + 64 < cLine):OpR X (compareOp .Eq) (ZkB X false):=by
 intro pins s σ H v w u z Q I rv rw' ⟨α,M,x,y,b,h,rx,ry,e,q⟩
 refine (eq3 I h 12 x y v w u z b X.A (by omega) e rx ry rv rw').2.1 _ _ _ _ ⟨.bl b,H,I,rfl,?_⟩
 simpa using q
theorem Zf2 (hu:X.A.units + 64 < cLine):OpR X (compareOp .NotEq) (ZkB X true):=by
 intro pins s σ H v w u z Q I rv rw' ⟨α,M,x,y,b,h,rx,ry,e,q⟩
 refine (eq3 I h 12 x y v w u z b X.A (by omega) e rx ry rv rw').2.2 _ _ _ _ ⟨.bl (!b),H,I,rfl,?_⟩
 simpa using q
noncomputable def dEq:Bo:=fun x y M=>match eqF 12 M x y with | some b=> .ok (.bl b) M | none=> .bad
noncomputable def dNe:Bo:=fun x y M=>match eqF 12 M x y with | some b=> .ok (.bl (!b)) M | none=> .bad
theorem ZgP:BO X ξ (ZkB X false) dEq:=by
 intro H α M v w x y Q h rv rw' q
 unfold dEq at q
 cases e:eqF 12 M x y with
 |none=>rw[e] at q;exact q.elim
 |some b=>rw[e] at q;exact ⟨α,M,x,y,b,h,rv,rw',e,by simpa using q _ H α Ext.refl h (.bl b)⟩
theorem ZiG:BO X ξ (ZkB X true) dNe:=by
 intro H α M v w x y Q h rv rw' q
 unfold dNe at q
 cases e:eqF 12 M x y with
 |none=>rw[e] at q;exact q.elim
 |some b=>rw[e] at q;exact ⟨α,M,x,y,b,h,rv,rw',e,by simpa using q _ H α Ext.refl h (.bl (!b))⟩
noncomputable def Zel:V->Bool
 | .non=>true
 | .bl _=>true
 |_=>false
noncomputable def rIs (neg:Bool):R2:=fun v w H Q=>Zel w=true/\Q (.bl (neg ^^ decide (v=w))) H
theorem Zfj {v w:V} {u z:Value} (rv:ZC v u) (rw':ZC w z) (p:Zel w=true):plainIs u z=true/\(u == z)=decide (v=w):=by
 cases w with
 |non=>
  cases rw'
  cases v with
  |non=>cases rv;exact ⟨rfl,rfl⟩
  |bl b=>cases rv;exact ⟨rfl,by rw[decide_eq_false (fun z=>(nomatch z))];rfl⟩
  |int b=>obtain ⟨t,rfl⟩:=rv;exact ⟨rfl,by rw[decide_eq_false (fun z=>(nomatch z))];rfl⟩
  |str b=>obtain ⟨t,rfl⟩:=rv;exact ⟨rfl,by rw[decide_eq_false (fun z=>(nomatch z))];rfl⟩
  |byt b=>obtain ⟨t,rfl⟩:=rv;exact ⟨rfl,by rw[decide_eq_false (fun z=>(nomatch z))];rfl⟩
  |flt b=>obtain ⟨t,rfl⟩:=rv;exact ⟨rfl,by rw[decide_eq_false (fun z=>(nomatch z))];rfl⟩
  |ref b=>cases rv;exact ⟨rfl,by rw[decide_eq_false (fun z=>(nomatch z))];rfl⟩
  |ty b=>cases rv;exact ⟨rfl,by rw[decide_eq_false (fun z=>(nomatch z))];rfl⟩
 |bl c=>
  cases rw'
  cases v with
  |non=>cases rv;exact ⟨rfl,by rw[decide_eq_false (fun z=>(nomatch z))];rfl⟩
  |bl b=>cases rv;refine ⟨rfl,?_⟩;cases b<;>cases c<;>rfl
  |int b=>obtain ⟨t,rfl⟩:=rv;exact ⟨rfl,by rw[decide_eq_false (fun z=>(nomatch z))];rfl⟩
  |str b=>obtain ⟨t,rfl⟩:=rv;exact ⟨rfl,by rw[decide_eq_false (fun z=>(nomatch z))];rfl⟩
  |byt b=>obtain ⟨t,rfl⟩:=rv;exact ⟨rfl,by rw[decide_eq_false (fun z=>(nomatch z))];rfl⟩
  |flt b=>obtain ⟨t,rfl⟩:=rv;exact ⟨rfl,by rw[decide_eq_false (fun z=>(nomatch z))];rfl⟩
  |ref b=>cases rv;exact ⟨rfl,by rw[decide_eq_false (fun z=>(nomatch z))];rfl⟩
  |ty b=>cases rv;exact ⟨rfl,by rw[decide_eq_false (fun z=>(nomatch z))];rfl⟩
 |_=>cases p
theorem ZiH:OpR X (compareOp .Is) (rIs false):=by
 intro pins s σ H v w u z Q I rv rw' ⟨p,q⟩
 obtain ⟨h1,h2⟩:=Zfj rv rw' p
 refine wpAny_is_plain h1 ⟨.bl (u == z),H,I,rfl,?_⟩
 rw[h2]
 simpa using q
noncomputable def isP:D->D->Option Bool
 | .non,.non=>some true
 | .bl a,.bl b=>some (a == b)
 |_,.non=>some false
 |_,.bl _=>some false
 |_,_=>none
noncomputable def dIs:Bo:=fun x y M=>match isP x y with | some b=> .ok (.bl b) M | none=> .bad
noncomputable def Zf3:Bo:=fun x y M=>match isP x y with | some b=> .ok (.bl (!b)) M | none=> .bad
theorem ZiI {K:PySem.W.Frag} {H:Hp} {α:List Addr} {v w:V} {x y:D} {b:Bool} (rv:Rep K H α v x) (rw':Rep K H α w y) (e:isP x y=some b):Zel w=true/\decide (v=w)=b:=by
 unfold isP at e
 split at e
 ·cases rv;cases rw';cases e;exact ⟨rfl,rfl⟩
 ·rename_i c d
  cases rv;cases rw';cases e
  refine ⟨rfl,?_⟩
  cases c<;>cases d<;>rfl
 ·rename_i hx
  cases rw';cases e
  refine ⟨rfl,decide_eq_false fun z=> ?_⟩
  subst z
  cases rv
  exact hx rfl
 ·rename_i c hx
  cases rw';cases e
  refine ⟨rfl,decide_eq_false fun z=> ?_⟩
  subst z
  cases rv
  exact hx _ rfl
 ·cases e
theorem Zk6:BO X ξ (rIs false) dIs:=by
 intro H α M v w x y Q h rv rw' q
 unfold dIs at q
 cases e:isP x y with
 |none=>rw[e] at q;exact q.elim
 |some b=>
  rw[e] at q
  obtain ⟨p,d⟩:=ZiI rv rw' e
  exact ⟨p,by rw[d];simpa using q _ H α Ext.refl h (.bl b)⟩
noncomputable def ZiJ:D->Bool
 | .non=>true
 | .bl _=>true
 | .int _=>true
 | .str _=>true
 |_=>false
noncomputable def ZnM:D->D->Bool
 | .non,.non=>true
 | .bl a,.bl b=>a == b
 | .bl a,.int b=>(if a then 1 else 0) == b
 | .int a,.bl b=>a == (if b then 1 else 0)
 | .int a,.int b=>a == b
 | .str a,.str b=>a == b
 |_,_=>false
noncomputable def Zfk (M:Sto):D->Option (List D)
 | .tup xs=>some xs
 | .rol xs=>some xs
 | .con xs=>some xs
 | .ref n=>match M[n]? with | some (.lst xs)=>some xs | _=>none
 |_=>none
theorem ZgQ {K:PySem.W.Frag} {H:Hp} {α:List Addr} {M:Sto} (h:HR K H α M) {v:V} {x:D} {ds:List D} (r:Rep K H α v x) (e:Zfk M x=some ds): ∃ p xs,v= .ref p/\(SqL K H p xs\/SqT K H p xs)/\Reps K H α xs ds:=by
 cases r with
 | @tup p xs ds hp rp=>cases e;exact ⟨p,xs,rfl,.inr (SqT.of hp),rp⟩
 | @con p xs ds hp rp=>cases e;exact ⟨p,xs,rfl,.inr hp.sq,rp⟩
 | @rol p xs ds hp rp=>cases e;exact ⟨p,xs,rfl,.inl hp.sq,rp⟩
 | @ref p n hp=>
  cases e1:M[n]? with
  |none=>simp only[Zfk,e1] at e;cases e
  |some o=>
   cases o with
   |lst es=>
    simp only[Zfk,e1] at e
    cases e
    obtain ⟨xs,g1,r1⟩:=h.at hp e1
    exact ⟨p,xs,rfl,.inl (SqL.of g1),r1⟩
 |_=>cases e
noncomputable def inD (x y:D) (M:Sto):Option Bool:=match Zfk M y with | some ds=>if ZiJ x=true/\ds.all ZiJ=true then some (ds.any fun y=>ZnM y x) else none | none=>none
variable {e:Expr} {es:List Expr} {fs:Av} {fa:Ev} {p pos:Pos} {x:Str} {id T:String} {r:List V->Hp->VK->Prop} {f:List D->Sto->Out D}
noncomputable def Zq (f:List D->Sto->Out D) (fs:Av):Ev:=fun ρ M=>(fs ρ M).bind f
noncomputable def CO (X:Cx) (ξ:XK) (r:List V->Hp->VK->Prop) (f:List D->Sto->Out D):Prop:= ∀ H α M vs ds Q,HR X.K H α M->Reps X.K H α vs ds->OP X.K H α ξ Q (f ds M)->r vs H Q
theorem Zad (hc:Zbq X (.builtin id) r) (hf:CO X ξ r f) (hm:X.mg x=none) (hv:bootBuiltins x=some (.builtin id)) (ha:DA X ξ (e :: es) fs) (hg:Gl X x:=by rfl) (hn:x≠"__name__":=by decide) (hdb:(x == ("__debug__":Str))=false:=by decide)
  (he:starEach (e :: es) X.env=(false,eval e X.env) :: starEach es X.env:=by rfl) (hpl:(backTo pos (starEach es X.env)).any (·.1)=false:=by rfl):DE X ξ (.Call (.Name x p) (e :: es) [] pos) (Zq f fs):=by
 obtain ⟨ta,ha,qa⟩:=ha
 refine ⟨_,Zc0 hc hg hm hv ha hn hdb he hpl,fun σ ρ H α M Q s h q=> ?_⟩
 exact qa σ ρ H α M _ s h (OG.seq q fun ds M1 vs H1 α1 e1 h1 r1 q1=>hf H1 α1 M1 vs ds Q h1 r1 q1)
theorem Zem (hc:Zbq X (.type T) r) (hf:CO X ξ r f) (hm:X.mg x=none) (hv:bootBuiltins x=some (.type T)) (ha:DA X ξ (e :: es) fs) (hg:Gl X x:=by rfl) (hn:x≠"__name__":=by decide) (hdb:(x == ("__debug__":Str))=false:=by decide)
  (he:starEach (e :: es) X.env=(false,eval e X.env) :: starEach es X.env:=by rfl) (hpl:(backTo pos (starEach es X.env)).any (·.1)=false:=by rfl):DE X ξ (.Call (.Name x p) (e :: es) [] pos) (Zq f fs):=by
 obtain ⟨ta,ha,qa⟩:=ha
 refine ⟨_,ZdY hc hg hm hv ha hn hdb he hpl,fun σ ρ H α M Q s h q=> ?_⟩
 exact qa σ ρ H α M _ s h (OG.seq q fun ds M1 vs H1 α1 e1 h1 r1 q1=>hf H1 α1 M1 vs ds Q h1 r1 q1)
noncomputable def bLen:List D->Sto->Out D:=fun ds M=>match ds with
 | [x]=>match Zfk M x with | some xs=> .ok (.int xs.length) M | none=> .bad
 |_=> .bad
theorem Zf4:CO X ξ (fun xs H Q=> ∃ p ys,xs=[.ref p]/\(SqL X.K H p ys\/SqT X.K H p ys)/\Q (.int ys.length) H) bLen:=by
 intro H α M vs ds Q h rs q
 unfold bLen at q
 cases rs with
 |nil=>exact q.elim
 | @cons v x vs ds r t=>
  cases t with
  |cons _ _=>exact q.elim
  |nil=>
  cases e:Zfk M x with
  |none=>simp only[e] at q;exact q.elim
  |some ys=>
   simp only[e] at q
   obtain ⟨p,xs,rfl,h2,h3⟩:=ZgQ h r e
   exact ⟨p,xs,rfl,h2,by rw[h3.length];exact q _ H α Ext.refl h (.int _)⟩
noncomputable def bAbs:List D->Sto->Out D:=fun ds M=>match ds with | [.int i]=> .ok (.int (if i < 0 then -i else i)) M | _=> .bad
theorem Zen:CO X ξ (fun xs H Q=> ∃ i,xs=[.int i]/\Q (.int (if i < 0 then -i else i)) H) bAbs:=by
 intro H α M vs ds Q h rs q
 unfold bAbs at q
 split at q
 ·cases rs with
  |cons r t=>
   cases t
   cases r
   exact ⟨_,rfl,q _ H α Ext.refl h (.int _)⟩
 ·exact q.elim
noncomputable def bMax:List D->Sto->Out D:=fun ds M=>match ds with | [.int i,.int j]=> .ok (.int (if j > i then j else i)) M | _=> .bad
noncomputable def bMin:List D->Sto->Out D:=fun ds M=>match ds with | [.int i,.int j]=> .ok (.int (if j < i then j else i)) M | _=> .bad
theorem Zf5 {g:Int->Int->Int} {f:List D->Sto->Out D} (hf: ∀ ds M,f ds M=match ds with | [.int i,.int j]=> .ok (.int (g i j)) M | _=> .bad):CO X ξ (fun xs H Q=> ∃ i j,xs=[.int i,.int j]/\Q (.int (g i j)) H) f:=by
 intro H α M vs ds Q h rs q
 rw[hf] at q
 split at q
 ·rename_i i j
  cases rs with
  |cons r t=>
   cases t with
   |cons r' t'=>
    cases t'
    cases r
    cases r'
    exact ⟨i,j,rfl,q _ H α Ext.refl h (.int _)⟩
 ·exact q.elim
theorem ZiK:CO X ξ (fun xs H Q=> ∃ i j,xs=[.int i,.int j]/\Q (.int (if j > i then j else i)) H) bMax:=Zf5 (g:=fun i j=>if j > i then j else i) fun ds M=>rfl
theorem ZiL:CO X ξ (fun xs H Q=> ∃ i j,xs=[.int i,.int j]/\Q (.int (if j < i then j else i)) H) bMin:=Zf5 (g:=fun i j=>if j < i then j else i) fun ds M=>rfl
noncomputable def bInt:List D->Sto->Out D:=fun ds M=>match ds with | [.int i]=> .ok (.int i) M | [.bl k]=> .ok (.int (if k then 1 else 0)) M | _=> .bad
theorem ZiM:CO X ξ (fun xs H Q=>(∃ i,xs=[.int i]/\Q (.int i) H)\/ ∃ k,xs=[.bl k]/\Q (.int (if k then 1 else 0)) H) bInt:=by
 intro H α M vs ds Q h rs q
 unfold bInt at q
 split at q
 ·cases rs with
  |cons r t=>
   cases t
   cases r
   exact .inl ⟨_,rfl,q _ H α Ext.refl h (.int _)⟩
 ·cases rs with
  |cons r t=>
   cases t
   cases r
   exact .inr ⟨_,rfl,q _ H α Ext.refl h (.int _)⟩
 ·exact q.elim
noncomputable def ZgR:List D->Sto->Out D:=fun ds M=>match ds with
 | [x]=>match Zfk M x with | some xs=> .ok (.ref M.length) (M ++ [.lst xs]) | none=> .bad
 |_=> .bad
noncomputable def ZaY (M:Sto) (x:D):Option String:=match kd M x with
 |some .non=>some "NoneType"
 |some (.bl _)=>some "bool"
 |some (.int _)=>some "int"
 |some (.str _)=>some "str"
 |some (.tup _)=>some "tuple"
 |some (.lst _)=>some "list"
 |none=>none
noncomputable def ZcH (t T:String):Bool:=t == T || (t == "bool" && T == "int")
noncomputable def ZmG (T:String) (f:Ev):Ev:=fun ρ M=>(f ρ M).bind fun x M1=>match ZaY M1 x with | some t=> .ok (.bl (ZcH t T)) M1 | none=> .bad
end
end DL
end
section
namespace DL
open PySem PySem.Spec PyProof.Rows L2
noncomputable def CXE (P:Program) (w:World):CXT:=fun outer H s E e s'=> ∃ (ea C:Addr) (dct:Option Addr) (B:Heap) (H':Hp),e= .ref ea/\s'.os=s.os/\AllBare s'.gens/\Un (frs outer) [] H H' s.heap s'.heap/\HOk P w H' s'.heap/\
 DQ.Fly B outer ea (.ref C) dct .none s'.heap/\(∀ b u,H' b=some u-> ∃ o,B.get? b=some o)/\(∀ b o,s.heap.get? b=some o->b ∉ frs outer-> ∃ o',B.get? b=some o')/\E (.ref C) dct H'
structure Thr (X:Cx) (ξ:XK):Prop where
 own:PassesOwn (model X.prog X.w) X.A X.env X.xe
 ps:ZdW (CXE X.prog X.w) X ξ
 mak: ∀ (pins:List (Addr × Obj)) (σ:L2.St) (H:Hp) (s:Shared) (h':Heap) (e:Addr) (oe:Obj) (vs:Array Value) (C:Addr),Inv X pins σ H s->(∀ b o,s.heap.get? b=some o->h'.get? b=some o)->s.heap.get? e=none->h'.get? e=some oe->oe.cls= .ref C->oe.dict=none->
  oe.data= .fields vs->vs[1]?=some .none->vs[2]?=some .none->ξ (.ref C) none H->X.xe (.ref e) { s with heap:=h' }
theorem Zbe {h b1 b2:Heap}: ∀ {l:List Env},h.FunFrames b1 l->(∀ b∈frs l,b2.get? b=none)->h.FunFrames b2 l
 | [],_,_=>trivial
 |env :: r,⟨h1,⟨L,o,h2,h3,h4,h5⟩,h6⟩,k=>⟨h1,⟨L,o,h2,k L (by unfold frs;rw[List.filterMap_cons,h2];exact List.mem_cons_self),h4,h5⟩,Zbe h6 fun b hb=>k b (by
   unfold frs
   rw[List.filterMap_cons,h2]
   exact List.mem_cons_of_mem _ hb)⟩
section
variable {X:Cx} {pins:List (Addr × Obj)} {σ:L2.St} {H H':Hp} {s:Shared} {h1 h2 B:Heap}
theorem Zf6 (hx:X.ex=[]) (I:Inv X pins σ H s) (u:Un (frs X.stack) [] H H' s.heap h1) (hok:HOk X.prog X.w H' h1) (t1: ∀ b q,H' b=some q-> ∃ o,B.get? b=some o) (t2: ∀ b o,s.heap.get? b=some o->b ∉ frs X.stack-> ∃ o',B.get? b=some o')
  (st1:B.StaysIn h1) (st2:B.StaysIn h2) (up:h1.UpToSlots h2):Un X.fs [] X.H₀ H' X.s₀.heap h2/\HOk X.prog X.w H' h2/\ ∀ b o,X.s₀.heap.get? b=some o->b ∉ X.fs-> ∃ o',B.get? b=some o':=by
 have kB: ∀ b ob o,B.get? b=some ob->h1.get? b=some o->h2.get? b=some o:=fun b ob o e x=>by
  have z:=st1 b ob e
  rw[x] at z
  cases z
  exact st2 b _ e
 have nx: ∀ b,b ∉ X.ex:=fun b=>by rw[hx];simp
 have nL: ∀ b o,X.s₀.heap.get? b=some o->b ∉ X.fs->b ∉ frs X.stack:=fun b o e n z=>by
  rcases List.mem_cons.mp (I.stkSub b z) with q | q
  ·exact absurd (Heap.lt_size e) (by rw[q];exact Nat.not_lt_of_le I.ok.above)
  ·exact n q
 have th: ∀ b o,X.s₀.heap.get? b=some o->b ∉ X.fs-> ∃ o',B.get? b=some o':=fun b o e n=>by
  obtain ⟨o',e'⟩:=I.base.there b o e (nx b)
  exact t2 b o' e' (nL b o e n)
 have sl: ∀ b o,X.s₀.heap.get? b=some o->X.H₀ b=none->b∈X.fs-> ∃ sl,h2.get? b=some { o with slots:=sl }:=fun b o e n hb=>by
  obtain ⟨s1,e1⟩:=I.base.slot b o e n hb (nx b)
  obtain ⟨s2,e2⟩:=u.any e1 (I.base.free b o e n (nx b)) (by simp)
  obtain ⟨_,o',g1,g2⟩:=I.ok.funs.mem hb
  rw[e] at g1
  cases g1
  obtain ⟨s3,e3⟩:=up b _ e2 g2
  exact ⟨s3,e3⟩
 refine ⟨⟨fun b o e n hb _=> ?_,fun b o e n hb _=>sl b o e n hb,fun b o e n _=> ?_,fun b o e _=> ?_,fun b xs e=>u.tups b xs (I.base.tups b xs e),fun b o xs e=>u.frzs b o xs (I.base.frzs b o xs e),fun b ps e=> ?_⟩,fun a o e=> ?_,th⟩
 ·obtain ⟨ob,g⟩:=th b o e hb
  exact kB b ob o g (u.keep b o (I.base.keep b o e n hb (nx b)) (I.base.free b o e n (nx b)) (nL b o e hb) (by simp))
 ·obtain ⟨o',e'⟩:=I.base.there b o e (nx b)
  exact u.free b o' e' (I.base.free b o e n (nx b)) (by simp)
 ·by_cases hb:b∈X.fs
  ·obtain ⟨s1,e1⟩:=sl b o e (I.ok.frf b hb) hb
   exact ⟨_,e1⟩
  ·obtain ⟨ob,g⟩:=th b o e hb
   exact ⟨ob,st2 b ob g⟩
 ·obtain ⟨m1,e1⟩:=I.base.tbls b ps e
  obtain ⟨m2,e2⟩:=u.tbls b _ e1
  exact ⟨m1 ++ m2,by rw[e2,Array.append_assoc]⟩
 ·refine (hok a o e).stay (fun b q hb x=> ?_) (fun _ q=>q) fun _ _ q=>q
  have tr: ∃ q,H' b=some q:=by
   rcases hb with z | z
   ·exact ⟨o,z ▸ e⟩
   ·exact ⟨_,z⟩
  obtain ⟨q',z⟩:=tr
  obtain ⟨ob,g⟩:=t1 b q' z
  exact kB b ob q g x
end
theorem ZbO {P:Program} {w:World} {H:Hp} {h:Heap} {a:Addr} {o:HO} (x:Z2 P w H h a o): ∃ ob,h.get? a=some ob:=by
 cases o with
 |lst xs=>obtain ⟨_,_,_,_,e⟩:=x;exact ⟨_,e⟩
 |tup xs=>obtain ⟨_,_,_,ob,e,_⟩:=x;exact ⟨_,e⟩
 |dK kvs=>obtain ⟨_,_,_,_,o,_,_,e,_⟩:=x;exact ⟨_,e⟩
 |dT kvs=>obtain ⟨_,_,_,_,o,_,_,e,_⟩:=x;exact ⟨_,e⟩
 |set S n=>obtain ⟨o,_,_,_,e,_⟩:=x;exact ⟨_,e⟩
 |ins C dx fs=>obtain ⟨_,_,_,e,_⟩:=x;exact ⟨_,e⟩
 |own y=>exact x
 |xd fs=>obtain ⟨_,⟨_,_,_,e,_⟩,_⟩:=x;exact ⟨_,e⟩
 |rng lo hi=>obtain ⟨_,_,_,e⟩:=x;exact ⟨_,e⟩
 |frz ob u=>obtain ⟨e,_⟩:=x;exact ⟨_,e⟩
 |tbl ps=>exact ⟨_,(show h.get? a=some _ from x)⟩
 |met f y=>exact ⟨_,(show h.get? a=some _ from x)⟩
 |ext φ=>obtain ⟨_,e,_⟩:=x;exact e
noncomputable def Zcb (h:Heap) (l:List Addr):Heap:=ZeU h fun b=>if b∈l then some (.own 0) else none
theorem Za6 {h:Heap} {l:List Addr} {b:Addr} {o:Obj} (e:h.get? b=some o) (n:b ∉ l):(Zcb h l).get? b=some o:=ZcW e (if_neg n)
theorem Zbf {h:Heap} {l:List Addr} {b:Addr} {o:Obj} (e:(Zcb h l).get? b=some o):h.get? b=some o/\b ∉ l:=by
 obtain ⟨a,n⟩:=ZdK e
 refine ⟨a,fun z=> ?_⟩
 simp only[if_pos z] at n
 cases n
theorem Zcc {h:Heap} {l:List Addr} {b:Addr} (n:b∈l):(Zcb h l).get? b=none:=by
 cases q:(Zcb h l).get? b with
 |none=>rfl
 |some o=>exact absurd n (Zbf q).2
theorem ZiN {P:Program} {w:World} {K:PySem.W.Frag} {mg:Str->Option Value} {base:Heap} {N:List Str} {qual:Str} {scope:Scope} {f:Addr} {cd:Value} {A:Around} {outer:List Env} {s:Shared} {H:Hp} {E:XK}:
  Thr (Zcu (CXE P w) P w K mg base N qual scope f cd A outer s H E) E:=by
 refine ⟨PassesOwn.leaving,fun pins σ H1 s1 e s2 I h=> ?_,fun pins σ H1 s1 h' e oe vs C I k hn he hc hdi hd v1 v2 q=> ?_⟩
 ·obtain ⟨ea,C,dct,B,H2,rfl,os,bare,un,hok,fl,t1,t2,q⟩:=h
  refine DQ.Zd8 (outer:=outer) I.ok.frames rfl fl fun h3 f3 up=> ?_
  obtain ⟨a1,a2,a3⟩:=Zf6 rfl I un hok t1 t2 fl.stay f3.stay up
  exact ⟨ea,C,dct,B,H2,rfl,os.trans I.os,bare,a1,a2,f3,t1,a3,q⟩
 ·have st:=I.stack
  have t2: ∀ b o,s1.heap.get? b=some o->b ∉ frs (Zcu (CXE P w) P w K mg base N qual scope f cd A outer s H E).stack-> ∃ o',(Zcb s1.heap (frs (Zcu (CXE P w) P w K mg base N qual scope f cd A outer s H E).stack)).get? b=some o':=fun b o x n=>⟨o,Za6 x n⟩
  have hs:(Zcb s1.heap (frs (Zcu (CXE P w) P w K mg base N qual scope f cd A outer s H E).stack)).StaysIn h':=fun b o x=>k b o (Zbf x).1
  have hl:h'.FunFrames (Zcb s1.heap (frs (Zcu (CXE P w) P w K mg base N qual scope f cd A outer s H E).stack)) (Zcu (CXE P w) P w K mg base N qual scope f cd A outer s H E).stack:=
   (Zbe st fun b hb=>Zcc hb).of_keeps fun b o x _=>⟨o,k b o x,rfl⟩
  have hb:(Zcb s1.heap (frs (Zcu (CXE P w) P w K mg base N qual scope f cd A outer s H E).stack)).get? e=none:=by
   cases z:(Zcb s1.heap (frs (Zcu (CXE P w) P w K mg base N qual scope f cd A outer s H E).stack)).get? e with
   |none=>rfl
   |some o=>
    have:=(Zbf z).1
    rw[hn] at this
    cases this
  have t1: ∀ b u,H1 b=some u-> ∃ o,(Zcb s1.heap (frs (Zcu (CXE P w) P w K mg base N qual scope f cd A outer s H E).stack)).get? b=some o:=fun b u x=>by
   obtain ⟨o,g⟩:=ZbO (I.hok b u x)
   exact ⟨o,Za6 g fun z=>by rw[I.stkFree b z] at x;cases x⟩
  refine DQ.Zd9 (s:={ s1 with heap:=h' }) (outer:=outer) I.ok.frames rfl hl he hs hb hd v1 v2 fun h3 f3 up=> ?_
  obtain ⟨a1,a2,a3⟩:=Zf6 rfl I (Un.kept k) (I.hok.kept k) t1 t2 hs f3.stay up
  rw[hc,hdi] at f3
  exact ⟨e,C,none,_,H1,rfl,I.os,I.bare,a1,a2,f3,t1,a3,q⟩
end DL
end
section
namespace DL
open PySem PySem.Spec PyProof.Rows L2
noncomputable def FP (K:PySem.W.Frag) (H:Hp) (α:List Addr) (ξ:XK) (Dn:Ends):Fl->Prop
 | .nx ρ' M'=> ∀ σ' H' α',Ext K H H' α α'->HR K H' α' M'->SR K H' α' σ' ρ'->Dn.nx σ' H'
 | .brk ρ' M'=> ∀ σ' H' α',Ext K H H' α α'->HR K H' α' M'->SR K H' α' σ' ρ'->Dn.bk σ' H'
 | .cnt ρ' M'=> ∀ σ' H' α',Ext K H H' α α'->HR K H' α' M'->SR K H' α' σ' ρ'->Dn.ct σ' H'
 | .ret d M'=> ∀ v H' α',Ext K H H' α α'->HR K H' α' M'->Rep K H' α' v d->Dn.rt v H'
 | .exc c M'=> ∀ C H' α',PySem.W.nsIn K mainGlobals c=some (some (.ref C))->Ext K H H' α α'->HR K H' α' M'->ξ (.ref C) none H'
 | .bad=>False
theorem FP.ext {K:PySem.W.Frag} {H H1:Hp} {α α1:List Addr} {ξ:XK} {Dn:Ends} {o:Fl} (h:FP K H α ξ Dn o) (e:Ext K H H1 α α1):FP K H1 α1 ξ Dn o:=by
 cases o with
 |nx ρ M=>exact fun σ' H' α' e'=>h σ' H' α' (e.trans e')
 |brk ρ M=>exact fun σ' H' α' e'=>h σ' H' α' (e.trans e')
 |cnt ρ M=>exact fun σ' H' α' e'=>h σ' H' α' (e.trans e')
 |ret d M=>exact fun v H' α' e'=>h v H' α' (e.trans e')
 |exc c M=>exact fun C H' α' n e'=>h C H' α' n (e.trans e')
 |bad=>exact h
noncomputable def DS (X:Cx) (ξ:XK) (st:Stmt) (g:Sv):Prop:= ∃ t:TS,PS X st t/\ ∀ σ ρ H α M Dn,SR X.K H α σ ρ->HR X.K H α M->FP X.K H α ξ Dn (g ρ M)->t Dn σ H
noncomputable def DSs (X:Cx) (ξ:XK) (st:List Stmt) (g:Sv):Prop:= ∃ t:TS,PSs X st t/\ ∀ σ ρ H α M Dn,SR X.K H α σ ρ->HR X.K H α M->FP X.K H α ξ Dn (g ρ M)->t Dn σ H
noncomputable def Zaq {β:Type} (o:Out β) (k:β->Sto->Fl):Fl:=match o with
 | .ok a M=>k a M
 | .exc c M=> .exc c M
 | .bad=> .bad
theorem FP.seq {β γ:Type} {K:PySem.W.Frag} {R:Hp->List Addr->γ->β->Prop} {H:Hp} {α:List Addr} {ξ:XK} {Dn:Ends} {Q1:γ->Hp->Prop} {o:Out β} {f:β->Sto->Fl}
  (h:FP K H α ξ Dn (Zaq o f)) (k: ∀ d M' v H' α',Ext K H H' α α'->HR K H' α' M'->R H' α' v d->FP K H' α' ξ Dn (f d M')->Q1 v H'):OG K R H α ξ Q1 o:=by
 cases o with
 |ok d M'=>exact fun v H' α' e hr r=>k d M' v H' α' e hr r (FP.ext (o:=f d M') h e)
 |exc c M'=>exact h
 |bad=>exact h
noncomputable def ZS (g h:Sv):Sv:=fun ρ M=>match g ρ M with
 | .nx ρ1 M1=>h ρ1 M1
 |o=>o
noncomputable def sNil:Sv:=fun ρ M=> .nx ρ M
noncomputable def ZaP (f:Ev):Sv:=fun ρ M=>Zaq (f ρ M) fun d M1=> .ret d M1
noncomputable def Zk7:Sv:=fun _ M=> .ret .non M
noncomputable def Zcd (f:Ev):Sv:=fun ρ M=>Zaq (f ρ M) fun _ M1=> .nx ρ M1
noncomputable def sIf (c:Tv) (g h:Sv):Sv:=fun ρ M=>Zaq (c ρ M) fun k M1=>if k=true then g ρ M1 else h ρ M1
noncomputable def ZnN:Sv:=fun ρ M=> .brk ρ M
noncomputable def ZnO:Sv:=fun ρ M=> .cnt ρ M
noncomputable abbrev Tg:=D->Ro->Option Ro
noncomputable abbrev Tgs:=List D->Ro->Option Ro
noncomputable def gNm (i:Nat):Tg:=fun d ρ=>some (ρ.set i (some d))
noncomputable def gNl:Tgs:=fun ds ρ=>match ds with | []=>some ρ | _=>none
noncomputable def gCs (g:Tg) (gs:Tgs):Tgs:=fun ds ρ=>match ds with | d :: r=>(match g d ρ with | some ρ1=>gs r ρ1 | none=>none) | []=>none
noncomputable def gTp (gs:Tgs):Tg:=fun d ρ=>match d with | .tup ds=>gs ds ρ | _=>none
noncomputable def Zao (g:Tg) (f:Ev):Sv:=fun ρ M=>Zaq (f ρ M) fun d M1=>match g d ρ with | some ρ1=> .nx ρ1 M1 | none=> .bad
noncomputable def ZcI (i j:Nat) (fs:Av):Sv:=fun ρ M=>Zaq (fs ρ M) fun ds M1=>match ds with | [v,w]=> .nx ((ρ.set i (some v)).set j (some w)) M1 | _=> .bad
noncomputable def ZhK (fo fi fe:Ev):Sv:=fun ρ M=>Zaq (fe ρ M) fun d M1=>Zaq (fo ρ M1) fun o M2=>Zaq (fi ρ M2) fun i M3=>match o,i with
 | .ref n,.int k=>(match M3[n]? with
  |some (.lst xs)=>(match ixN xs.length k with | some j=> .nx ρ (M3.set n (.lst (xs.set j d))) | none=> .bad)
  |_=> .bad)
 |_,_=> .bad
section
variable {X:Cx} {ξ:XK} {st:Stmt} {sts:List Stmt} {g h:Sv} {e:Expr} {f:Ev} {pos:Pos} {c:Expr} {fc:Tv}
theorem Z4:DSs X ξ [] sNil:=⟨_,Zgk,fun σ ρ H α M Dn s h q=>q σ H α Ext.refl h s⟩
theorem Zf (h1:DS X ξ st g) (h2:DSs X ξ sts h):DSs X ξ (st :: sts) (ZS g h):=by
 obtain ⟨t1,p1,q1⟩:=h1
 obtain ⟨t2,p2,q2⟩:=h2
 refine ⟨_,ZeX p1 p2,fun σ ρ H α M Dn s hh q=>q1 σ ρ H α M { Dn with nx:=t2 Dn } s hh ?_⟩
 unfold ZS at q
 cases e:g ρ M with
 |nx ρ1 M1=>rw[e] at q;exact fun σ' H' α' ex hr sr=>q2 σ' ρ1 H' α' M1 Dn sr hr (FP.ext q ex)
 |brk ρ1 M1=>rw[e] at q;exact q
 |cnt ρ1 M1=>rw[e] at q;exact q
 |ret d M1=>rw[e] at q;exact q
 |exc c M1=>rw[e] at q;exact q
 |bad=>rw[e] at q;exact q
theorem Zj (h1:DS X ξ st g):DSs X ξ [st] g:=let ⟨_,p,q⟩:=h1;⟨_,Zgl p,q⟩
theorem Zx (he:DE X ξ e f):DS X ξ (.Return (some e) pos) (ZaP f):=by
 obtain ⟨t,p,q⟩:=he
 exact ⟨_,ZhZ p,fun σ ρ H α M Dn s hh w=>q σ ρ H α M _ s hh (FP.seq w fun d M1 v H1 α1 e1 h1 r1 w1=>w1 v H1 α1 Ext.refl h1 r1)⟩
theorem Zbg (he:DE X ξ e f) (hs:swapsWith e none pos.line X.env=pure false:=by rfl):DS X ξ (.Expr e pos) (Zcd f):=by
 obtain ⟨t,p,q⟩:=he
 exact ⟨_,Zgm p hs,fun σ ρ H α M Dn s hh w=>q σ ρ H α M _ s hh (FP.seq w fun d M1 v H1 α1 e1 h1 r1 w1=>w1 σ H1 α1 Ext.refl h1 (s.mono e1))⟩
theorem Zbh {a b:List Stmt} (hc:DT X ξ c fc) (ha:DSs X ξ a g) (hb:DSs X ξ b h):DS X ξ (.If c a b pos) (sIf fc g h):=by
 obtain ⟨tc,pc,qc⟩:=hc
 obtain ⟨ta,pa,qa⟩:=ha
 obtain ⟨tb,pb,qb⟩:=hb
 refine ⟨_,ZkK pc pa pb,fun σ ρ H α M Dn s hh w=>qc σ ρ H α M _ s hh (FP.seq w fun k M1 v H1 α1 e1 h1 r1 w1=> ?_)⟩
 cases r1
 cases k with
 |true=>exact Zim (qa σ ρ H1 α1 M1 Dn (s.mono e1) h1 w1)
 |false=>exact Zil (qb σ ρ H1 α1 M1 Dn (s.mono e1) h1 w1)
noncomputable def DG (X:Cx) (tg:Expr) (g:Tg):Prop:= ∃ t:TG,PG X tg t/\ ∀ v d σ ρ H α ρ' Q,SR X.K H α σ ρ->Rep X.K H α v d->g d ρ=some ρ'->(∀ σ',SR X.K H α σ' ρ'->Q σ' H)->t v σ H Q
noncomputable def DGs (X:Cx) (tgs:List Expr) (g:Tgs):Prop:= ∃ t:TGs,PGs X tgs t/\ ∀ vs ds σ ρ H α ρ' Q,SR X.K H α σ ρ->Reps X.K H α vs ds->g ds ρ=some ρ'->(∀ σ',SR X.K H α σ' ρ'->Q σ' H)->t vs σ H Q
theorem ZF (i:Nat) {x:Str} (hN:X.N.Nodup) (hi:X.N[i]?=some x:=by rfl) (hx:Loc X.env.scope x:=by first | exact Or.inl rfl | exact Or.inr rfl) (hf:X.fn x=true\/X.env.scope.names.lookup x=some .local:=by first | exact .inl rfl | exact .inr rfl | assumption):DG X (.Name x pos) (gNm i):=by
 refine ⟨_,Zgn hN hi hx hf,fun v d σ ρ H α ρ' Q s r e k=> ?_⟩
 cases e
 exact k _ (s.set i r)
theorem ZaQ:DGs X [] gNl:=by
 refine ⟨_,Zgo,fun vs ds σ ρ H α ρ' Q s r e k=> ?_⟩
 cases r with
 |nil=>cases e;exact ⟨rfl,k _ s⟩
 |cons _ _=>cases e
theorem ZH {es:List Expr} {g:Tg} {gs:Tgs} (h1:DG X e g) (h2:DGs X es gs) (hs:(assignEach (e :: es) X.env).map (·.2)=assign e X.env :: (assignEach es X.env).map (·.2):=by rfl):DGs X (e :: es) (gCs g gs):=by
 obtain ⟨t1,p1,q1⟩:=h1
 obtain ⟨t2,p2,q2⟩:=h2
 refine ⟨_,ZeY p1 p2 hs,fun vs ds σ ρ H α ρ' Q s r e k=> ?_⟩
 cases r with
 |nil=>cases e
 |cons r rr=>
  rename_i v d vs ds
  cases e1:g d ρ with
  |none=>simp only[gCs,e1] at e;cases e
  |some ρ1=>
   simp only[gCs,e1] at e
   exact ⟨v,vs,rfl,q1 v d σ ρ H α ρ1 _ s r e1 fun σ' s'=>q2 vs ds σ' ρ1 H α ρ' Q s' rr e k⟩
theorem Zby {es:List Expr} {k:Nat} {gs:Tgs} {n:Nat} (hc:X.calm=true) (h:DGs X es gs) (hn:(assignEach es X.env).length=n:=by rfl) (hlen: ∀ ds ρ ρ',gs ds ρ=some ρ'->ds.length=n) (hst:(assignEach es X.env).findIdx? (·.1)=none:=by rfl):DG X (.Tuple es k pos) (gTp gs):=by
 obtain ⟨t,p,q⟩:=h
 refine ⟨_,Zh1 hc p hn hst,fun v d σ ρ H α ρ' Q s r e k=> ?_⟩
 cases r with
 | @tup a xs ds hp rp=>
  have e':gs ds ρ=some ρ':=e
  exact ⟨a,xs,rfl,(SqT.of hp),by rw[rp.length];exact hlen ds ρ ρ' e',q xs ds σ ρ H α ρ' Q s rp e' k⟩
 |_=>cases e
theorem ZaR {ds:List D} {ρ ρ':Ro} (h:gNl ds ρ=some ρ'):ds.length=0:=by cases ds with | nil=>rfl | cons _ _=>cases h
theorem ZV {g:Tg} {gs:Tgs} {n:Nat} (h: ∀ ds ρ ρ',gs ds ρ=some ρ'->ds.length=n) (ds:List D) (ρ ρ':Ro) (e:gCs g gs ds ρ=some ρ'):ds.length=n + 1:=by
 cases ds with
 |nil=>cases e
 |cons d r=>
  cases e1:g d ρ with
  |none=>simp only[gCs,e1] at e;cases e
  |some ρ1=>simp only[gCs,e1] at e;rw[List.length_cons,h r ρ1 ρ' e]
theorem Zy (i:Nat) {x:Str} {pos':Pos} (hN:X.N.Nodup) (he:DE X ξ e f) (hi:X.N[i]?=some x:=by rfl) (hx:Loc X.env.scope x:=by first | exact Or.inl rfl | exact Or.inr rfl) (hs:swapsWith e (some (.Name x pos')) pos.line X.env=pure false:=by rfl) (hf:X.fn x=true\/X.env.scope.names.lookup x=some .local:=by first | exact .inl rfl | exact .inr rfl | assumption):
  DS X ξ (.Assign [.Name x pos'] e pos) (Zao (gNm i) f):=by
 obtain ⟨t,p,q⟩:=he
 exact ⟨_,Zh3 hN hi hx p hs hf,fun σ ρ H α M Dn s hh w=>q σ ρ H α M _ s hh (FP.seq w fun d M1 v H1 α1 e1 h1 r1 w1=>w1 _ H1 α1 Ext.refl h1 ((s.mono e1).set i r1))⟩
theorem Zc5 {tg:Expr} {gt:Tg} (he:DE X ξ e f) (hg:DG X tg gt) (hs:swapsWithSole [tg] e pos.line X.env=pure false:=by rfl) (hw:swappedStores [tg] e X.env=pure none:=by rfl)
  (h1:(assignEach [tg] X.env).map (·.2)=[assign tg X.env]:=by rfl):DS X ξ (.Assign [tg] e pos) (Zao gt f):=by
 obtain ⟨t,p,q⟩:=he
 obtain ⟨tt,pt,qt⟩:=hg
 refine ⟨_,ZfT p pt hs hw h1,fun σ ρ H α M Dn s hh w=>q σ ρ H α M _ s hh (FP.seq w fun d M1 v H1 α1 e1 h1 r1 w1=> ?_)⟩
 cases eg:gt d ρ with
 |none=>simp only[eg] at w1;exact w1.elim
 |some ρ1=>
  simp only[eg] at w1
  exact qt v d σ ρ H1 α1 ρ1 _ (s.mono e1) r1 eg fun σ' s'=>w1 σ' H1 α1 Ext.refl h1 s'
theorem ZaE (i j:Nat) {x y:Str} {a b:Expr} {fs:Av} {px py pt:Pos} {kt k2 pt2} (hc:X.calm=true) (hN:X.N.Nodup) (ha:DA X ξ [a,b] fs) (hi:X.N[i]?=some x:=by rfl) (hj:X.N[j]?=some y:=by rfl) (hij:i≠j:=by decide)
  (hx:X.env.scope.names.lookup x=some .local:=by rfl) (hy:X.env.scope.names.lookup y=some .local:=by rfl)
  (hw:swappedStores [.Tuple [.Name x px,.Name y py] kt pt] (.Tuple [a,b] k2 pt2) X.env=pure (some [x,y]):=by rfl)
  (hs:swapsWithSole [.Tuple [.Name x px,.Name y py] kt pt] (.Tuple [a,b] k2 pt2) pos.line X.env=pure false:=by rfl):
  DS X ξ (.Assign [.Tuple [.Name x px,.Name y py] kt pt] (.Tuple [a,b] k2 pt2) pos) (ZcI i j fs):=by
 obtain ⟨t,p,q⟩:=ha
 refine ⟨_,Zh4 hc hN hi hj hij hx hy p hw hs,fun σ ρ H α M Dn s hh w=>q σ ρ H α M _ s hh (FP.seq w fun ds M1 vs H1 α1 e1 h1 r1 w1=> ?_)⟩
 match r1 with
 | .nil=>exact w1.elim
 | .cons _ .nil=>exact w1.elim
 | .cons _ (.cons _ (.cons _ _))=>exact w1.elim
 | .cons r (.cons r' .nil)=>exact ⟨_,_,rfl,w1 _ H1 α1 Ext.refl h1 (((s.mono e1).set i r).set j r')⟩
theorem Zf7 {o i:Expr} {fo fi:Ev} {pos':Pos} (ho:DE X ξ o fo) (hi:DE X ξ i fi) (he:DE X ξ e f)
  (ha: ∀ v,assign (.Subscript o i pos') X.env v=(do
   let ov <- holding [v] (eval o X.env)
   let iv <- holding [v,ov] (eval i X.env)
   standAt pos'
   holding [v,ov,iv] (setItem ov iv v)
   release [v,ov,iv] []):=by intro _;rfl) (hs:swapsWithSole [.Subscript o i pos'] e pos.line X.env=pure false:=by rfl) (hw:swappedStores [.Subscript o i pos'] e X.env=pure none:=by rfl)
  (h1:(assignEach [.Subscript o i pos'] X.env).map (·.2)=[assign (.Subscript o i pos') X.env]:=by rfl):DS X ξ (.Assign [.Subscript o i pos'] e pos) (ZhK fo fi f):=by
 obtain ⟨t,p,q⟩:=he
 obtain ⟨to,po,qo⟩:=ho
 obtain ⟨ti,pi,qi⟩:=hi
 refine ⟨_,ZfT p (Zh2 po pi Ze7 ha) hs hw h1,fun σ ρ H α M Dn s hh w=>q σ ρ H α M _ s hh (FP.seq w fun d M1 v H1 α1 e1 h1 r1 w1=> ?_)⟩
 refine qo σ ρ H1 α1 M1 _ (s.mono e1) h1 (FP.seq w1 fun od M2 ov H2 α2 e2 h2 r2 w2=> ?_)
 refine qi σ ρ H2 α2 M2 _ ((s.mono e1).mono e2) h2 (FP.seq w2 fun kd M3 kv H3 α3 e3 h3 r3 w3=> ?_)
 cases Rep.mono e3 r2 with
 | @ref p n hp=>
  cases r3 with
  |int k=>
   cases em:M3[n]? with
   |none=>simp only[em] at w3;exact w3.elim
   |some so=>
    cases so with
    |lst ds=>
     cases ej:ixN ds.length k with
     |none=>simp only[em,ej] at w3;exact w3.elim
     |some j=>
      simp only[em,ej] at w3
      obtain ⟨xs,g1,g2⟩:=h3.at hp em
      refine ⟨p,xs,k,j,rfl,rfl,g1,by rw[g2.length];exact ej,?_⟩
      exact w3 σ _ α3 (Ext.wr g1) (h3.wr hp g1 (Reps.set (Rep.mono e3 (Rep.mono e2 r1)) j g2)) ((((s.mono e1).mono e2).mono e3).mono (Ext.wr g1))
  |_=>exact w3.elim
 |_=>exact w3.elim
noncomputable def whN (c:Tv) (g:Sv):Nat->Ro->Sto->Option Fl
 |0,_,_=>none
 |n + 1,ρ,M=>match c ρ M with
  | .ok true M1=>(match g ρ M1 with
   | .nx ρ2 M2=>whN c g n ρ2 M2
   | .cnt ρ2 M2=>whN c g n ρ2 M2
   | .brk ρ2 M2=>some (.nx ρ2 M2)
   |o=>some o)
  | .ok false M1=>some (.nx ρ M1)
  | .exc e M1=>some (.exc e M1)
  | .bad=>some .bad
theorem Za7 {c:Tv} {g:Sv}: ∀ {n:Nat} {ρ:Ro} {M:Sto} {o:Fl},whN c g n ρ M=some o-> ∀ k,whN c g (n + k) ρ M=some o
 |0,_,_,_,e,_=>by simp only[whN] at e;cases e
 |n + 1,ρ,M,o,e,k=>by
  have ek:n + 1 + k=(n + k) + 1:=by omega
  rw[ek]
  unfold whN at e ⊢
  cases ec:c ρ M with
  |bad=>rw[ec] at e;exact e
  |exc x M1=>rw[ec] at e;exact e
  |ok b M1=>
   rw[ec] at e
   cases b with
   |false=>exact e
   |true=>
    cases eg:g ρ M1 with
    |nx ρ2 M2=>simp only[eg] at e ⊢;exact Za7 e k
    |cnt ρ2 M2=>simp only[eg] at e ⊢;exact Za7 e k
    |brk ρ2 M2=>simp only[eg] at e ⊢;exact e
    |ret d M2=>simp only[eg] at e ⊢;exact e
    |exc x M2=>simp only[eg] at e ⊢;exact e
    |bad=>simp only[eg] at e ⊢;exact e
open Classical in
noncomputable def sWh (c:Tv) (g:Sv):Sv:=fun ρ M=>if h: ∃ o n,whN c g n ρ M=some o then Classical.choose h else .bad
theorem ZaZ {c:Tv} {g:Sv} {n:Nat} {ρ:Ro} {M:Sto} {o:Fl} (e:whN c g n ρ M=some o):sWh c g ρ M=o:=by
 have hx: ∃ o n,whN c g n ρ M=some o:=⟨o,n,e⟩
 unfold sWh
 rw[dif_pos hx]
 obtain ⟨m,em⟩:=Classical.choose_spec hx
 have h1:=Za7 em n
 have h2:=Za7 e m
 rw[Nat.add_comm] at h2
 rw[h1] at h2
 exact Option.some.inj h2
theorem Zeo {c:Tv} {g:Sv} {ρ:Ro} {M:Sto} (e:sWh c g ρ M≠ .bad): ∃ n,whN c g n ρ M=some (sWh c g ρ M):=by
 by_cases hx: ∃ o n,whN c g n ρ M=some o
 ·obtain ⟨o,n,h⟩:=hx
  exact ⟨n,by rw[ZaZ h];exact h⟩
 ·unfold sWh at e
  rw[dif_neg hx] at e
  exact absurd rfl e
theorem Zce {c:Tv} {g:Sv} {ρ:Ro} {M M1:Sto} (h:c ρ M= .ok false M1):sWh c g ρ M= .nx ρ M1:=ZaZ (n:=1) (by simp only[whN,h])
theorem Zc6 {c:Tv} {g:Sv} {ρ ρ2:Ro} {M M1 M2:Sto} (h:c ρ M= .ok true M1) (h2:g ρ M1= .nx ρ2 M2) (hb:sWh c g ρ2 M2≠ .bad):sWh c g ρ M=sWh c g ρ2 M2:=by
 obtain ⟨n,e⟩:=Zeo hb
 exact ZaZ (n:=n + 1) (by simp only[whN,h,h2];exact e)
theorem Za8 {body:List Stmt} (hp:PassesOwn (model X.prog X.w) X.A X.env X.xe) (hc:DT X ξ c fc) (hb:DSs X ξ body g):DS X ξ (.While c body [] pos) (sWh fc g):=by
 obtain ⟨tc,pc,qc⟩:=hc
 obtain ⟨tb,pb,qb⟩:=hb
 refine ⟨_,ZeZ hp pc pb,fun σ ρ H α M Dn s hh w=> ?_⟩
 have nb:sWh fc g ρ M≠ .bad:=fun z=>by rw[z] at w;exact w
 obtain ⟨n,en⟩:=Zeo nb
 generalize sWh fc g ρ M=o at w en
 refine ⟨fun m σ' H'=> ∃ ρ' α' M',Ext X.K H H' α α'/\SR X.K H' α' σ' ρ'/\HR X.K H' α' M'/\whN fc g m ρ' M'=some o,⟨n,ρ,α,M,Ext.refl,s,hh,en⟩,?_⟩
 rintro m σ1 H1 ⟨ρ1,α1,M1,e1,s1,h1,en1⟩
 cases m with
 |zero=>simp only[whN] at en1;cases en1
 |succ m=>
  refine qc σ1 ρ1 H1 α1 M1 _ s1 h1 ?_
  unfold whN at en1
  cases ec:fc ρ1 M1 with
  |bad=>rw[ec] at en1;cases en1;exact w.elim
  |exc x M2=>
   rw[ec] at en1;cases en1
   exact fun C H' α' nn ex hr=>w C H' α' nn (e1.trans ex) hr
  |ok b M2=>
   rw[ec] at en1
   intro v H2 α2 e2 h2 ev
   cases ev
   cases b with
   |false=>
    cases en1
    exact Zil (w σ1 H2 α2 (e1.trans e2) h2 (s1.mono e2))
   |true=>
    refine Zim ⟨fun σ' H'=> ∃ ρ' α' M',Ext X.K H H' α α'/\SR X.K H' α' σ' ρ'/\HR X.K H' α' M'/\whN fc g m ρ' M'=some o,fun σ' H' z=>⟨m,Nat.lt_succ_self m,z⟩,?_⟩
    refine qb σ1 ρ1 H2 α2 M2 _ (s1.mono e2) h2 ?_
    have e12:=e1.trans e2
    cases eg:g ρ1 M2 with
    |nx ρ2 M3=>simp only[eg] at en1;exact fun σ' H' α' ex hr sr=>⟨ρ2,α',M3,e12.trans ex,sr,hr,en1⟩
    |cnt ρ2 M3=>simp only[eg] at en1;exact fun σ' H' α' ex hr sr=>⟨ρ2,α',M3,e12.trans ex,sr,hr,en1⟩
    |brk ρ2 M3=>simp only[eg] at en1;cases en1;exact fun σ' H' α' ex hr sr=>w σ' H' α' (e12.trans ex) hr sr
    |ret d M3=>simp only[eg] at en1;cases en1;exact fun v H' α' ex hr sr=>w v H' α' (e12.trans ex) hr sr
    |exc x M3=>simp only[eg] at en1;cases en1;exact fun C H' α' nn ex hr=>w C H' α' nn (e12.trans ex) hr
    |bad=>simp only[eg] at en1;cases en1;exact w.elim
noncomputable def Zar (tg:Tg) (g:Sv):List D->Ro->Sto->Fl
 | [],ρ,M=> .nx ρ M
 |d :: r,ρ,M=>match tg d ρ with
  |none=> .bad
  |some ρ1=>(match g ρ1 M with
   | .nx ρ2 M2=>Zar tg g r ρ2 M2
   | .cnt ρ2 M2=>Zar tg g r ρ2 M2
   | .brk ρ2 M2=> .nx ρ2 M2
   |o=>o)
noncomputable def ZdE (tg:Tg) (g:Sv) (n:Nat):Nat->Nat->Ro->Sto->Fl
 |f,i,ρ,M=>match M[n]? with
  |some (.lst xs)=>(match xs[i]? with
   |none=> .nx ρ M
   |some d=>(match f with
    |0=> .bad
    |f + 1=>(match tg d ρ with
     |none=> .bad
     |some ρ1=>(match g ρ1 M with
      | .nx ρ2 M2=>ZdE tg g n f (i + 1) ρ2 M2
      | .cnt ρ2 M2=>ZdE tg g n f (i + 1) ρ2 M2
      | .brk ρ2 M2=> .nx ρ2 M2
      |o=>o))))
  |none=> .bad
noncomputable def ZaF (lo:Int) (n:Nat):List D:=(List.range n).map fun (i:Nat)=>D.int (lo + i)
noncomputable def Zf8 (tg:Tg) (g:Sv) (d:D) (ρ:Ro) (M:Sto):Fl:=match d with
 | .tup xs=>Zar tg g xs ρ M
 | .rol xs=>Zar tg g xs ρ M
 | .ref n=>(match M[n]? with | some (.lst xs)=>ZdE tg g n xs.length 0 ρ M | none=> .bad)
 |_=> .bad
noncomputable def ZhL (tg:Tg) (f:Ev) (g:Sv):Sv:=fun ρ M=>Zaq (f ρ M) fun d M1=>Zf8 tg g d ρ M1
noncomputable def Zcf (tg:Tg) (fs:Av) (g:Sv):Sv:=fun ρ M=>Zaq (fs ρ M) fun ds M1=>match ds with
 | [.int j]=>if -(2 ^ 62)<=j/\j < 2 ^ 62 then Zar tg g (ZaF 0 j.toNat) ρ M1 else .bad
 |_=> .bad
noncomputable def Zep (tg:Tg) (fs:Av) (g:Sv):Sv:=fun ρ M=>Zaq (fs ρ M) fun ds M1=>match ds with
 | [.int i,.int j]=>if -(2 ^ 62)<=i/\i < 2 ^ 62/\ -(2 ^ 62)<=j/\j < 2 ^ 62 then Zar tg g (ZaF i (j - i).toNat) ρ M1 else .bad
 |_=> .bad
theorem Zc7 {lo:Int} {n i:Nat} (h:i < n):(ZaF lo n)[i]?=some (.int (lo + i)):=by
 unfold ZaF
 rw[List.getElem?_map,List.getElem?_range h]
 rfl
theorem ZbP {lo:Int} {n:Nat}:(ZaF lo n).length=n:=by unfold ZaF;rw[List.length_map,List.length_range]
theorem Zeq {lo:Int} {n i:Nat} (h:i < n):(ZaF lo n).drop i= .int (lo + i) :: (ZaF lo n).drop (i + 1):=by
 have hl:i < (ZaF lo n).length:=by rw[ZbP];exact h
 have e:=Zc7 (lo:=lo) h
 rw[List.getElem?_eq_getElem hl] at e
 rw[List.drop_eq_getElem_cons hl,Option.some.inj e]
theorem Zfl {tg:Expr} {gt:Tg} {tt:TG} {tb:TS} {Dn:Ends} {H H1:Hp} {α α1:List Addr} {o:Fl} {k:Ro->Sto->Fl} (w:FP X.K H α ξ Dn o)
  (qt: ∀ v d σ ρ H α ρ' Q,SR X.K H α σ ρ->Rep X.K H α v d->gt d ρ=some ρ'->(∀ σ',SR X.K H α σ' ρ'->Q σ' H)->tt v σ H Q) (qb: ∀ σ ρ H α M Dn,SR X.K H α σ ρ->HR X.K H α M->FP X.K H α ξ Dn (g ρ M)->tb Dn σ H)
  {v:V} {d:D} {σ1:L2.St} {ρ1:Ro} {M1:Sto} (e1:Ext X.K H H1 α α1) (s1:SR X.K H1 α1 σ1 ρ1) (h1:HR X.K H1 α1 M1) (r:Rep X.K H1 α1 v d)
  (en:(match gt d ρ1 with | none=>Fl.bad | some ρ2=>(match g ρ2 M1 with | .nx ρ3 M3=>k ρ3 M3 | .cnt ρ3 M3=>k ρ3 M3 | .brk ρ3 M3=> .nx ρ3 M3 | o=>o))=o)
  {N:L2.St->Hp->Prop} (hN: ∀ σ' H',(∃ ρ' α' M',Ext X.K H H' α α'/\SR X.K H' α' σ' ρ'/\HR X.K H' α' M'/\k ρ' M'=o)->N σ' H'):tt v σ1 H1 fun σ2 H2=>tb { Dn with nx:=N,ct:=N,bk:=Dn.nx } σ2 H2:=by
 cases eg:gt d ρ1 with
 |none=>rw[eg] at en;cases en;exact w.elim
 |some ρ2=>
  simp only[eg] at en
  refine qt v d σ1 ρ1 H1 α1 ρ2 _ s1 r eg fun σ2 s2=>qb σ2 ρ2 H1 α1 M1 _ s2 h1 ?_
  cases ex:g ρ2 M1 with
  |nx ρ3 M3=>simp only[ex] at en;exact fun σ' H' α' e2 hr sr=>hN _ _ ⟨ρ3,α',M3,e1.trans e2,sr,hr,en⟩
  |cnt ρ3 M3=>simp only[ex] at en;exact fun σ' H' α' e2 hr sr=>hN _ _ ⟨ρ3,α',M3,e1.trans e2,sr,hr,en⟩
  |brk ρ3 M3=>simp only[ex] at en;cases en;exact fun σ' H' α' e2 hr sr=>w σ' H' α' (e1.trans e2) hr sr
  |ret d M3=>simp only[ex] at en;cases en;exact fun v H' α' e2 hr sr=>w v H' α' (e1.trans e2) hr sr
  |exc x M3=>simp only[ex] at en;cases en;exact fun C H' α' nn e2 hr=>w C H' α' nn (e1.trans e2) hr
  |bad=>simp only[ex] at en;cases en;exact w.elim
theorem ZiO {tg:Expr} {gt:Tg} {tt:TG} {tb:TS} {Dn:Ends} {H:Hp} {α:List Addr} {lo:Int} {n:Nat} {σ:L2.St} {ρ:Ro} {M:Sto}
  (qt: ∀ v d σ ρ H α ρ' Q,SR X.K H α σ ρ->Rep X.K H α v d->gt d ρ=some ρ'->(∀ σ',SR X.K H α σ' ρ'->Q σ' H)->tt v σ H Q) (qb: ∀ σ ρ H α M Dn,SR X.K H α σ ρ->HR X.K H α M->FP X.K H α ξ Dn (g ρ M)->tb Dn σ H)
  (s:SR X.K H α σ ρ) (hh:HR X.K H α M) (w:FP X.K H α ξ Dn (Zar gt g (ZaF lo n) ρ M)):
  ∃ W:Nat->Nat->L2.St->Hp->Prop,(∃ m,W 0 m σ H)/\ ∀ i m σ H,W i m σ H->
   ((Itr lo n).stop i H/\Dn.nx σ H)\/((Itr lo n).go i H/\ ∃ N:L2.St->Hp->Prop,(∀ σ' H',N σ' H'-> ∃ m',m' < m/\W (i + 1) m' σ' H')/\ ∀ x H',(Itr lo n).yld i H x H'->tt x σ H' fun σ2 H2=>tb { Dn with nx:=N,ct:=N,bk:=Dn.nx } σ2 H2):=by
 generalize ho:Zar gt g (ZaF lo n) ρ M=o at w
 refine ZdS (fun i σ' H'=> ∃ ρ' α' M',Ext X.K H H' α α'/\SR X.K H' α' σ' ρ'/\HR X.K H' α' M'/\Zar gt g ((ZaF lo n).drop i) ρ' M'=o) ⟨ρ,α,M,Ext.refl,s,hh,ho⟩ ?_ ?_
 ·rintro i σ1 H1 hi ⟨ρ1,α1,M1,e1,s1,h1,en⟩
  rw[Zeq hi] at en
  exact Zfl (tg:=tg) w qt qb e1 s1 h1 (.int (lo + i)) en (fun σ' H' z=>z)
 ·rintro σ1 H1 ⟨ρ1,α1,M1,e1,s1,h1,en⟩
  rw[List.drop_eq_nil_of_le (by rw[ZbP];exact Nat.le_refl _)] at en
  cases en
  exact w σ1 H1 α1 e1 h1 s1
theorem Zfm {tg a:Expr} {gt:Tg} {fs:Av} {body:List Stmt} {p p2:Pos} (hp:PassesOwn (model X.prog X.w) X.A X.env X.xe) (hm:X.mg "range"=none) (ha:DA X ξ [a] fs) (hg:DG X tg gt) (hb:DSs X ξ body g)
  (hgl:Gl X "range":=by rfl) (hs:starEach [a] X.env=[(false,eval a X.env)]:=by rfl) (hf: ∀ x,foldedSetIterable (.Call (.Name "range" p) [a] [] p2) X.env x=pure x:=by intro _;rfl):DS X ξ (.For tg (.Call (.Name "range" p) [a] [] p2) body [] pos) (Zcf gt fs g):=by
 obtain ⟨ta,pa,qa⟩:=ha
 obtain ⟨tt,pt,qt⟩:=hg
 obtain ⟨tb,pb,qb⟩:=hb
 refine ⟨_,ZdR hp (ZdP hgl hm pa hs) pt pb hf,fun σ ρ H α M Dn s hh w=>qa σ ρ H α M _ s hh (FP.seq w fun ds M1 vs H1 α1 e1 h1 r1 w1=> ?_)⟩
 match r1 with
 | .nil=>exact w1.elim
 | .cons r (.cons _ _)=>cases r<;>exact w1.elim
 | .cons r .nil=>
  cases r with
  |int j=>
   by_cases c: -(2 ^ 62)<=j/\j < 2 ^ 62
   ·simp only[if_pos c] at w1
    exact ⟨j,rfl,c.1,c.2,ZiO (tg:=tg) qt qb (s.mono e1) h1 w1⟩
   ·simp only[if_neg c] at w1
    exact w1.elim
  |_=>exact w1.elim
noncomputable def ZnP (K:PySem.W.Frag) (tl:TE):TI:=fun σ H R=>tl σ H fun x H1=> ∃ a,x= .ref a/\(((∃ xs,SqL K H1 a xs)/\R (Itl K a) H1)\/((∃ xs,SqT K H1 a xs)/\R (Itt K a) H1))
theorem ZiP {tg l:Expr} {tl:TE} (hl:PE X l tl):PI X tg l (ZnP X.K tl):=by
 intro pins s σ H R I h
 refine thn (hl pins s σ H _ I h) fun v s1 ⟨x,H1,I1,r1,q1⟩=> ?_
 obtain ⟨a,e,q⟩:=q1
 subst e
 cases r1
 have fp: ∀ b∈[s1.heap.objs.size],ZcA X pins H1 b:=fun b hb=>by
  have e:b=s1.heap.objs.size:=by simpa using hb
  subst e
  exact I1.fpOk (Nat.le_refl _) (I1.hok.fresh (Nat.le_refl _))
 rcases q with ⟨⟨xs,hq⟩,q⟩ | ⟨⟨xs,hq⟩,q⟩
 ·obtain ⟨its,rv,p,hz⟩:=I1.list hq
  refine wpAny_pyIter_list p.isList ?_
  exact ⟨s1.heap.objs.size,[s1.heap.objs.size],_,_,H1,rfl,I1.kept (t':=s1.toks) fun b o e=>Heap.get?_push_of_some _ e,ZdO a _,⟨_,Heap.get?_push_size _ rfl,rfl,rfl⟩,fp,q⟩
 ·obtain ⟨its,rv,p,hz⟩:=I1.tuple hq
  refine wpAny_pyIter_tuple (show s1.heap.IsTuple a its.toArray from p) ?_
  exact ⟨s1.heap.objs.size,[s1.heap.objs.size],_,_,H1,rfl,I1.kept (t':=s1.toks) fun b o e=>Heap.get?_push_of_some _ e,Zdi a _,⟨_,Heap.get?_push_size _ rfl,rfl,rfl⟩,fp,q⟩
theorem Zer {tg l:Expr} {gt:Tg} {f:Ev} {body:List Stmt} (hp:PassesOwn (model X.prog X.w) X.A X.env X.xe) (hl:DE X ξ l f) (hg:DG X tg gt) (hb:DSs X ξ body g)
  (hf: ∀ x,foldedSetIterable l X.env x=pure x:=by intro _;rfl):DS X ξ (.For tg l body [] pos) (ZhL gt f g):=by
 obtain ⟨ta,pa,qa⟩:=hl
 obtain ⟨tt,pt,qt⟩:=hg
 obtain ⟨tb,pb,qb⟩:=hb
 refine ⟨_,ZdR hp (ZiP pa) pt pb hf,fun σ ρ H α M Dn s hh w=>qa σ ρ H α M _ s hh (FP.seq w fun d M1 v H1 α1 e1 h1 r1 w1=> ?_)⟩
 have s1:=s.mono e1
 have pure_: ∀ (ds:List D) (xs:List V),Reps X.K H1 α1 xs ds->FP X.K H1 α1 ξ Dn (Zar gt g ds ρ M1)-> ∀ (i:Nat) σ' H',(∃ ρ' α' M',Ext X.K H1 H' α1 α'/\SR X.K H' α' σ' ρ'/\HR X.K H' α' M'/\Zar gt g (ds.drop i) ρ' M'=Zar gt g ds ρ M1)->
   (∀ x,xs[i]?=some x->tt x σ' H' fun σ2 H2=>tb { Dn with nx:=fun σ H=> ∃ ρ' α' M',Ext X.K H1 H α1 α'/\SR X.K H α' σ ρ'/\HR X.K H α' M'/\Zar gt g (ds.drop (i + 1)) ρ' M'=Zar gt g ds ρ M1,ct:=fun σ H=> ∃ ρ' α' M',Ext X.K H1 H α1 α'/\SR X.K H α' σ ρ'/\HR X.K H α' M'/\Zar gt g (ds.drop (i + 1)) ρ' M'=Zar gt g ds ρ M1,bk:=Dn.nx } σ2 H2)/\
   (i=xs.length->Dn.nx σ' H'):=by
  intro ds xs r w1 i σ' H' ⟨ρ',α',M',ex,sr,hr,en⟩
  refine ⟨fun x hx=> ?_,fun hi=> ?_⟩
  ·have hi:i < ds.length:=by rw[<- r.length];exact (List.getElem?_eq_some_iff.mp hx).1
   obtain ⟨v,g1,g2⟩:=r.get (List.getElem?_eq_getElem hi)
   rw[hx] at g1
   cases g1
   rw[List.drop_eq_getElem_cons hi] at en
   exact Zfl (tg:=tg) w1 qt qb ex sr hr (Rep.mono ex g2) en (fun σ' H' z=>z)
  ·rw[hi,r.length,List.drop_length] at en
   have en':Fl.nx ρ' M'=Zar gt g ds ρ M1:=en
   rw[<- en'] at w1
   exact w1 σ' H' α' ex hr sr
 cases r1 with
 | @tup p xs ds hp rp=>
  have w2:FP X.K H1 α1 ξ Dn (Zar gt g ds ρ M1):=w1
  refine ⟨p,rfl,.inr ⟨⟨xs,(SqT.of hp)⟩,Zgp (K:=X.K) (a:=p) (xs:=xs) (fun i σ' H'=> ∃ ρ' α' M',Ext X.K H1 H' α1 α'/\SR X.K H' α' σ' ρ'/\HR X.K H' α' M'/\Zar gt g (ds.drop i) ρ' M'=Zar gt g ds ρ M1) ⟨ρ,α1,M1,Ext.refl,s1,h1,rfl⟩ ?_ ?_ ?_⟩⟩
  ·rintro i σ' H' _ ⟨ρ',α',M',ex,_⟩
   exact SqT.of (ex.tup _ _ hp)
  ·intro i x σ' H' hx z
   exact (pure_ ds xs rp w2 i σ' H' z).1 x hx
  ·intro σ' H' z
   exact (pure_ ds xs rp w2 _ σ' H' z).2 rfl
 | @rol p xs ds hp rp=>
  have w2:FP X.K H1 α1 ξ Dn (Zar gt g ds ρ M1):=w1
  refine ⟨p,rfl,.inl ⟨⟨xs,hp.sq⟩,Ze2 (K:=X.K) (a:=p) (xs:=xs) (fun i σ' H'=> ∃ ρ' α' M',Ext X.K H1 H' α1 α'/\SR X.K H' α' σ' ρ'/\HR X.K H' α' M'/\Zar gt g (ds.drop i) ρ' M'=Zar gt g ds ρ M1) ⟨ρ,α1,M1,Ext.refl,s1,h1,rfl⟩ ?_ ?_ ?_⟩⟩
  ·rintro i σ' H' _ ⟨ρ',α',M',ex,_⟩
   exact (ex.rol _ _ hp).sq
  ·intro i x σ' H' hx z
   exact (pure_ ds xs rp w2 i σ' H' z).1 x hx
  ·intro σ' H' z
   exact (pure_ ds xs rp w2 _ σ' H' z).2 rfl
 | @ref p n hp=>
  cases em:M1[n]? with
  |none=>simp only[Zf8,em] at w1;exact w1.elim
  |some so=>
   cases so with
   |lst ds=>
    simp only[Zf8,em] at w1
    obtain ⟨xs0,g0,r0⟩:=h1.at hp em
    generalize eo:ZdE gt g n ds.length 0 ρ M1=o at w1
    refine ⟨p,rfl,.inl ⟨⟨xs0,SqL.of g0⟩,fun i m σ' H'=> ∃ ρ' α' M',Ext X.K H1 H' α1 α'/\SR X.K H' α' σ' ρ'/\HR X.K H' α' M'/\ZdE gt g n m i ρ' M'=o,⟨ds.length,ρ,α1,M1,Ext.refl,s1,h1,eo⟩,?_⟩⟩
    rintro i m σ' H' ⟨ρ',α',M',ex,sr,hr,en⟩
    unfold ZdE at en
    cases em2:M'[n]? with
    |none=>simp only[em2] at en;cases en;exact w1.elim
    |some so2=>
     cases so2 with
     |lst ds2=>
      simp only[em2] at en
      obtain ⟨xs,g1,g2⟩:=hr.at (ex.get hp) em2
      cases ei:ds2[i]? with
      |none=>
       simp only[ei] at en
       cases en
       refine .inl ⟨⟨xs,SqL.of g1,?_⟩,w1 σ' H' α' ex hr sr⟩
       rw[g2.length]
       exact List.getElem?_eq_none_iff.mp ei
      |some d=>
       simp only[ei] at en
       obtain ⟨v,k1,k2⟩:=g2.get ei
       cases m with
       |zero=>cases en;exact w1.elim
       |succ m=>
        refine .inr ⟨⟨xs,v,SqL.of g1,k1⟩,fun σ2 H2=> ∃ ρ' α' M',Ext X.K H1 H2 α1 α'/\SR X.K H2 α' σ2 ρ'/\HR X.K H2 α' M'/\ZdE gt g n m (i + 1) ρ' M'=o,fun σ2 H2 z=>⟨m,Nat.lt_succ_self m,z⟩,fun x H2 y=> ?_⟩
        obtain ⟨ey,y⟩:=y
        subst ey
        have ev:=y xs (SqL.of g1)
        rw[k1] at ev
        cases ev
        exact Zfl (tg:=tg) w1 qt qb ex sr hr k2 en (fun σ' H' z=>z)
 |_=>exact w1.elim
end
noncomputable def fnF (g:Sv) (n k:Nat):List D->Sto->Out D:=fun ds M=>if ds.length=n then (match g (ds.map some ++ List.replicate k none) M with
 | .ret d M'=> .ok d M'
 | .nx _ M'=> .ok .non M'
 | .exc c M'=> .exc c M'
 |_=> .bad) else .bad
noncomputable def spD (K:PySem.W.Frag) (F:List D->Sto->Out D):Sp:=fun vs H Q E=> ∃ ds α M,Reps K H α vs ds/\HR K H α M/\OP K H α E Q (F ds M)
theorem Zcg: ∀ {ds:List D} {k i:Nat} {d:D},(ds.map some ++ List.replicate k none)[i]?=some (some d)->ds[i]?=some d
 | [],k,i,d,h=>by
  rw[List.map_nil,List.nil_append] at h
  have:=List.mem_of_getElem? h
  rw[List.mem_replicate] at this
  cases this.2
 |x :: r,k,0,d,h=>by simpa using h
 |x :: r,k,i + 1,d,h=>by
  rw[List.map_cons,List.cons_append,List.getElem?_cons_succ] at h
  rw[List.getElem?_cons_succ]
  exact Zcg h
theorem SR.start {K:PySem.W.Frag} {H:Hp} {α:List Addr} {N:List Str} {vs:List V} {ds:List D} {k:Nat} (r:Reps K H α vs ds) (hk:k=N.length - ds.length):SR K H α (start N vs) (ds.map some ++ List.replicate k none):=by
 unfold L2.start
 refine ⟨by simp only[List.length_append,List.length_map,List.length_replicate,r.length,hk],fun i d h=> ?_⟩
 obtain ⟨v,h1,h2⟩:=r.get (Zcg h)
 refine ⟨v,?_,h2⟩
 have hl:i < vs.length:=(List.getElem?_eq_some_iff.mp h1).1
 rw[List.getElem?_append_left (by rw[List.length_map];exact hl),List.getElem?_map,h1]
 rfl
section
variable {P:Program} {w:World} {K:PySem.W.Frag} {mg:Str->Option Value} {base:Heap}
theorem Zai {x qual:Str} {st:Stmt} {f:Addr} {fd:FuncData} {N ps:List Str} {k n m:Nat} {g:Sv} (F:Fun K x qual st f fd) (S:FnScope N ps (Zh st)) (hn:n=ps.length) (hm:m=N.length - n)
  (hb: ∀ (cdv:Value) (A:Around) (outer:List Env) (s:Shared) (H:Hp) (E:XK),Room k (A.deeper (envOfC qual (Zh st) s.heap.objs.size f cdv))->Thr (Zcu (CXE P w) P w K mg base N qual (Zh st) f cdv A outer s H E) E->DSs (Zcu (CXE P w) P w K mg base N qual (Zh st) f cdv A outer s H E) E (Zn st) g):
  FnOk P w K mg base (CXE P w) (k + 1) f fd ps (spD K (fnF g n m)):=by
 obtain ⟨oc,od,kV,doc,pm,an,cdv,ct,osl,rfl,lk,hcd⟩:=F.ex
 refine ZkU lk hcd S (fun vs H Q E h=> ?_) (fun A outer s H vs Q E hr h=> ?_)
 ·obtain ⟨ds,α,M,r,_,q⟩:=h
  by_cases c:ds.length=n
  ·rw[r.length,c,hn]
  ·simp only[fnF,if_neg c] at q
   exact q.elim
 ·obtain ⟨ds,α,M,r,hh,q⟩:=h
  obtain ⟨t,p,w'⟩:=hb cdv A outer s H E hr ZiN
  by_cases c:ds.length=n
  ·simp only[fnF,if_pos c] at q
   refine ⟨t,p,w' _ _ H α M _ (SR.start (N:=N) r (k:=m) (by rw[hm,c])) hh ?_⟩
   cases e:g (ds.map some ++ List.replicate m none) M with
   |nx ρ' M'=>simp only[e] at q;exact fun σ' H' α' ex hr sr=>q _ H' α' ex hr .non
   |ret d M'=>simp only[e] at q;exact q
   |exc x M'=>simp only[e] at q;exact q
   |brk ρ' M'=>simp only[e] at q;exact q.elim
   |cnt ρ' M'=>simp only[e] at q;exact q.elim
   |bad=>simp only[e] at q;exact q.elim
  ·simp only[fnF,if_neg c] at q
   exact q.elim
end
section
variable {X:Cx} {ξ:XK} {k:Nat} {f:Addr} {fd:FuncData} {ps:List Str} {F:List D->Sto->Out D} {x:Str} {p pos:Pos} {e:Expr} {es:List Expr} {fs:Av}
theorem ZgS (G:FnOk X.prog X.w X.K X.mg X.base (CXE X.prog X.w) k f fd ps (spD X.K F)) (T:Thr X ξ) (hr:Room k X.A) (hm:X.mg x=some (.ref f)) (hk:PySem.W.keepIn X.K (.ref f)=true) (hb:ZcC X.K fd ps []) (ha:DA X ξ (e :: es) fs) (hg:Gl X x:=by rfl)
  (hdb:(x == ("__debug__":Str))=false:=by decide) (he:starEach (e :: es) X.env=(false,eval e X.env) :: starEach es X.env:=by rfl) (hpl:(backTo pos (starEach es X.env)).any (·.1)=false:=by rfl):DE X ξ (.Call (.Name x p) (e :: es) [] pos) (Zq F fs):=by
 obtain ⟨t,pa,qa⟩:=ha
 refine ⟨_,Zgu G hr hg hm hk hb .nil T.ps pa hdb he hpl,fun σ ρ H α M Q s hh q=>qa σ ρ H α M _ s hh (OG.seq q fun ds M1 vs H1 α1 e1 h1 r1 q1=> ?_)⟩
 rw[List.append_nil]
 exact ⟨ds,α1,M1,r1,h1,q1⟩
end
end DL
end
section
namespace DL
open PySem PySem.Spec PyProof.Rows L2
theorem Zes:bootBuiltins "abs"=some (.builtin "abs"):=by decide +kernel
theorem ZiQ:bootBuiltins "int"=some (.type "int"):=by decide +kernel
theorem ZiR:bootBuiltins "max"=some (.builtin "max"):=by decide +kernel
theorem ZiS:bootBuiltins "min"=some (.builtin "min"):=by decide +kernel
noncomputable def Cal (P:Program) (w:World) (K:PySem.W.Frag) (mg:Str->Option Value) (base:Heap) (x:Str) (k n:Nat) (F:List D->Sto->Out D):Prop:=
 ∃ (f:Addr) (fd:FuncData) (ps:List Str),FnOk P w K mg base (CXE P w) k f fd ps (spD K F)/\mg x=some (.ref f)/\PySem.W.keepIn K (.ref f)=true/\ps.length=n/\ZcC K fd ps []
theorem Zi {X:Cx} {ξ:XK} {k n:Nat} {F:List D->Sto->Out D} {x:Str} {p pos:Pos} {e:Expr} {es:List Expr} {fs:Av} (C:Cal X.prog X.w X.K X.mg X.base x k n F) (T:Thr X ξ) (hr:Room k X.A) (ha:DA X ξ (e :: es) fs) (hg:Gl X x:=by rfl)
  (hdb:(x == ("__debug__":Str))=false:=by decide) (he:starEach (e :: es) X.env=(false,eval e X.env) :: starEach es X.env:=by rfl) (hpl:(backTo pos (starEach es X.env)).any (·.1)=false:=by rfl):DE X ξ (.Call (.Name x p) (e :: es) [] pos) (Zq F fs):=by
 obtain ⟨f,fd,ps,G,hm,hk,_,hb⟩:=C
 exact ZgS G T hr hm hk hb ha hg hdb he hpl
theorem ZiT {K:PySem.W.Frag} {H:Hp} {a:Addr} {ns:List Int} {n:Nat} {F:List D->Sto->Out D} (hl:ns.length<=n) (hO:Zky H) (hS:SqL K H a (ns.map V.int)) (h: ∃ M',F [.rol (ns.map D.int)] []= .ok (.bl true) M'):
  spD K F [.ref a] H (fun v _=>v= .bl true) (fun _ _ _=>False):=by
 obtain ⟨M',e⟩:=h
 have hF:SqF K H a (ns.map V.int):=by
  rcases hS with (h | ⟨o,h⟩) | h
  ·rcases hO a with z | ⟨o,xs,z⟩
   ·rw[h] at z;cases z
   ·rw[h] at z;cases z
  ·exact .inl ⟨o,h⟩
  ·exact .inr h
 refine ⟨[.rol (ns.map D.int)],[],[],.cons (.rol hF (Reps.ints ns)) .nil,HR.nil,?_⟩
 rw[e]
 intro v H' α' _ _ r
 cases r
 rfl
end DL
end
section
namespace DL
open PySem PySem.Spec PyProof.Rows L2
inductive Src where
 |pur (ds:List D)
 |sto (n:Nat)
 |zip (n m:Nat)
 |enu (n:Nat)
 |rev (n l:Nat)
 |zips (ns:List Nat)
 |dct (n:Nat)
noncomputable def Zet (M:Sto) (i:Nat):List Nat->Option (Option (List D))
 | []=>some (some [])
 |n :: ns=>match M[n]? with
  |none=>none
  |some (.lst xs)=>match Zet M i ns with
   |none=>none
   |some r=>match xs[i]?,r with | some x,some ds=>some (some (x :: ds)) | _,_=>some none
noncomputable def nxt (src:Src) (i:Nat) (M:Sto):Option (Option D):=match src with
 | .pur ds=>some ds[i]?
 | .sto n=>match M[n]? with | some (.lst xs)=>some xs[i]? | none=>none
 | .zip n m=>match M[n]?,M[m]? with
  |some (.lst xs),some (.lst ys)=>(match xs[i]?,ys[i]? with | some x,some y=>some (some (.tup [x,y])) | _,_=>some none)
  |_,_=>none
 | .enu n=>match M[n]? with | some (.lst xs)=>(match xs[i]? with | some x=>some (some (.tup [.int i,x])) | none=>some none) | none=>none
 | .dct n=>match M[n]? with | some (.lst (.non :: r))=>(match r[i]? with | some (.tup (k :: _))=>some (some k) | some _=>none | none=>some none) | _=>none
 | .zips ns=>match Zet M i ns with | some (some ds)=>some (some (.tup ds)) | some none=>some none | none=>none
 | .rev n l=>match M[n]? with | some (.lst xs)=>if i < l then (match xs[l - 1 - i]? with | some x=>some (some x) | none=>none) else (if i=l then some none else none) | none=>none
noncomputable def cnt (src:Src) (M:Sto):Nat:=match src with
 | .pur ds=>ds.length
 | .sto n=>match M[n]? with | some (.lst xs)=>xs.length | none=>0
 | .zip n _=>match M[n]? with | some (.lst xs)=>xs.length | none=>0
 | .enu n=>match M[n]? with | some (.lst xs)=>xs.length | none=>0
 | .rev _ l=>l
 | .dct n=>match M[n]? with | some (.lst xs)=>xs.length | none=>0
 | .zips ns=>match ns with | n :: _=>(match M[n]? with | some (.lst xs)=>xs.length | none=>0) | []=>0
noncomputable def Ats (H:Hp) (α:List Addr):List Nat->List Addr->Prop
 | [],[]=>True
 |n :: ns,l :: ls=>RefK H α 0 n l/\Ats H α ns ls
 |_,_=>False
noncomputable def ZiU (K:PySem.W.Frag) (H:Hp) (α:List Addr) (J:It) (src:Src):Prop:= ∀ (i:Nat) H' α' M',Ext K H H' α α'->HR K H' α' M'->match nxt src i M' with
 |some none=>J.stop i H'
 |some (some d)=>J.go i H'/\ ∀ x H'',J.yld i H' x H''->Ext K H' H'' α' α'/\HR K H'' α' M'/\Rep K H'' α' x d
 |none=>True
noncomputable def DI (X:Cx) (ξ:XK) (tg iter:Expr) (f:Ro->Sto->Out Src):Prop:= ∃ wi:TI,PI X tg iter wi/\ ∀ σ ρ H α M R,SR X.K H α σ ρ->HR X.K H α M->OG X.K (ZiU X.K) H α ξ R (f ρ M)->wi σ H R
section
variable {X:Cx} {ξ:XK} {tg iter a b:Expr} {fs:Av} {f:Ev} {p pos:Pos}
noncomputable def iR1 (fs:Av):Ro->Sto->Out Src:=fun ρ M=>(fs ρ M).bind fun ds M1=>match ds with
 | [.int j]=>if -(2 ^ 62)<=j/\j < 2 ^ 62 then .ok (.pur (ZaF 0 j.toNat)) M1 else .bad
 |_=> .bad
theorem ZhM {K:PySem.W.Frag} {H:Hp} {α:List Addr} {lo:Int} {n:Nat}:ZiU K H α (Itr lo n) (.pur (ZaF lo n)):=by
 intro i H' α' M' ex hr
 show match some (ZaF lo n)[i]? with | some none=>_ | some (some d)=>_ | none=>True
 by_cases h:i < n
 ·rw[Zc7 h]
  refine ⟨h,fun x H'' y=> ?_⟩
  obtain ⟨e1,e2⟩:=y
  subst e1 e2
  exact ⟨Ext.refl,hr,.int _⟩
 ·rw[List.getElem?_eq_none (by rw[ZbP];omega)]
  exact Nat.le_of_not_lt h
noncomputable def iSq (f:Ev):Ro->Sto->Out Src:=fun ρ M=>(f ρ M).bind fun d M1=>match d with
 | .tup ds=> .ok (.pur ds) M1
 | .rol ds=> .ok (.pur ds) M1
 | .con ds=> .ok (.pur ds) M1
 | .ref n=> .ok (.sto n) M1
 |_=> .bad
end
noncomputable def blk (X:Cx) (scope:Scope) (cl:List (Str × Addr)) (N:List Str) (C:Addr) (fp:List Addr) (s:Shared) (H:Hp):Cx:=
 { X with N:=N,s₀:=s,H₀:=H,env:=compEnvC scope cl C X.env,outer:=X.stack,stack:=X.stack,ex:=fp,fn:=fun _=>false,pn:=[],xe:=fun _ _=>False }
noncomputable def ZbY (src:Src) (tg:Tg) (c:Tv) (f:Ev) (n:Nat):Nat->Nat->Ro->Sto->Out Unit
 |fuel,i,ρ,M=>match nxt src i M with
  |none=> .bad
  |some none=> .ok () M
  |some (some d)=>(match fuel with
   |0=> .bad
   |fuel + 1=>(match tg d ρ with
    |none=> .bad
    |some ρ1=>(match c ρ1 M with
     | .ok true M1=>(match f ρ1 M1 with
      | .ok x M2=>(match M2[n]? with
       |some (.lst xs)=>if xs.length < 10000000 then ZbY src tg c f n fuel (i + 1) ρ1 (M2.set n (.lst (xs ++ [x]))) else .bad
       |none=> .bad)
      |_=> .bad)
     | .ok false M1=>ZbY src tg c f n fuel (i + 1) ρ1 M1
     |_=> .bad)))
noncomputable def roB (k:Nat) (fr:List Nat) (ρ:Ro):Ro:=List.replicate k none ++ fr.map fun i=>(ρ[i]?).join
noncomputable def Zdt (fi:Ro->Sto->Out Src) (k:Nat) (fr:List Nat) (tg:Tg) (c:Tv) (f:Ev):Ev:=fun ρ M=>(fi ρ M).bind fun src M1=>match ZbY src tg c f M1.length (cnt src M1) 0 (roB k fr ρ) (M1 ++ [.lst []]) with
 | .ok _ M2=> .ok (.ref M1.length) M2
 |_=> .bad
structure Blk (X:Cx) (scope:Scope) (cl:List (Str × Addr)) (N:List Str) (k:Nat) (fr:List Nat):Prop where
 clos:closureFor scope X.env=pure cl
 kind:scope.kind= .function
 cell: ∀ y∈scope.names,y.2≠ .cell
 names: ∀ y∈scope.names,y.2= .local->scope.names.lookup y.1=some .local
 sub: ∀ x c,cl.lookup x=some c->X.env.cells.lookup x=some c
 has: ∀ x,((relabel scope X.env).names.lookup x=some .cell\/(relabel scope X.env).names.lookup x=some .free)-> ∃ c,cl.lookup x=some c
 len:N.length=k + fr.length
 at_: ∀ (j i:Nat),fr[j]?=some i-> ∃ x,N[k + j]?=some x/\X.N[i]?=some x/\X.env.kindOf x=some .cell/\((relabel scope X.env).names.lookup x=some .cell\/(relabel scope X.env).names.lookup x=some .free)/\cl.lookup x=X.env.cells.lookup x
theorem Zch {prog:Program} {w:World} {A:Around} {R:Result->Shared->Prop} {s:Shared} {elt target iter:Expr} {ifs:List Expr} {scope:Scope} {pos:Pos} {it acc:Value} {env:Env} (I:Nat->Shared->Prop)
  (turn: ∀ n s,I n s->wpAny (model prog w) A (pyNext it) (fun r s₁=>match r with
   |none=>R (.ok .next) s₁
   |some v=>wpAny (model prog w) A (letOwnedTupleGo target it v) (fun _ s₁=>wpAny (model prog w) A (assign target env v) (fun _ s₂=>
     wpAny (model prog w) A (forIn ifs true fun c r=>if r=true then do let ok <- isTrue c env (eval c env);pure (ForInStep.yield ok) else pure (ForInStep.yield r)) (fun ok s₃=>
      if ok=true then wpAny (model prog w) A (eval elt env) (fun x s₄=>
       wpAny (model prog w) A (call (.builtin "list.append") [acc,x]) (fun _ s₅=> ∃ m,m < n/\I m s₅) (fun _ _=>False) s₄) (fun _ _=>False) s₃
      else ∃ m,m < n/\I m s₃) (fun _ _=>False) s₂) (fun _ _=>False) s₁) (fun _ _=>False) s₁) (fun _ _=>False) s)
  (n:Nat) (h:I n s):
  codeAny (model prog w) A (.compLoop (.ListComp elt [⟨target,iter,ifs,0⟩] scope pos) 0 it acc env) R s:=by
 refine codeAny_loop rfl I (fun n s hI=> ?_) n h
 show wpAny _ A ((compTurn (.ListComp elt [⟨target,iter,ifs,0⟩] scope pos) 0 it acc env).onRaise (fun x=>do noteFrame x env;theTreesLotGoes x)) _ _ s
 refine wpAny_noted ?_
 rw[compTurn_list]
 refine wpAny_bind (wpAny_standAt (wpAny_bind (wpAny_mono (turn n s hI) (fun r s₁ h₁=> ?_) fun _ _ h'=>h'.elim)))
 cases r with
 |none=>exact wpAny_pure h₁
 |some v=>
  refine wpAny_bind (wpAny_mono h₁ (fun _ s₁ h₁=> ?_) fun _ _ h'=>h'.elim)
  refine wpAny_bind (wpAny_mono h₁ (fun _ s₂ h₂=>wpAny_bind (wpAny_mono h₂ (fun ok s₃ h₃=> ?_) fun _ _ h'=>h'.elim)) fun _ _ h'=>h'.elim)
  cases ok with
  |false=>exact wpAny_pure ⟨rfl,h₃⟩
  |true=>
   exact wpAny_bind (wpAny_bind (wpAny_mono h₃ (fun x s₄ h₄=>wpAny_bind (wpAny_mono h₄ (fun _ s₅ h₅=>wpAny_pure (wpAny_pure ⟨rfl,h₅⟩)) fun _ _ h'=>h'.elim)) fun _ _ h'=>h'.elim))
noncomputable def DC (X:Cx) (ifs:List Expr) (c:Tv):Prop:=(ifs=[]/\c=fun _ M=> .ok true M)\/ ∃ e,ifs=[e]/\DT X E0 e c
section
variable {X:Cx} {ξ:XK} {tg iter elt:Expr} {ifs:List Expr} {scope:Scope} {cl:List (Str × Addr)} {N:List Str} {k:Nat} {fr:List Nat} {fi:Ro->Sto->Out Src} {gt:Tg} {c:Tv} {f:Ev} {pos:Pos}
theorem Zf9 (B:Blk X scope cl N k fr) {pins:List (Addr × Obj)} {σ:L2.St} {H:Hp} {s:Shared} {fp:List Addr} (I:Inv X pins σ H s) (hf: ∀ b∈fp,ZcA X pins H b) (hlt: ∀ b∈fp,b < s.heap.objs.size):(blk X scope cl N s.heap.objs.size fp s H).Ok where
 mod:=I.ok.mod
 kind:=B.kind
 glob:=I.ok.glob
 blt:=I.ok.blt
 above:=Nat.le_refl _
 inj:=fun x y c h1 h2=>I.ok.inj x y c (B.sub x c h1) (B.sub y c h2)
 has:=fun x h=>B.has x h
 cab:=fun x c h=>(by cases h)
 hd:=I.ok.hd
 frames:=I.ok.frames
 stk:= .inl rfl
 exf:=fun b hb=>⟨Nat.ne_of_lt (hlt b hb),fun x c h=>(hf b hb).2.2.2.2.1 x c (B.sub x c h)⟩
 bs:=I.bs
 bsz:=Nat.le_trans I.ok.bsz I.sz
 noex:=fun b o e hb=>by
  rcases (hf b hb).2.2.2.1 with z | z
  ·exact I.ok.noex b o e z
  ·exact absurd (Nat.lt_of_lt_of_le (Heap.lt_size (I.ok.bs b o e).1) z) (Nat.lt_irrefl _)
 exfs:=fun b hb z=>by
  rcases List.mem_cons.mp (I.stkSub b z) with e | e
  ·exact (hf b hb).2.1 e
  ·exact (hf b hb).2.2.1 e
 funs:=I.stack
 frf:=I.stkFree
theorem join_some {α:Type} {o:Option (Option α)} {v:α} (h:o.join=some v):o=some (some v):=by
 cases o with
 |none=>cases h
 |some x=>cases x with
  |none=>cases h
  |some y=>cases h;rfl
theorem ZgT {ρ:Ro} {i:Nat} {d:D} (h:(roB k fr ρ)[i]?=some (some d)): ∃ j r,i=k + j/\fr[j]?=some r/\ρ[r]?=some (some d):=by
 unfold roB at h
 by_cases hi:i < k
 ·rw[List.getElem?_append_left (by rw[List.length_replicate];exact hi)] at h
  have:=List.mem_of_getElem? h
  rw[List.mem_replicate] at this
  cases this.2
 ·rw[List.getElem?_append_right (by rw[List.length_replicate];omega),List.length_replicate,List.getElem?_map] at h
  cases e:fr[i - k]? with
  |none=>rw[e] at h;cases h
  |some r=>
   rw[e] at h
   exact ⟨i - k,r,by omega,e,join_some (Option.some.inj h)⟩
noncomputable def stB (k:Nat) (fr:List Nat) (σ:L2.St):L2.St:=List.replicate k none ++ fr.map fun i=>(σ[i]?).join
theorem ZgU {σ:L2.St} {i:Nat} {d:V} (h:(stB k fr σ)[i]?=some (some d)): ∃ j r,i=k + j/\fr[j]?=some r/\σ[r]?=some (some d):=by
 unfold stB at h
 by_cases hi:i < k
 ·rw[List.getElem?_append_left (by rw[List.length_replicate];exact hi)] at h
  have:=List.mem_of_getElem? h
  rw[List.mem_replicate] at this
  cases this.2
 ·rw[List.getElem?_append_right (by rw[List.length_replicate];omega),List.length_replicate,List.getElem?_map] at h
  cases e:fr[i - k]? with
  |none=>rw[e] at h;cases h
  |some r=>
   rw[e] at h
   exact ⟨i - k,r,by omega,e,join_some (Option.some.inj h)⟩
theorem SR.blk {K:PySem.W.Frag} {H:Hp} {α:List Addr} {σ:L2.St} {ρ:Ro} (h:SR K H α σ ρ):SR K H α (stB k fr σ) (roB k fr ρ):=by
 refine ⟨by simp[stB,roB],fun i d e=> ?_⟩
 obtain ⟨j,r,rfl,e1,e2⟩:=ZgT e
 obtain ⟨v,e3,e4⟩:=h.2 r d e2
 refine ⟨v,?_,e4⟩
 unfold stB
 rw[List.getElem?_append_right (by rw[List.length_replicate];omega),List.length_replicate,List.getElem?_map,Nat.add_sub_cancel_left,e1]
 show some (σ[r]?).join=_
 rw[e3]
 rfl
theorem ZgV (B:Blk X scope cl N k fr) {pins:List (Addr × Obj)} {σ:L2.St} {H:Hp} {s:Shared} {fp:List Addr} {h1:Heap} {tk:Nat} {m:Str->Option Value} (I:Inv X pins σ H s) (hf: ∀ b∈fp,ZcA X pins H b) (hlt: ∀ b∈fp,b < s.heap.objs.size)
  (hn:h1.Ns s.heap.objs.size m) (hk: ∀ b o,s.heap.get? b=some o->h1.get? b=some o):Inv (blk X scope cl N s.heap.objs.size fp s H) [] (stB k fr σ) H { s with heap:=h1,toks:=tk } where
 ok:=Zf9 B I hf hlt
 os:=rfl
 bare:=I.bare
 base:=Un.kept hk
 loc:=by
  refine ⟨m,hn,fun i x v e1 e2 e3=> ?_⟩
  obtain ⟨j,r,rfl,g1,g2⟩:=ZgU e2
  obtain ⟨y,k1,k2,k3,k4,k5⟩:=B.at_ j r g1
  have exy:x=y:=Option.some.inj (e1.symm.trans k1)
  subst exy
  obtain ⟨m0,hm0,hl⟩:=I.loc
  obtain ⟨u,ru,lk⟩:=hl r x v k2 g2 (.inr (.inl k3))
  refine ⟨u,ru,?_⟩
  rcases lk with ⟨z,_⟩ | ⟨_,c,z1,⟨o,z2,z3⟩⟩
  ·rw[k3] at z;cases z
  ·exact .inr ⟨k4,c,k5.trans z1,⟨o,hk _ _ z2,z3⟩⟩
 cell:=fun x c h=>by
  obtain ⟨v,o,e1,e2⟩:=I.cell x c (B.sub x c h)
  exact ⟨v,o,hk _ _ e1,e2⟩
 free:=I.fresh
 freeC:=fun x c h=>I.freeC x c (B.sub x c h)
 pin:=fun p hp=>(by simp[blk] at hp)
 hok:=I.hok.kept hk
 len:=by
  show (stB k fr σ).length=N.length
  rw[B.len]
  simp[stB]
 qd:=I.qd
theorem Zfn {pins:List (Addr × Obj)} {σ σ5:L2.St} {H3 H5:Hp} {s3 s6:Shared} {fp:List Addr} (B:Blk X scope cl N k fr) (I3:Inv X pins σ H3 s3) (f3: ∀ b∈fp,ZcA X pins H3 b) (I6:Inv (blk X scope cl N s3.heap.objs.size fp s3 H3) [] σ5 H5 s6):Inv X pins σ H5 s6/\ ∀ (σ':L2.St) (s8:Shared) (h':Heap),Inv X pins σ' H5 s8->(∀ b o,b≠s3.heap.objs.size->s8.heap.get? b=some o->h'.get? b=some o)->Inv X pins σ' H5 { s8 with heap:=h',toks:=s8.toks }:=by
 refine ⟨I3.call' (s':=s6) (ch:=fp) I6.os I6.base I6.hok I6.bare fun b hb=> ?_,fun σ' s8 h' I8 sb=> ?_⟩
 ·obtain ⟨_,z1,z2,z3,z4,z5⟩:=f3 b hb
  exact ⟨z3,z1,z4,z5⟩
 ·exact I8.turned (it:=s3.heap.objs.size) sb I6.free (Nat.ne_of_gt I3.lt) (.inr I3.sz)
   (fun x c h z=>by
    obtain ⟨v,o,e,_⟩:=I3.cell x c h
    exact absurd (Heap.lt_size e) (by rw[z];exact Nat.lt_irrefl _)) (fun p hp z=>by
    have:=(I3.pin p hp).1
    exact absurd (Heap.lt_size this) (by rw[z];exact Nat.lt_irrefl _))
noncomputable def CmI (Y:Cx) (fp:List Addr) (tn:Nat->Heap->Prop) (H3:Hp) (α3:List Addr) (g:Nat->Nat->Ro->Sto->Prop) (n:Nat) (s':Shared):Prop:=
 ∃ i σ' ρ' H' α' M',Inv Y [] σ' H' s'/\tn i s'.heap/\(∀ b∈fp,H' b=none)/\SR Y.K H' α' σ' ρ'/\HR Y.K H' α' M'/\Ext Y.K H3 H' α3 α'/\g n i ρ' M'
theorem Zfo {Y:Cx} {fp α3:List Addr} {it D:Addr} {tn:Nat->Heap->Prop} {J:It} {tg iter elt:Expr} {ifs:List Expr} {scope:Scope} {pos:Pos} {gt:Tg} {c:Tv} {f:Ev} {src:Src} {H3:Hp} {σ0:L2.St} {ρ0:Ro} {M3 M9:Sto} {u9:Unit} {n0 fuel:Nat} {s4:Shared} {R:Result->Shared->Prop}
  (T:Turn Y.prog Y.w Y.K Y.A tg J fp it tn) (hxe: ∀ x y,Y.xe x y->False) (fp5: ∀ {H':Hp},(∀ b∈fp,H' b=none)-> ∀ b∈fp,ZcA Y [] H' b) (hg:DG Y tg gt) (tst:DC Y ifs c) (he:DE Y E0 elt f)
  (sc:ZiU Y.K H3 α3 J src) (aD:RefK H3 α3 0 n0 D) (I4:Inv Y [] σ0 H3 s4) (st4:tn 0 s4.heap) (fr4: ∀ b∈fp,H3 b=none) (sr:SR Y.K H3 α3 σ0 ρ0) (h3:HR Y.K H3 α3 M3) (er:ZbY src gt c f n0 fuel 0 ρ0 M3= .ok u9 M9)
  (post: ∀ σ5 H5 α5 s6,Inv Y [] σ5 H5 s6->Ext Y.K H3 H5 α3 α5->HR Y.K H5 α5 M9->R (.ok .next) s6):
  codeAny (model Y.prog Y.w) Y.A (.compLoop (.ListComp elt [⟨tg,iter,ifs,0⟩] scope pos) 0 (.ref it) (.ref D) Y.env) R s4:=by
 obtain ⟨tt,pt,qt⟩:=hg
 obtain ⟨te,pe,qe⟩:=he
 refine Zch (CmI Y fp tn H3 α3 fun n i ρ' M'=>ZbY src gt c f n0 n i ρ' M'= .ok u9 M9) ?_ fuel ⟨0,σ0,ρ0,H3,α3,M3,I4,st4,fr4,sr,h3,Ext.refl,er⟩
 rintro n s5 ⟨i,σ5,ρ5,H5,α5,M5,I5,st5,fr5,sr5,hr5,ex5,en⟩
 have src5:=sc i H5 α5 M5 ex5 hr5
 rw[ZbY] at en
 cases ex:nxt src i M5 with
 |none=>rw[ex] at en;cases en
 |some od=>
  rw[ex] at src5 en
  cases od with
  |none=>
   cases en
   have fin:=T.done Y rfl rfl rfl rfl i [] s5 σ5 H5 (fun _ _=>False) I5 (fp5 fr5) st5 src5
   refine thn fin fun r s6 w6=> ?_
   obtain ⟨hr6,I6⟩:=w6
   subst hr6
   exact post σ5 H5 α5 s6 I6 ex5 hr5
  |some d=>
   obtain ⟨go,yl⟩:=src5
   cases n with
   |zero=>cases en
   |succ n=>
    simp only at en
    have itm:=T.item Y rfl rfl rfl rfl i [] s5 σ5 H5 (fun _ _=>False) I5 (fp5 fr5) st5 go
    refine thn itm fun r s6 ⟨u,hr6,w6⟩=> ?_
    subst hr6
    refine thn w6 fun _ s7 ⟨x,H7,I7,r7,y7,st7,fr7⟩=> ?_
    obtain ⟨ex7,hr7,rp7⟩:=yl x H7 y7
    have sr5:=sr5.mono ex7
    have hr5:=hr7
    have ex5:=ex5.trans ex7
    have I7':=I7.pinned (fp5 fr7) (T.obj _ _ st7)
    cases eg:gt d ρ5 with
    |none=>rw[eg] at en;cases en
    |some ρ6=>
     rw[eg] at en
     simp only at en
     have asg:=pt _ s7 σ5 H7 x u _ I7' r7 (qt x d σ5 ρ5 H7 α5 ρ6 (fun σ' H'=>H'=H7/\SR Y.K H7 α5 σ' ρ6) sr5 rp7 eg fun σ' s'=>⟨rfl,s'⟩)
     refine wpAny_mono asg (fun _ s8 ⟨σ8,H8,I8,z8,sr8⟩=> ?_) (fun x y z=>hxe x y z)
     subst z8
     have again: ∀ {σ9:L2.St} {H9:Hp} {s9:Shared},Inv Y ([] ++ Zbv fp s7.heap) σ9 H9 s9->Inv Y [] σ9 H9 s9/\tn (i + 1) s9.heap/\ ∀ b∈fp,H9 b=none:=fun {σ9 H9 s9} I9=>by
      refine ⟨I9.unpinned,T.keep _ _ _ st7 fun b hb o e=>(I9.pin (b,o) (List.mem_append_right _ (List.mem_append_right _ (Zan hb e)))).1,fun b hb=> ?_⟩
      obtain ⟨o,e,_⟩:=T.obj _ _ st7 b hb
      exact (I9.pin (b,o) (List.mem_append_right _ (List.mem_append_right _ (Zan hb e)))).2.1
     have after: ∀ (kk:Bool) (M8:Sto) (H9:Hp) (α9:List Addr) (s9:Shared),Inv Y ([] ++ Zbv fp s7.heap) σ8 H9 s9->Ext Y.K H8 H9 α5 α9->HR Y.K H9 α9 M8->c ρ6 M5= .ok kk M8->
       (if kk=true then wpAny (model Y.prog Y.w) Y.A (eval elt Y.env) (fun x s₄=>wpAny (model Y.prog Y.w) Y.A (call (.builtin "list.append") [.ref D,x]) (fun _ s₅=> ∃ m,m < n + 1/\CmI Y fp tn H3 α3 (fun n i ρ' M'=>ZbY src gt c f n0 n i ρ' M'= .ok u9 M9) m s₅) (fun _ _=>False) s₄) (fun _ _=>False) s9
        else ∃ m,m < n + 1/\CmI Y fp tn H3 α3 (fun n i ρ' M'=>ZbY src gt c f n0 n i ρ' M'= .ok u9 M9) m s9):=by
      intro kk M8 H9 α9 s9 I9 ex9 hr9 ec
      rw[ec] at en
      cases kk with
      |false=>
       obtain ⟨a1,a2,a3⟩:=again I9
       exact Zil ⟨n,Nat.lt_succ_self n,i + 1,σ8,ρ6,H9,α9,M8,a1,a2,a3,sr8.mono ex9,hr9,ex5.trans ex9,en⟩
      |true=>
       simp only at en
       refine Zim ?_
       cases ef:f ρ6 M8 with
       |exc x9 M10=>rw[ef] at en;cases en
       |bad=>rw[ef] at en;cases en
       |ok y M10=>
        rw[ef] at en
        simp only at en
        have ev:=pe _ s9 σ8 H9 (fun v H'=> ∃ α',Ext Y.K H9 H' α9 α'/\HR Y.K H' α' M10/\Rep Y.K H' α' v y) I9 (qe σ8 ρ6 H9 α9 M8 _ (sr8.mono ex9) hr9 (by
         rw[ef]
         exact fun v H' α' e h r=>⟨α',e,h,r⟩))
        refine wpAny_mono ev (fun yv s10 ⟨v,H10,I10,r10,α10,ex10,hr10,rp10⟩=> ?_) (fun x y z=>hxe x y z)
        cases em:M10[n0]? with
        |none=>rw[em] at en;cases en
        |some so=>
         cases so with
         |lst ds=>
          rw[em] at en
          simp only at en
          by_cases cz:ds.length < 10000000
          ·rw[if_pos cz] at en
           have aD10:=ex10.get (ex9.get (ex5.get aD))
           obtain ⟨xs,g1,g2⟩:=hr10.at aD10 em
           have ap:=Zb6 (X:=Y) _ s10 σ8 H10 (.ref D) [v] (.ref D) [yv] (fun _ H'=>H'=upd H10 D (.lst (xs ++ [v]))) I10 rfl (.cons r10 .nil) ⟨D,xs,v,rfl,rfl,g1,by rw[g2.length];exact Nat.lt_of_lt_of_le cz (by decide),rfl⟩
           refine wpAny_mono ap (fun _ s11 ⟨v11,H11,I11,_,z11⟩=> ?_) (fun x y z=>hxe x y z)
           subst z11
           obtain ⟨a1,a2,a3⟩:=again I11
           have exw:Ext Y.K H10 (upd H10 D (.lst (xs ++ [v]))) α10 α10:=Ext.wr g1
           exact ⟨n,Nat.lt_succ_self n,i + 1,σ8,ρ6,_,α10,_,a1,a2,a3,((sr8.mono ex9).mono ex10).mono exw,hr10.wr aD10 g1 (g2.append (.cons rp10 .nil)),((ex5.trans ex9).trans ex10).trans exw,en⟩
          ·rw[if_neg cz] at en
           cases en
     rcases tst with ⟨rfl,ec⟩ | ⟨e,rfl,tt',ptt,qtt⟩
     ·refine wpAny_tests_nil ?_
      exact after true M5 H8 α5 s8 I8 Ext.refl hr5 (by rw[ec])
     ·refine wpAny_tests_one ?_
      cases ec:c ρ6 M5 with
      |exc x9 M10=>rw[ec] at en;cases en
      |bad=>rw[ec] at en;cases en
      |ok kk M8=>
       have tv':=ptt _ s8 σ8 H8 (fun b H'=>b=kk/\ ∃ α',Ext Y.K H8 H' α5 α'/\HR Y.K H' α' M8) I8 (qtt σ8 ρ6 H8 α5 M5 _ sr8 hr5 (by
        rw[ec]
        exact fun v H' α' e h r=>⟨r,α',e,h⟩))
       refine wpAny_mono tv' (fun b s9 ⟨H9,I9,zb,α9,ex9,hr9⟩=> ?_) (fun x y z=>hxe x y z)
       subst zb
       exact after b M8 H9 α9 s9 I9 ex9 hr9 ec
theorem ZgW (B:Blk X scope cl N k fr) (hi:DI X ξ tg iter fi) (hg: ∀ C fp s H,DG (blk X scope cl N C fp s H) tg gt) (ht: ∀ C fp s H,DC (blk X scope cl N C fp s H) ifs c) (he: ∀ C fp s H,DE (blk X scope cl N C fp s H) E0 elt f)
  (hs: ∀ x,foldedSetIterable iter X.env x=pure x:=by intro _;rfl):DE X ξ (.ListComp elt [⟨tg,iter,ifs,0⟩] scope pos) (Zdt fi k fr gt c f):=by
 obtain ⟨wi,pi,qi⟩:=hi
 refine ⟨fun σ H Q=> ∃ ρ α M,SR X.K H α σ ρ/\HR X.K H α M/\OP X.K H α ξ Q (Zdt fi k fr gt c f ρ M),?_,fun σ ρ H α M Q s h q=>⟨ρ,α,M,s,h,q⟩⟩
 rintro pins s σ H Q I ⟨ρ,α,M,sr,hr,op⟩
 rw[eval_ListComp]
 refine wpAny_comprehension_free (use:=none) rfl hs B.clos B.kind B.names ?_
 refine thn (pi pins s σ H (fun J H2=> ∃ α2 M2 src,Ext X.K H H2 α α2/\HR X.K H2 α2 M2/\ZiU X.K H2 α2 J src/\OP X.K H2 α2 ξ Q (match ZbY src gt c f M2.length (cnt src M2) 0 (roB k fr ρ) (M2 ++ [.lst []]) with | .ok _ M2'=> .ok (.ref M2.length) M2' | _=> .bad)) I
  (qi σ ρ H α M _ sr hr (OG.seq op fun src M1 J H1 α1 e1 h1 r1 q1=>⟨α1,M1,src,e1,h1,r1,q1⟩))) fun v s1 w1=>thn w1 fun itv s2 w2=> ?_
 obtain ⟨it,fp,tn,J,H2,rfl,I2,T,st2,f2,α2,M2,src,e2,h2,sc,op2⟩:=w2
 have srI:=sr.mono e2
 refine wpAny_newObj_type ?_
 have I3:Inv X pins σ (upd H2 s2.heap.objs.size (.lst [])) { s2 with heap:=s2.heap.push { cls:= .type "list",data:= .seq ([]:List Value).toArray } }:=I2.lnew (its:=[]) (t':=s2.toks) .nil (Nat.zero_le _)
 have fD:H2 s2.heap.objs.size=none:=I2.fresh
 generalize hD:s2.heap.objs.size=D at I3 fD
 generalize hs3:({ s2 with heap:=s2.heap.push { cls:= .type "list",data:= .seq ([]:List Value).toArray } }:Shared)=s3 at I3
 generalize hH3:upd H2 D (.lst [])=H3 at I3
 have h3:HR X.K H3 (α2 ++ [D]) (M2 ++ [.lst []]):=by rw[<- hH3];exact h2.new fD .nil
 have e3:Ext X.K H2 H3 α2 (α2 ++ [D]):=by rw[<- hH3];exact Ext.new fD
 have aD:RefK H3 (α2 ++ [D]) 0 M2.length D:=⟨h2.last D,by first | exact Kn.lst Zl | (rw[<- hH3];exact Kn.lst Zl)⟩
 have lt2: ∀ b∈fp,b < s2.heap.objs.size:=fun b hb=>let ⟨o,e,_⟩:=T.obj _ _ st2 b hb;Heap.lt_size e
 have keep3: ∀ b o,s2.heap.get? b=some o->s3.heap.get? b=some o:=fun b o e=>by rw[<- hs3];exact Heap.get?_push_of_some _ e
 have f3: ∀ b∈fp,ZcA X pins H3 b:=fun b hb=>⟨by rw[<- hH3,Zm (by rw[<- hD];exact Nat.ne_of_lt (lt2 b hb))];exact (f2 b hb).1,(f2 b hb).2⟩
 have lt3: ∀ b∈fp,b < s3.heap.objs.size:=fun b hb=>let ⟨o,e,_⟩:=T.obj _ _ st2 b hb;Heap.lt_size (keep3 b o e)
 have st3:tn 0 s3.heap:=T.keep _ _ _ st2 fun b _ o e=>keep3 b o e
 refine wpAny_newFunctionEnv B.cell (by intro y hy;simp at hy) (fun h₁ hns₁ hsb₁=> ?_) B.kind
 have keep4: ∀ b o,s3.heap.get? b=some o->h₁.get? b=some o:=fun b o e=>hsb₁.extBut b o (Nat.ne_of_lt (Heap.lt_size e)) (Heap.get?_push_of_some _ e)
 have I4:=ZgV (tk:=s3.toks + ([]:List (Str × Value)).length) B I3 f3 lt3 hns₁ keep4
 have st4:tn 0 h₁:=T.keep _ _ _ st3 fun b _ o e=>keep4 b o e
 have fp5: ∀ {H':Hp},(∀ b∈fp,H' b=none)-> ∀ b∈fp,ZcA (blk X scope cl N s3.heap.objs.size fp s3 H3) [] H' b:=fun hn b hb=>⟨hn b hb,Nat.ne_of_lt (lt3 b hb),(Zf9 B I3 f3 lt3).exfs b hb,.inl hb,fun x c h=>(f3 b hb).2.2.2.2.1 x c (B.sub x c h),fun p hp=>(by simp[blk] at hp)⟩
 cases er:ZbY src gt c f M2.length (cnt src M2) 0 (roB k fr ρ) (M2 ++ [.lst []]) with
 |exc x M9=>rw[er] at op2;exact op2.elim
 |bad=>rw[er] at op2;exact op2.elim
 |ok u9 M9=>
  rw[er] at op2
  have loop:codeAny (model X.prog X.w) X.A (.compLoop (.ListComp elt [⟨tg,iter,ifs,0⟩] scope pos) 0 (.ref it) (.ref D) (compEnvC scope cl s3.heap.objs.size X.env)) (compPost (model X.prog X.w) X.A X.xe none (EP X pins σ Q) (.ref D) s3.heap.objs.size) { s3 with heap:=h₁,toks:=s3.toks + ([]:List (Str × Value)).length }:=by
   refine Zfo (Y:=blk X scope cl N s3.heap.objs.size fp s3 H3) T (fun _ _ z=>z) fp5 (hg _ fp s3 H3) (ht _ fp s3 H3) (he _ fp s3 H3) (fun i H' α' M' ex hr=>sc i H' α' M' (e3.trans ex) hr) aD I4 st4 (fun b hb=>(f3 b hb).1) ((srI.blk).mono e3) h3 er ?_
   intro σ5 H5 α5 s6 I6 ex5 hr5
   obtain ⟨I7,I8⟩:=Zfn B I3 f3 I6
   obtain ⟨m6,hm6,_⟩:=id I6.loc
   exact ⟨m6,hm6,fun h' sb=>⟨.ref D,H5,I8 σ s6 h' I7 (fun b o hb e=>(sb.2 b hb).trans e),rfl,op2 _ H5 α5 (e3.trans ex5) hr5 (.ref (ex5.get aD))⟩⟩
  exact codeAny_compStart_list loop (T.self X.A 0 _ _ _ st4 loop)
end
end DL
end
section
namespace DL
open PySem PySem.Spec PyProof.Rows L2
theorem ZkC {names:List (Str × NameKind)} {env:Env} (h:names.all (fun y=>y.2 != .cell && y.2 != .free)=true):
  (names.map fun (n,k)=>if (k == NameKind.free && env.scope.kind == .function && env.kindOf n == some .cell) then (n,NameKind.cell) else (n,k))=names:=by
 induction names with
 |nil=>rfl
 |cons y r ih=>
  rw[List.all_cons,Bool.and_eq_true] at h
  obtain ⟨n,kd⟩:=y
  have hk:(kd == NameKind.free)=false:=by
   have h1:=h.1
   rw[Bool.and_eq_true] at h1
   have h2:=h1.2
   cases kd<;>first | rfl | simp at h2
  rw[List.map_cons,ih h.2]
  simp[hk]
theorem ZcJ {env:Env}: ∀ (names:List (Str × NameKind)) (acc:List (Str × Addr)),(∀ y∈names,y.2= .free-> ∃ c,env.cells.lookup y.1=some c)->
  (forIn names acc fun (x:Str × NameKind) (cs:List (Str × Addr))=>if x.2 == NameKind.free then (do let a <- cellOf env x.1;pure (ForInStep.yield ((x.1,a) :: cs))) else (pure (ForInStep.yield cs):Sem _))=
   (pure (((names.filter fun y=>y.2 == .free).map fun y=>(y.1,(env.cells.lookup y.1).getD 0)).reverse ++ acc):Sem (List (Str × Addr)))
 | [],acc,_=>by simp
 | (n,kd) :: r,acc,h=>by
  rw[List.forIn_cons]
  by_cases hk:(kd == NameKind.free)=true
  ·obtain ⟨c,hc⟩:=h (n,kd) List.mem_cons_self (by simpa using hk)
   have e1:cellOf env n=pure c:=by unfold cellOf;rw[hc]
   have ih:=ZcJ r ((n,c) :: acc) fun y hy=>h y (List.mem_cons_of_mem _ hy)
   simp only[hk,if_true,e1,pure_bind]
   refine Eq.trans ih ?_
   simp[List.filter_cons,hk,hc]
  ·have ih:=ZcJ r acc fun y hy=>h y (List.mem_cons_of_mem _ hy)
   simp only[hk,if_false,pure_bind]
   refine Eq.trans ih ?_
   simp[List.filter_cons,hk]
noncomputable def clF (scope:Scope) (env:Env):List (Str × Addr):=((scope.names.filter fun y=>y.2 == .free).map fun y=>(y.1,(env.cells.lookup y.1).getD 0)).reverse
theorem Zbz {env:Env}: ∀ {l:List (Str × NameKind)} {x:Str} {c:Addr},(l.map fun y=>(y.1,(env.cells.lookup y.1).getD 0)).lookup x=some c->c=(env.cells.lookup x).getD 0/\ ∃ y∈l,y.1=x
 | [],x,c,h=>by simp at h
 |y :: r,x,c,h=>by
  rw[List.map_cons,List.lookup_cons] at h
  cases e:x == y.1 with
  |true=>
   rw[e] at h
   have ex:x=y.1:=by simpa using e
   cases h
   exact ⟨by rw[ex],y,List.mem_cons_self,ex.symm⟩
  |false=>
   rw[e] at h
   obtain ⟨h1,z,h2,h3⟩:=Zbz h
   exact ⟨h1,z,List.mem_cons_of_mem _ h2,h3⟩
theorem ZaG {α:Type}: ∀ {l:List (Str × α)} {x:Str},(∃ y∈l,y.1=x)-> ∃ c,l.lookup x=some c
 | [],x,h=>by obtain ⟨y,h1,_⟩:=h;simp at h1
 |z :: r,x,h=>by
  rw[List.lookup_cons]
  cases e:x == z.1 with
  |true=>exact ⟨_,rfl⟩
  |false=>
   obtain ⟨y,h1,h2⟩:=h
   rcases List.mem_cons.mp h1 with q | q
   ·subst q;rw[h2] at e;simp at e
   ·exact ZaG ⟨y,q,h2⟩
theorem ZT {env:Env} (nc: ∀ n,env.scope.names.lookup n=env.kindOf n): ∀ {names:List (Str × NameKind)} {x:Str} {kd:NameKind},(names.map fun (n,k)=>if (k == NameKind.free && env.scope.kind == .function && env.kindOf n == some .cell) then (n,NameKind.cell) else (n,k)).lookup x=some kd->
  names.lookup x=some kd\/(names.lookup x=some .free/\kd= .cell)
 | [],x,kd,h=>by simp at h
 | (n,q) :: r,x,kd,h=>by
  rw[List.map_cons,List.lookup_cons] at h
  rw[List.lookup_cons]
  dsimp only at h ⊢
  by_cases c:(q == NameKind.free && env.scope.kind == .function && env.kindOf n == some .cell)=true
  ·rw[if_pos c] at h
   dsimp only at h
   cases e:x == n with
   |true=>
    rw[e] at h
    cases h
    simp only[Bool.and_eq_true,beq_iff_eq] at c
    exact .inr ⟨by rw[c.1.1],rfl⟩
   |false=>rw[e] at h;exact ZT nc h
  ·rw[if_neg c] at h
   dsimp only at h
   cases e:x == n with
   |true=>rw[e] at h;exact .inl h
   |false=>rw[e] at h;exact ZT nc h
theorem Zaj {env:Env}: ∀ {names:List (Str × NameKind)} {x:Str},names.lookup x=some .free->(∃ kd,(kd=NameKind.cell\/kd=NameKind.free)/\(names.map fun (n,k)=>if (k == NameKind.free && env.scope.kind == .function && env.kindOf n == some .cell) then (n,NameKind.cell) else (n,k)).lookup x=some kd)
 | [],x,h=>by simp at h
 | (n,q) :: r,x,h=>by
  rw[List.lookup_cons] at h
  rw[List.map_cons,List.lookup_cons]
  by_cases c:(q == NameKind.free && env.scope.kind == .function && env.kindOf n == some .cell)=true
  ·dsimp only
   rw[if_pos c]
   cases e:x == n with
   |true=>exact ⟨_,.inl rfl,rfl⟩
   |false=>rw[e] at h;exact Zaj h
  ·dsimp only
   rw[if_neg c]
   cases e:x == n with
   |true=>rw[e] at h;exact ⟨q,.inr (Option.some.inj h),rfl⟩
   |false=>rw[e] at h;exact Zaj h
noncomputable def ZmH (XN N:List Str) (dn sn:List (Str × NameKind)) (k:Nat) (fr:List Nat):Bool:=
 (sn.all fun y=>y.2 != .cell && (y.2 != .free || dn.lookup y.1 == some .cell) && (y.2 != .local || sn.lookup y.1 == some .local)) && N.length == k + fr.length &&
  (List.range fr.length).all fun j=>match fr[j]? with
   |some i=>(match N[k + j]?,XN[i]? with | some x,some y=>x == y && dn.lookup x == some .cell && sn.lookup x == some .free | _,_=>false)
   |none=>false
theorem ZnQ {X:Cx} {scope:Scope} {N:List Str} {k n:Nat} {fr:List Nat} {XN:List Str} {dn:List (Str × NameKind)} (hN:X.N=XN) (hd:X.env.scope.names=dn) (hc:X.env.cells=cellsFrom n dn []) (hk:scope.kind= .function) (h:ZmH XN N dn scope.names k fr=true):Blk X scope (clF scope X.env) N k fr:=by
 unfold ZmH at h
 simp only[Bool.and_eq_true,List.all_eq_true,bne_iff_ne,ne_eq,Bool.or_eq_true,beq_iff_eq] at h
 obtain ⟨⟨h1,h2⟩,h3⟩:=h
 have kind: ∀ x,X.env.kindOf x=dn.lookup x:=fun x=>by rw[<- hd];rfl
 have cel: ∀ x,dn.lookup x=some .cell-> ∃ c,X.env.cells.lookup x=some c:=fun x e=>by
  have:=PySem.W.cellsFrom_some dn n [] (.inl e)
  rw[hc]
  exact Option.isSome_iff_exists.mp this
 have frc: ∀ y∈scope.names,y.2= .free-> ∃ c,X.env.cells.lookup y.1=some c:=fun y hy e=>by
  rcases (h1 y hy).1.2 with z | z
  ·exact absurd e z
  ·exact cel _ z
 have sub: ∀ x c,(clF scope X.env).lookup x=some c->X.env.cells.lookup x=some c:=fun x c e=>by
  unfold clF at e
  rw[<- List.map_reverse] at e
  obtain ⟨e1,y,e2,e3⟩:=Zbz e
  have e4:=List.mem_filter.mp (List.mem_reverse.mp e2)
  obtain ⟨c',g⟩:=frc y e4.1 (by simpa using e4.2)
  rw[e3] at g
  rw[g] at e1 ⊢
  rw[e1]
  rfl
 have has: ∀ x,scope.names.lookup x=some .free-> ∃ c,(clF scope X.env).lookup x=some c:=fun x e=>by
  refine ZaG ?_
  have m:=PySem.mem_of_lookup e
  exact ⟨(x,(X.env.cells.lookup x).getD 0),List.mem_reverse.mpr (List.mem_map.mpr ⟨(x,.free),List.mem_filter.mpr ⟨m,by simp⟩,rfl⟩),rfl⟩
 refine ⟨?_,hk,fun y hy=>(h1 y hy).1.1,fun y hy e=> ?_,sub,fun x z=> ?_,h2,fun j i e=> ?_⟩
 ·have:=ZcJ (env:=X.env) scope.names [] frc
  rw[List.append_nil] at this
  unfold closureFor
  exact (congrArg (fun (m:Sem (List (Str × Addr)))=>m >>= fun cs=>(pure cs:Sem (List (Str × Addr)))) this).trans (pure_bind _ _)
 ·rcases (h1 y hy).2 with z | z
  ·exact absurd e z
  ·exact z
 ·have nc: ∀ m,X.env.scope.names.lookup m=X.env.kindOf m:=fun m=>rfl
  refine has x ?_
  rcases z with z | z
  ·rcases ZT nc z with q | q
   ·exact absurd rfl (h1 _ (PySem.mem_of_lookup q)).1.1
   ·exact q.1
  ·rcases ZT nc z with q | q
   ·exact q
   ·cases q.2
 ·have hj:j < fr.length:=(List.getElem?_eq_some_iff.mp e).1
  have q:=h3 j (List.mem_range.mpr hj)
  rw[e] at q
  dsimp only at q
  cases e1:N[k + j]? with
  |none=>rw[e1] at q;cases q
  |some x=>
   cases e2:XN[i]? with
   |none=>rw[e1,e2] at q;cases q
   |some y=>
    rw[e1,e2] at q
    simp only[Bool.and_eq_true,beq_iff_eq] at q
    obtain ⟨⟨q1,q2⟩,q3⟩:=q
    subst q1
    obtain ⟨kd,r1,r2⟩:=Zaj (env:=X.env) q3
    obtain ⟨c,r3⟩:=has x q3
    refine ⟨x,rfl,by rw[hN];exact e2,by rw[kind];exact q2,?_,r3.trans (sub x c r3).symm⟩
    rcases r1 with r1 | r1
    ·exact .inl (r1 ▸ r2)
    ·exact .inr (r1 ▸ r2)
section
variable {X:Cx} {ξ:XK}
noncomputable def Za0:List D->Option (List Bool)
 | []=>some []
 | .bl b :: r=>match Za0 r with | some bs=>some (b :: bs) | none=>none
 |_ :: _=>none
noncomputable def ZmI:List D->Sto->Out D:=fun ds M=>match ds with
 | [.ref n]=>(match M[n]? with | some (.lst xs)=>(match Za0 xs with | some bs=> .ok (.bl (bs.all id)) M | none=> .bad) | none=> .bad)
 |_=> .bad
end
section
variable {prog:Program} {w:World} {A:Around} {E:Value->Shared->Prop} {s:Shared}
end
section
variable {X:Cx} {ξ:XK} {e:Expr} {f:Ev} {p2 p3 p4 pos:Pos} {j:Nat}
end
end DL
end
section
namespace DL
open PySem PySem.Spec PyProof.Rows L2
section
variable {X:Cx} {ξ:XK}
end
end DL
end
section
namespace DL
open PySem PySem.Spec PyProof.Rows L2
section
variable {M:Model} {A:Around} {E:Value->Shared->Prop} {s:Shared}
end
section
variable {X:Cx} {ξ:XK} {tg iter elt:Expr} {ifs:List Expr} {scope:Scope} {cl:List (Str × Addr)} {N:List Str} {k:Nat} {fr:List Nat} {fi:Ro->Sto->Out Src} {gt:Tg} {c:Tv} {f:Ev} {pos:Pos}
end
section
variable {X:Cx} {scope0:Scope} {cl0:List (Str × Addr)} {N0:List Str} {k0:Nat} {fr0:List Nat} {C:Addr} {fp:List Addr} {s:Shared} {H:Hp} {scope:Scope} {N:List Str} {k:Nat} {fr:List Nat} {dn:List (Str × NameKind)}
end
end DL
end
section
namespace DL
open PySem PySem.Spec PyProof.Rows L2
open PySem.W (nsIn excIn tailIn nsOkIn mroIn clsIn typeIn findIn specialIn takesIn kitOne Looks)
noncomputable abbrev bmV:List Value:=[.type "ValueError",.type "Exception",.type "BaseException",.type "object"]
noncomputable def ZaS (K:PySem.W.Frag) (c:Str):Option Addr:=match nsIn K mainGlobals c with | some (some (.ref C))=>some C | _=>none
theorem ZbQ {K:PySem.W.Frag} {c:Str} {C:Addr} (h:ZaS K c=some C):nsIn K mainGlobals c=some (some (.ref C)):=by
 unfold ZaS at h
 split at h
 ·rename_i C' e;cases h;exact e
 ·cases h
noncomputable def Zfp (K:PySem.W.Frag) (c:Str):Bool:=match ZaS K c with
 |some C=>excIn K C bmV "ValueError.__new__" && findIn K (.ref C) "__getattribute__" == some (some (.builtin "BaseException.__getattribute__")) && findIn K (.ref C) "__getattr__" == some none && findIn K (.ref C) "__class__" == some (some (.builtin "object.__class__")) &&
  specialIn K (.builtin "object.__class__") "__get__" == some (some (.builtin "getset_descriptor.__get__")) && takesIn K (.builtin "object.__class__") == some true && mroIn K C (.type "BaseException") == some true && mroIn K C (.type "object") == some true && (clsIn K C).isSome
 |none=>false
theorem Zeu {K:PySem.W.Frag} {c:Str} (h:Zfp K c=true): ∃ C,nsIn K mainGlobals c=some (some (.ref C))/\excIn K C bmV "ValueError.__new__"=true/\DQ.ExcC K C:=by
 unfold Zfp at h
 split at h
 ·rename_i C e
  simp only[Bool.and_eq_true,beq_iff_eq] at h
  obtain ⟨⟨⟨⟨⟨⟨⟨⟨h1,h2⟩,h3⟩,h4⟩,h5⟩,h6⟩,h7⟩,h8⟩,h9⟩:=h
  exact ⟨C,ZbQ e,h1,h2,h3,h4,h5,h6,h7,h8,h9⟩
 ·cases h
theorem ZgX {K:PySem.W.Frag} {h:Heap} {C:Addr} {bmB:List Value} {newId:String} (X:K.In h) (q:excIn K C bmB newId=true):
  ∃ bm N nm q bs hdct sn sub ab col dd k0 k1 k2 k3 k5 mN,h.get? C=some (excClassObj nm q C N bs bm hdct sn sub ab col dd k0 k1 k2 k3 k5 newId)/\h.Ns N mN/\mN "__init__"=none/\OwnTail h bmB bm:=by
 unfold excIn at q
 split at q
 ·rename_i dd cd sl ho
  split at q
  ·rename_i C' bm k0 k1 k2 k3 n k5 hm hs
   simp only[Bool.and_eq_true,beq_iff_eq,Bool.not_eq_true'] at q
   obtain ⟨⟨⟨⟨⟨rfl,rfl⟩,hdel⟩,ht⟩,hok⟩,hni⟩:=q
   obtain ⟨nm,bs,mro,ns,qn,hd,sn,sub,ab,col,del⟩:=cd
   dsimp only at hm hdel hok hni
   subst hm hdel
   obtain ⟨l⟩:=sl
   simp only at hs
   subst hs
   exact ⟨bm,ns,nm,qn,bs,hd,sn,sub,ab,col,dd,k0,k1,k2,k3,k5,_,X _ _ ho,.of_isNs (PySem.W.isNs_of_in X hok),PySem.W.nsMap_none_of_in X hok hni,PySem.W.tail_of_in X ht⟩
  ·cases q
 ·cases q
noncomputable def ZG (K:PySem.W.Frag) (d:Str) (tab:List (Str × Bool)):Bool:=match ZaS K d with
 |some D=>tab.all fun p=>Zfp K p.1 && (match ZaS K p.1 with | some C=>kitOne K (.ref C) (.ref D) == some p.2 | none=>false)
 |none=>false
noncomputable def Zev (K:PySem.W.Frag) (T:String) (tab:List (Str × Bool)):Bool:=tab.all fun p=>Zfp K p.1 && (match ZaS K p.1 with | some C=>kitOne K (.ref C) (.type T) == some p.2 | none=>false)
noncomputable def Zc8 (K:PySem.W.Frag) (d:Str) (cs:List Str):Bool:=match ZaS K d with
 |some D=>mroIn K D (.type "BaseException") == some true && typeIn K (.ref D) == some (.type "type") && (clsIn K D).isSome && cs.all fun c=>Zfp K c && (match ZaS K c with | some C=>mroIn K C (.ref D) == some true | none=>false)
 |none=>false
theorem Zc9 {K:PySem.W.Frag} {c:Str} {C:Addr} (h:nsIn K mainGlobals c=some (some (.ref C))):ZaS K c=some C:=by
 unfold ZaS
 rw[h]
theorem ZgY {α:Type} {tab:List (Str × α)} {c:Str} {b:α} (h:tab.lookup c=some b):(c,b)∈tab:=PySem.mem_of_lookup h
noncomputable def Za4 (tab:List (Str × Bool)) (f:Ev):Ev:=fun ρ M=>(f ρ M).bind fun x M1=>match x with | .err c _=>(match tab.lookup c with | some b=> .ok (.bl b) M1 | none=> .bad) | _=> .bad
section
variable {X:Cx} {ξ:XK} {e:Expr} {fa:Ev} {p pos:Pos} {tab:List (Str × Bool)}
noncomputable def ZnR (X:Cx) (cv2:V) (tab:List (Str × Bool)):List V->Hp->VK->Prop:=fun vs H Q=> ∃ (q:Addr) (C:Addr) (c:Str) (xs:List V) (b:Bool),vs=[.ref q,cv2]/\EOk H q C xs/\nsIn X.K mainGlobals c=some (some (.ref C))/\tab.lookup c=some b/\Q (.bl b) H
theorem ZgZ {H:Hp} {pins:List (Addr × Obj)} {σ:L2.St} {s:Shared} {q C:Addr} {xs:List V} (I:Inv X pins σ H s) (h:EOk H q C xs): ∃ oe od,PySem.W.InstAt s.heap q oe C od:=by
 obtain ⟨oe,u,vs,h1,h2,h3,h4,h5⟩:=h
 have g:=(I.hok q _ h1).1
 have nc:PySem.W.notCls oe=true:=by unfold PySem.W.notCls;rw[h3]
 rcases h5 with ⟨_,h5⟩ | ⟨dx,fs,k1,k2,k3⟩
 ·exact ⟨oe,none,g,h2,nc,by rw[h5];trivial⟩
 ·obtain ⟨o,he⟩:=ZbO (I.hok _ _ k2)
  exact ⟨oe,some o,g,h2,nc,by rw[k1];exact he⟩
theorem Zfq {cv:Value} {cv2:V} (hv: ∀ w,ZC cv2 w->w=cv) (ht: ∀ c b C,tab.lookup c=some b->nsIn X.K mainGlobals c=some (some (.ref C))->DQ.ExcC X.K C/\kitOne X.K (.ref C) cv=some b):Zbq X (.builtin "isinstance") (ZnR X cv2 tab):=by
 intro pins s σ H vs us Q I rs ⟨q,C,c,xs,b,e1,h1,h2,h3,h4⟩
 subst e1
 obtain ⟨u,w,rfl,ru,rw'⟩:=Ze4 rs
 cases (show u=Value.ref q from ru)
 cases hv w rw'
 obtain ⟨oe,od,J⟩:=ZgZ I h1
 obtain ⟨k1,k2⟩:=ht c b C h3 h2
 exact PySem.W.kia_one (DQ.Zfe k1) I.kIn J k2 (fun z=>nomatch z) fun tk=>⟨.bl b,H,I.tok tk,rfl,h4⟩
theorem Zga {K:PySem.W.Frag} {cv:Value} (h: ∀ p∈tab,Zfp K p.1=true/\ ∃ C,ZaS K p.1=some C/\kitOne K (.ref C) cv=some p.2): ∀ c b C,tab.lookup c=some b->nsIn K mainGlobals c=some (some (.ref C))->DQ.ExcC K C/\kitOne K (.ref C) cv=some b:=by
 intro c b C h1 h2
 obtain ⟨h3,C',h4,h5⟩:=h (c,b) (ZgY h1)
 obtain ⟨C'',h6,_,h7⟩:=Zeu h3
 rw[h2] at h6
 cases h6
 rw[Zc9 h2] at h4
 cases h4
 exact ⟨h7,h5⟩
theorem Zew {ty:Expr} {cv:Value} {cv2:V} (hv: ∀ w,ZC cv2 w->w=cv) (ht: ∀ c b C,tab.lookup c=some b->nsIn X.K mainGlobals c=some (some (.ref C))->DQ.ExcC X.K C/\kitOne X.K (.ref C) cv=some b) (hty:PE X ty (tC cv2)) (hm:X.mg "isinstance"=none) (ha:DE X ξ e fa) (hg:Gl X "isinstance":=by rfl)
  (he:starEach [e,ty] X.env=(false,eval e X.env) :: starEach [ty] X.env:=by rfl) (he2:starEach [ty] X.env=(false,eval ty X.env) :: starEach [] X.env:=by rfl) (hpl:(backTo pos (starEach [ty] X.env)).any (·.1)=false:=by rfl):DE X ξ (.Call (.Name "isinstance" p) [e,ty] [] pos) (Za4 tab fa):=by
 obtain ⟨ta,ha,qa⟩:=ha
 refine ⟨_,Zc0 (Zfq hv ht) hg hm (by with_unfolding_all rfl) (ZcB ha (ZcB hty ZfV he2) he) (by decide) (by decide) he hpl,fun σ ρ H α M Q s h q=> ?_⟩
 refine qa σ ρ H α M _ s h (OG.seq q fun x M1 v H1 α1 e1 h1 r1 q1=> ?_)
 cases r1 with
 | @err q C c xs ds k1 k2 k3=>
  cases et:tab.lookup c with
  |none=>simp only[et] at q1;exact q1.elim
  |some b=>
   simp only[et] at q1
   exact ⟨q,C,c,xs,b,rfl,k2,k1,et,q1 _ H1 α1 Ext.refl h1 (.bl _)⟩
 |_=>exact q1.elim
theorem Z0 {y:Str} {p2:Pos} (ht:ZG X.K y tab=true) (gl: ∀ c v,nsIn X.K mainGlobals c=some (some v)->X.mg c=some v) (hm:X.mg "isinstance"=none) (ha:DE X ξ e fa) (hg:Gl X "isinstance":=by rfl) (hgT:Gl X y:=by rfl) (hdb:(y == ("__debug__":Str))=false:=by decide)
  (he:starEach [e,.Name y p2] X.env=(false,eval e X.env) :: starEach [.Name y p2] X.env:=by rfl) (he2:starEach [.Name y p2] X.env=(false,eval (.Name y p2) X.env) :: starEach [] X.env:=by rfl) (hpl:(backTo pos (starEach [.Name y p2] X.env)).any (·.1)=false:=by rfl):DE X ξ (.Call (.Name "isinstance" p) [e,.Name y p2] [] pos) (Za4 tab fa):=by
 unfold ZG at ht
 split at ht
 ·rename_i D hD
  refine Zew (cv:= .ref D) (cv2:= .ref D) (fun w z=>z) (Zga fun q hq=> ?_) (ZdN hgT (gl y _ (ZbQ hD)) rfl hdb) hm ha hg he he2 hpl
  have z:=List.all_eq_true.mp ht q hq
  rw[Bool.and_eq_true] at z
  refine ⟨z.1,?_⟩
  cases hc:ZaS X.K q.1 with
  |none=>rw[hc] at z;cases z.2
  |some C=>rw[hc] at z;exact ⟨C,rfl,beq_iff_eq.mp z.2⟩
 ·cases ht
theorem ZiV {y:Str} {T:String} {p2:Pos} (ht:Zev X.K T tab=true) (hm:X.mg "isinstance"=none) (hmT:X.mg y=none) (hvT:bootBuiltins y=some (.type T)) (ha:DE X ξ e fa) (hg:Gl X "isinstance":=by rfl) (hgT:Gl X y:=by rfl) (hn:y≠"__name__":=by decide) (hdb:(y == ("__debug__":Str))=false:=by decide)
  (he:starEach [e,.Name y p2] X.env=(false,eval e X.env) :: starEach [.Name y p2] X.env:=by rfl) (he2:starEach [.Name y p2] X.env=(false,eval (.Name y p2) X.env) :: starEach [] X.env:=by rfl) (hpl:(backTo pos (starEach [.Name y p2] X.env)).any (·.1)=false:=by rfl):DE X ξ (.Call (.Name "isinstance" p) [e,.Name y p2] [] pos) (Za4 tab fa):=by
 refine Zew (cv:= .type T) (cv2:= .ty T) (fun w z=>z) (Zga fun q hq=> ?_) (Zgj hgT hmT hvT (v:= .ty T) rfl hn hdb) hm ha hg he he2 hpl
 have z:=List.all_eq_true.mp ht q hq
 rw[Bool.and_eq_true] at z
 refine ⟨z.1,?_⟩
 cases hc:ZaS X.K q.1 with
 |none=>rw[hc] at z;cases z.2
 |some C=>rw[hc] at z;exact ⟨C,rfl,beq_iff_eq.mp z.2⟩
theorem ZbR:bootBuiltins "ValueError"=some (.type "ValueError"):=by decide +kernel
noncomputable def ZbA (c:Str) (fs:Av):Sv:=fun ρ M=>Zaq (fs ρ M) fun ds M1=>if ds.length<=1000 then .exc c M1 else .bad
theorem Zda {x:Str} {np cpos:Pos} {a:Expr} {as:List Expr} {fs:Av} (T:Thr X ξ) (hx:Zfp X.K x=true) (gl: ∀ c v,nsIn X.K mainGlobals c=some (some v)->X.mg c=some v) (hh:X.A.handled=none) (ha:DA X ξ (a :: as) fs) (hg:Gl X x:=by rfl) (hdb:(x == ("__debug__":Str))=false:=by decide)
  (he:starEach (a :: as) X.env=(false,eval a X.env) :: starEach as X.env:=by rfl) (hpl:(backTo cpos (starEach as X.env)).any (·.1)=false:=by rfl):DS X ξ (.Raise (some (.Call (.Name x np) (a :: as) [] cpos)) none pos) (ZbA x fs):=by
 obtain ⟨ta,pa,qa⟩:=ha
 obtain ⟨C,hC,hq,_⟩:=Zeu hx
 refine ⟨fun Dn σ H=>ta σ H fun vs H1=>vs.length<=sizeLine/\ξ (.ref C) none H1,fun pins s σ H Dn I h=> ?_,fun σ ρ H α M Dn s h q=> ?_⟩
 ·obtain ⟨tl,N,nm,q,bs,hdct,sn,sub,ab,col,dd,k0,k1,k2,k3,k5,mN,gC,hN,hni,TL⟩:=ZgX I.ok.mod.kin hq
  refine wpAny_Raise_call_subT (C:=C) (nm:=nm) (q:=q) (N:=N) (bs:=bs) (bm:=tl) (hdct:=hdct) (sn:=sn) (sub:=sub) (ab:=ab) (col:=col) (dd:=dd) (k0:=k0) (k1:=k1) (k2:=k2) (k3:=k3) (k5:=k5) F.excBase_ValueError (mN:=mN)
   (TL.hasType F.excBase_ValueError.hasBase) hh (by rw[he];show (false || (backTo cpos (starEach as X.env)).any (·.1))=false;rw[hpl];rfl) hni (Zcz I hg (gl x _ hC) ⟨rfl,?_⟩ hdb)
  have hs:=pa cpos pins s σ H _ I h
  rw[he] at hs ⊢
  refine Calls.evalArgs_plain (wpAny_mono hs (fun us s2 ⟨vs,H1,I1,r1,z1,z2⟩=>⟨rfl,by rw[<- r1.length];exact z1,I1.bk _ _ gC,hN.keeps I1.bk,TL.keeps I1.bk,fun h' e m=> ?_⟩) fun _ _ y=>y)
  obtain ⟨t,g1,g2,g3⟩:=m.there
  exact T.mak pins σ H1 s2 h' e _ _ C I1 m.keeps m.new g1 rfl rfl rfl rfl rfl z2
 ·refine qa σ ρ H α M _ s h (FP.seq q fun ds M1 vs H1 α1 e1 h1 r1 w1=> ?_)
  by_cases hl:ds.length<=1000
  ·rw[if_pos hl] at w1
   exact ⟨by rw[r1.length];exact ZgL hl,w1 C H1 α1 hC Ext.refl h1⟩
  ·rw[if_neg hl] at w1
   exact w1.elim
end
end DL
end
section
namespace DL
open PySem PySem.Spec PyProof.Rows L2
open PySem.W (nsIn excIn tailIn nsOkIn mroIn clsIn typeIn findIn specialIn takesIn kitOne Looks looks_mroIn looks_typeIn)
theorem Zex {K:PySem.W.Frag} {e C D:Addr} {oe:Obj} {od:Option Obj} {b:Bool} {prog:Program} {w:World} {A:Around} {E:Value->Shared->Prop} {s:Shared} {Q:Bool->Shared->Prop} (X:K.In s.heap) (I:PySem.W.InstAt s.heap e oe C od)
  (hD:typeIn K (.ref D)=some (.type "type")) (hi:(clsIn K D).isSome=true) (hb:mroIn K D (.type "BaseException")=some true) (hm:mroIn K C (.ref D)=some b) (h:Q b s):wpAny (model prog w) A (excMatches (.ref e) (.ref D)) Q E s:=by
 obtain ⟨hh,g,d,tk,os⟩:=s
 have L0:=I.type (M:=model prog w)
 have L1:=looks_typeIn (M:=model prog w) X hD
 have L2:Looks (model prog w) hh (isInstance (.ref D) (.type "tuple")) false:=L1.andThen (Looks.of_pure tc_notTuple)
 have L3:Looks (model prog w) hh (isType (.ref D)) true:=by
  obtain ⟨cd,hc⟩:=Option.isSome_iff_exists.mp hi
  unfold clsIn at hc
  split at hc
  ·rename_i o1 o2 o3 o4 ho
   intro A' Q' E' s' k q
   unfold isType loadHead
   exact wpAny_bind (wpAny_loadPart (k _ _ (X _ _ ho)) (wpAny_pure q))
  ·cases hc
 have L4:=looks_mroIn (M:=model prog w) X hb
 have L5:=looks_mroIn (M:=model prog w) X hm
 have L6:Looks (model prog w) hh (isExcClass (.ref D)) true:=L3.andThen (by simpa using L4)
 unfold excMatches
 refine wpAny_bind (L2.at ?_)
 simp only[Bool.false_eq_true,if_false]
 refine wpAny_bind (m:=forIn [Value.ref D] _ _) ?_
 rw[List.forIn_cons]
 refine wpAny_bind (wpAny_bind (L6.at ?_))
 simp only[Bool.not_true,Bool.false_eq_true,if_false]
 refine wpAny_pure ?_
 dsimp only
 rw[List.forIn_nil]
 refine wpAny_pure (wpAny_bind (L0.at (wpAny_bind ?_)))
 rw[List.forIn_cons]
 refine wpAny_bind (wpAny_bind (L5.at ?_))
 cases b with
 |true=>exact wpAny_pure (wpAny_pure (wpAny_pure h))
 |false=>
  simp only[Bool.false_eq_true,if_false]
  refine wpAny_pure ?_
  dsimp only
  rw[List.forIn_nil]
  exact wpAny_pure (wpAny_pure h)
noncomputable def Cx.han (X:Cx) (e:Addr):Cx:={ X with A:=X.A.mark (some (.ref e)),calm:=false,xe:=fun _ _=>False }
noncomputable def Cx.tri (X:Cx) (pn:List (Addr × Obj)) (xe:Value->Shared->Prop):Cx:={ X with pn:=pn,xe:=xe }
theorem Zey {j k:Nat} {A:Around} {v:Value} (r:Room k A) (h:j<=k) (hj:j < 100):Room j (A.mark (some v)):=⟨fun z=>absurd z (Nat.not_le_of_lt hj),(r.mono h).dp,(r.mono h).un⟩
theorem Zg0 {X:Cx} {e:Addr}:Thr (Cx.han X e) E0:=⟨PassesOwn.never,fun _ _ _ _ _ _ _ ⟨_,_,_,_,_,_,_,_,_,_,_,_,_,q⟩=>q,fun _ _ _ _ _ _ _ _ _ _ _ _ _ _ _ _ _ _ q=>q⟩
section
variable {X:Cx} {pins pins' pn:List (Addr × Obj)} {σ:L2.St} {H H':Hp} {s:Shared} {xe:Value->Shared->Prop} {e:Addr}
theorem ZiW (ok:X.Ok):(Cx.han X e).Ok:=
 ⟨ok.mod,ok.kind,ok.glob,ok.blt,ok.above,ok.inj,ok.has,ok.cab,fun z=>(by cases z),ok.frames,ok.stk,ok.exf,ok.bs,ok.bsz,ok.noex,ok.exfs,ok.funs,ok.frf⟩
theorem Zfr (ok:(Cx.han X e).Ok) (hh:X.A.handled=none):X.Ok:=
 ⟨ok.mod,ok.kind,ok.glob,ok.blt,ok.above,ok.inj,ok.has,ok.cab,fun _=>hh,ok.frames,ok.stk,ok.exf,ok.bs,ok.bsz,ok.noex,ok.exfs,ok.funs,ok.frf⟩
theorem ZiX (ok:X.Ok):(Cx.tri X pn xe).Ok:=
 ⟨ok.mod,ok.kind,ok.glob,ok.blt,ok.above,ok.inj,ok.has,ok.cab,ok.hd,ok.frames,ok.stk,ok.exf,ok.bs,ok.bsz,ok.noex,ok.exfs,ok.funs,ok.frf⟩
theorem Zfs (ok:(Cx.tri X pn xe).Ok):X.Ok:=
 ⟨ok.mod,ok.kind,ok.glob,ok.blt,ok.above,ok.inj,ok.has,ok.cab,ok.hd,ok.frames,ok.stk,ok.exf,ok.bs,ok.bsz,ok.noex,ok.exfs,ok.funs,ok.frf⟩
theorem Zg1 (I:Inv X pins σ H s) (q:Qd (X.A.mark (some (.ref e))) H):Inv (Cx.han X e) pins σ H s:=⟨ZiW I.ok,I.os,I.bare,I.base,I.loc,I.cell,I.free,I.freeC,I.pin,I.hok,I.len,q⟩
theorem Zci (I:Inv (Cx.han X e) pins σ H s) (hh:X.A.handled=none):Inv X pins σ H s:=⟨Zfr I.ok hh,I.os,I.bare,I.base,I.loc,I.cell,I.free,I.freeC,I.pin,I.hok,I.len,.inl hh⟩
theorem Zg2 (I:Inv X pins σ H s):Inv (Cx.tri X (X.pn ++ pins) xe) [] σ H s:=⟨ZiX I.ok,I.os,I.bare,I.base,I.loc,I.cell,I.free,I.freeC,fun p hp=>I.pin p (by rw[List.append_nil] at hp;exact hp),I.hok,I.len,I.qd⟩
theorem Z7 (I:Inv (Cx.tri X (X.pn ++ pins) xe) pins' σ H s):Inv X pins σ H s:=⟨Zfs I.ok,I.os,I.bare,I.base,I.loc,I.cell,I.free,I.freeC,fun p hp=>I.pin p (List.mem_append_left _ hp),I.hok,I.len,I.qd⟩
theorem Zcj (I:Inv X pins σ H s) {h':Heap} {m':Str->Option Value} {t:Nat} (hn:h'.Ns X.env.locals m') (hs:Heap.SameBut X.env.locals s.heap h'):Inv X pins (List.replicate X.N.length none) H { s with heap:=h',toks:=t }:=by
 obtain ⟨m,⟨oL,es,ep,hoL,hdL,r⟩,hl⟩:=id I.loc
 have neL: ∀ b o,X.s₀.heap.get? b=some o->b≠X.env.locals:=fun b o x=>Nat.ne_of_lt (Nat.lt_of_lt_of_le (Heap.lt_size x) I.ok.above)
 refine ⟨I.ok,I.os,I.bare,⟨fun b o x n hb hx=>(hs.2 b (neL b o x)).trans (I.base.keep b o x n hb hx),fun b o x n hb hx=> ?_,I.base.free,fun b o x hx=> ?_,I.base.tups,I.base.frzs,I.base.tbls⟩,⟨m',hn,fun i x v e1 e2 e3=> ?_⟩,fun x c z=> ?_,I.free,I.freeC,fun p hp=> ?_,fun b u z=> ?_,?_,I.qd⟩
 ·obtain ⟨sl,z⟩:=I.base.slot b o x n hb hx
  exact ⟨sl,(hs.2 b (neL b o x)).trans z⟩
 ·obtain ⟨o',z⟩:=I.base.there b o x hx
  exact ⟨o',(hs.2 b (neL b o x)).trans z⟩
 ·rw[List.getElem?_replicate] at e2
  split at e2<;>cases e2
 ·obtain ⟨v,q⟩:=I.cell x c z
  exact ⟨v,q.sameBut hs (I.cne x c z)⟩
 ·obtain ⟨g1,g2,g3,g4,g5⟩:=I.pin p hp
  exact ⟨(hs.2 p.1 g3).trans g1,g2,g3,g4,g5⟩
 ·refine (I.hok b u z).stay (fun c w' hc q=>(hs.2 c ?_).trans q) (fun _ q=>q) fun _ _ q=>q
  rintro rfl
  rcases hc with rfl | hc
  ·rw[I.free] at z;cases z
  ·rw[I.free] at hc;cases hc
 ·rw[List.length_replicate]
theorem Zez (I:Inv X pins σ H s) {a:Addr} {o:Obj} {vs:Array Value} (hn:H a=none) (he:s.heap.get? a=some o) (hd:o.data= .fields vs) (h0:X.s₀.heap.get? a=none) (hp: ∀ p∈X.pn ++ pins,p.1≠a):Inv X pins σ (upd H a (.frz o (.own 0))) s:=by
 have ne: ∀ b u,H b=some u->b≠a:=fun b u z q=>by rw[q,hn] at z;cases z
 refine ⟨I.ok,I.os,I.bare,⟨I.base.keep,I.base.slot,fun b o' x n hx=> ?_,I.base.there,fun b xs x=> ?_,fun b o' u x=> ?_,fun b ps x=> ?_⟩,I.loc,I.cell,?_,fun x c z=> ?_,fun p hp'=> ?_,fun b u z=> ?_,I.len,I.qd.mono fun b o' u x=> ?_⟩
 ·rw[Zm (fun z=>by rw[z,h0] at x;cases x)]
  exact I.base.free b o' x n hx
 ·have:=I.base.tups b xs x
  rw[Zm (ne b _ this)];exact this
 ·have:=I.base.frzs b o' u x
  rw[Zm (ne b _ this)];exact this
 ·obtain ⟨m1,z⟩:=I.base.tbls b ps x
  exact ⟨m1,by rw[Zm (ne b _ z)];exact z⟩
 ·rw[Zm (fun z=> ?_)]
  ·exact I.free
  ·obtain ⟨m,⟨oL,es,ep,hoL,hdL,r⟩,_⟩:=I.loc
   rw[z,he] at hoL
   cases hoL
   rw[hd] at hdL
   cases hdL
 ·rw[Zm (fun q=> ?_)]
  ·exact I.freeC x c z
  ·obtain ⟨v,oc,g1,g2⟩:=I.cell x c z
   rw[q,he] at g1
   cases g1
   rw[hd] at g2
   cases g2
 ·obtain ⟨g1,g2,g3,g4,g5⟩:=I.pin p hp'
  exact ⟨g1,by rw[Zm (hp p hp')];exact g2,g3,g4,g5⟩
 ·by_cases hb:b=a
  ·subst hb
   rw[Zl] at z
   cases z
   exact ⟨he,⟨o,he⟩⟩
  ·rw[Zm hb] at z
   exact (I.hok b u z).stay (fun _ _ _ q=>q) (fun c q=>by rw[Zm (ne c _ q)];exact q) fun c xs q=>by rw[Zm (ne c _ q)];exact q
 ·rw[Zm (ne b _ x)];exact x
theorem Zg3 {h1 h2 B:Heap} (I:Inv X pins σ H s) (u:Un (frs X.stack) [] H H' s.heap h1) (hok:HOk X.prog X.w H' h1) (t1: ∀ b q,H' b=some q-> ∃ o,B.get? b=some o) (t2: ∀ b o,s.heap.get? b=some o->b ∉ frs X.stack-> ∃ o',B.get? b=some o')
  (st1:B.StaysIn h1) (st2:B.StaysIn h2) (up:h1.UpToSlots h2):Un (frs X.stack) [] H H' s.heap h2/\HOk X.prog X.w H' h2:=by
 have kB: ∀ b ob o,B.get? b=some ob->h1.get? b=some o->h2.get? b=some o:=fun b ob o e x=>by
  have z:=st1 b ob e
  rw[x] at z
  cases z
  exact st2 b _ e
 have sl: ∀ b o,s.heap.get? b=some o->H b=none->b∈frs X.stack-> ∃ sl,h2.get? b=some { o with slots:=sl }:=fun b o x n hb=>by
  obtain ⟨s2,e2⟩:=u.any x n (by simp)
  obtain ⟨_,o',g1,g2⟩:=I.stack.mem hb
  rw[x] at g1
  cases g1
  obtain ⟨s3,e3⟩:=up b _ e2 g2
  exact ⟨s3,e3⟩
 refine ⟨⟨fun b o x n hb _=> ?_,fun b o x n hb _=>sl b o x n hb,u.free,fun b o x _=> ?_,u.tups,u.frzs,u.tbls⟩,fun a o x=> ?_⟩
 ·obtain ⟨ob,g⟩:=t2 b o x hb
  exact kB b ob o g (u.keep b o x n hb (by simp))
 ·by_cases hb:b∈frs X.stack
  ·obtain ⟨s1,e1⟩:=sl b o x (I.stkFree b hb) hb
   exact ⟨_,e1⟩
  ·obtain ⟨ob,g⟩:=t2 b o x hb
   exact ⟨ob,st2 b ob g⟩
 ·refine (hok a o x).stay (fun b q hb y=> ?_) (fun _ q=>q) fun _ _ q=>q
  have tr: ∃ q,H' b=some q:=by
   rcases hb with z | z
   ·exact ⟨o,z ▸ x⟩
   ·exact ⟨_,z⟩
  obtain ⟨q',z⟩:=tr
  obtain ⟨ob,g⟩:=t1 b q' z
  exact kB b ob q g y
end
theorem Zdu {M:Model} {A:Around} {E:Value->Shared->Prop} {s:Shared} {B:Heap} {env:Env} {outer:List Env} {L e:Addr} {oe:Obj} {vs:Array Value} {Q:Unit->Shared->Prop} (hfr:A.frames=some (env :: outer)) (hf:env.frame=some L) (hl:s.heap.FunFrames B (env :: outer)) (he:s.heap.get? e=some oe) (hs:B.StaysIn s.heap) (hb:B.get? e=none) (hd:oe.data= .fields vs) (h1:vs[1]?=some .none) (h2:vs[2]?=some .none)
  (h: ∀ h',DQ.Fly B (env :: outer) e oe.cls oe.dict (rawInt L) h'->s.heap.UpToSlots h'->Q () { s with heap:=h' }):wpAny M A (noteFrame (.ref e) env) Q E s:=by
 unfold noteFrame
 simp only[hf]
 refine wpAny_bind (wpAny_field he hd h1 ?_)
 rw[if_neg (by decide)]
 exact DQ.Zbd hfr hl hf he hs hb hd (Array.getElem?_eq_some_iff.mp h2).1 h2 h
noncomputable def Zg4 (gb:Sv) (cs:List Str) (i:Nat) (gh:Sv):Sv:=fun ρ M=>match gb ρ M with
 | .exc c M1=>if cs.contains c=true then (match gh ((List.replicate ρ.length none).set i (some (.err c []))) M1 with
  | .ret d M2=> .ret d M2
  | .nx _ M2=> .nx (List.replicate ρ.length none) M2
  |_=> .bad) else .bad
 |o=>o
section
variable {X:Cx} {ξ:XK} {d n:Str} {cs:List Str} {i:Nat} {body suite:List Stmt} {b0:Stmt} {gb gh:Sv} {pos hpos np:Pos}
theorem Zg5 {pins:List (Addr × Obj)} {σ1:L2.St} {H1 H2:Hp} {s1 s2:Shared} {h3 B:Heap} {ea C D:Addr} {c:Str} {Dn:Ends} {α1:List Addr} {M1:Sto} {fl:Value}
  (hx:X.ex=[]) (hh:X.A.handled=none) (hN:X.N.Nodup) (hi:X.N[i]?=some n) (hl:X.env.kindOf n=some .local) (hg:Gl X d) (hdb:(d == ("__debug__":Str))=false) (hmD:X.mg d=some (.ref D)) (hD1:typeIn X.K (.ref D)=some (.type "type")) (hD2:(clsIn X.K D).isSome=true) (hD3:mroIn X.K D (.type "BaseException")=some true)
  (hC1:mroIn X.K C (.ref D)=some true) (hC2:nsIn X.K mainGlobals c=some (some (.ref C)))
  (hs: ∀ ea,DSs (Cx.han X ea) E0 (b0 :: suite) gh)
  (I1:Inv X pins σ1 H1 s1) (os:s2.os=s1.os) (bare:AllBare s2.gens) (un:Un (frs X.stack) [] H1 H2 s1.heap s2.heap) (hok:HOk X.prog X.w H2 s2.heap) (t1: ∀ b u,H2 b=some u-> ∃ o,B.get? b=some o) (t2: ∀ b o,s1.heap.get? b=some o->b ∉ frs X.stack-> ∃ o',B.get? b=some o')
  (st2:B.StaysIn s2.heap) (fly:DQ.Fly B X.stack ea (.ref C) none fl h3) (up3:s2.heap.UpToSlots h3) (hr:HR X.K H2 α1 M1)
  (fp: ∀ H3,Ext X.K H2 H3 α1 α1->FP X.K H3 α1 E0 { nx:=fun _ H'=>Dn.nx (List.replicate X.N.length none) H',rt:=Dn.rt } (gh ((List.replicate X.N.length none).set i (some (.err c []))) M1)):
  wpAny (model X.prog X.w) X.A (setFlight (.ref ea) none) (fun _ s₃=>wpAny (model X.prog X.w) X.A (handleBy (.ref ea) X.env [.ExceptHandler (some (.Name d np)) (some n) (b0 :: suite) hpos]) (SP X pins Dn) X.xe s₃) X.xe { s2 with heap:=h3 }:=by
 refine DQ.Za5 (s:={ s2 with heap:=h3 }) fly fun h4 f4 up4=> ?_
 have inv: ∀ h,B.StaysIn h->s2.heap.UpToSlots h->Inv X pins σ1 H2 { s2 with heap:=h }:=fun h st up=>by
  obtain ⟨a1,a2⟩:=Zg3 I1 un hok t1 t2 st2 st up
  exact I1.call' (s':={ s2 with heap:=h }) (ch:=[]) os a1 a2 bare fun b z=>absurd z (by simp)
 have J4:=inv h4 f4.stay (up3.trans up4)
 obtain ⟨oe4,vs4,T4,oT4,ts4,g1,g2,g3,g4,g5,g6⟩:=id f4.obj
 refine wpAny_handleBy_cons (codeAny_handlers_test ?_) (by intro q;cases q)
 refine Calls.Name_function_global J4.ok.kind hg (Calls.loadGlobal_global (by rw[J4.ok.glob];exact J4.mod.glob.keeps J4.bk) hmD ?_) hdb
 refine Zex (od:=none) J4.kIn ⟨g1,g2,by unfold PySem.W.notCls;rw[g4],by rw[g3];trivial⟩ hD1 hD2 hD3 hC1 ?_
 refine codeAny_handlers_suite_as ?_
 refine DQ.Za5 (s:={ s2 with heap:=h4 }) f4 fun h5 f5 up5=> ?_
 have J5:=inv h5 f5.stay ((up3.trans up4).trans up5)
 obtain ⟨oe,vs,T5,oT5,ts5,k1,k2,k3,k4,k5,k6⟩:=id f5.obj
 have nB:B.get? ea=none:=f5.new
 have hn:H2 ea=none:=by
  cases z:H2 ea with
  |none=>rfl
  |some u=>obtain ⟨o,q⟩:=t1 ea u z;rw[nB] at q;cases q
 have nf:ea ∉ frs X.stack:=DQ.apart f5.frames k1 k4
 have h0:X.s₀.heap.get? ea=none:=by
  cases z:X.s₀.heap.get? ea with
  |none=>rfl
  |some o=>
   have nx:ea ∉ X.ex:=by rw[hx];simp
   obtain ⟨o',q⟩:=I1.base.there ea o z nx
   obtain ⟨o2,q2⟩:=t2 ea o' q nf
   rw[nB] at q2
   cases q2
 have hp: ∀ p∈X.pn ++ pins,p.1≠ea:=fun p hp z=>by
  obtain ⟨q1,_,q3,q4,_⟩:=I1.pin p hp
  obtain ⟨o2,q2⟩:=t2 p.1 p.2 q1 (by rw[z];exact nf)
  rw[z,nB] at q2
  cases q2
 have J6:=Zez J5 hn k1 k4 h0 hp
 have J7:=Zg1 (e:=ea) J6 (.inr ⟨ea,oe,.own 0,vs,rfl,Zl,k4,k5⟩)
 have il:i < X.N.length:=(List.getElem?_eq_some_iff.mp hi).1
 refine Zay (X:=Cx.han X ea) (v:= .ref ea) J7 hN hi (.inl hl) rfl (fun s8 J8=> ?_) (.inr hl)
 have ex:Ext X.K H2 (upd H2 ea (.frz oe (.own 0))) α1 α1:=Ext.new0 hn
 have rp:Rep X.K (upd H2 ea (.frz oe (.own 0))) α1 (.ref ea) (.err c []):= .err hC2 ⟨oe,.own 0,vs,Zl,k2,k4,k5,.inl ⟨rfl,k3⟩⟩ .nil
 have sr:SR X.K (upd H2 ea (.frz oe (.own 0))) α1 (σ1.set i (some (.ref ea))) ((List.replicate X.N.length none).set i (some (.err c []))):=by
  refine ⟨by rw[List.length_set,List.length_set,List.length_replicate];exact J5.len,fun j dd e=> ?_⟩
  by_cases hj:j=i
  ·subst hj
   rw[List.getElem?_set_self (by rw[List.length_replicate];exact il)] at e
   cases e
   exact ⟨.ref ea,by rw[List.getElem?_set_self (by rw[J5.len];exact il)],rp⟩
  ·rw[List.getElem?_set_ne (Ne.symm hj),List.getElem?_replicate] at e
   split at e<;>cases e
 obtain ⟨ts,ps,qs⟩:=hs ea
 have run:=ps pins s8 _ _ { nx:=fun _ H'=>Dn.nx (List.replicate X.N.length none) H',rt:=Dn.rt } J8 (qs _ _ _ α1 M1 _ sr (hr.tup hn) (fp _ ex))
 refine wpAny_mono run (fun f s9 h9=> ?_) (fun _ _ z=>z.elim)
 have hcls:(X.env.scope.kind == .class || (X.env.scope.kind == .module && X.env.locals != X.env.globals))=false:=by rw[J5.ok.kind];rfl
 cases f with
 |next=>
  obtain ⟨σ',H',J9,q⟩:=h9
  have K9:=Zci J9 hh
  obtain ⟨m,hm,_⟩:=id K9.loc
  exact wpAny_nameGoes hl hm hcls fun h' m' hn' hs'=>⟨_,H',Zcj K9 hn' hs',q⟩
 |ret u=>
  obtain ⟨v,σ',H',J9,r,q⟩:=h9
  have K9:=Zci J9 hh
  obtain ⟨m,hm,_⟩:=id K9.loc
  exact wpAny_nameGoes hl hm hcls fun h' m' hn' hs'=>⟨v,_,H',Zcj K9 hn' hs',r,q⟩
 |brk=>obtain ⟨_,_,_,q⟩:=h9;exact False.elim q
 |cont=>obtain ⟨_,_,_,q⟩:=h9;exact False.elim q
theorem ZiY (hcat:Zc8 X.K d cs=true) (gl: ∀ c v,nsIn X.K mainGlobals c=some (some v)->X.mg c=some v) (hh:X.A.handled=none) (hx:X.ex=[]) (hst:X.stack=X.env :: X.outer) (hf:X.env.frame=some X.env.locals) (hN:X.N.Nodup)
  (hb: ∀ pn xe ξ',Thr (Cx.tri X pn xe) ξ'->DSs (Cx.tri X pn xe) ξ' body gb) (hs: ∀ ea,DSs (Cx.han X ea) E0 (b0 :: suite) gh)
  (hi:X.N[i]?=some n:=by rfl) (hl:X.env.kindOf n=some .local:=by rfl) (hg:Gl X d:=by rfl) (hdb:(d == ("__debug__":Str))=false:=by decide):
  DS X ξ (.Try body [.ExceptHandler (some (.Name d np)) (some n) (b0 :: suite) hpos] [] [] pos) (Zg4 gb cs i gh):=by
 unfold Zc8 at hcat
 split at hcat
 case h_2=>cases hcat
 rename_i D hD
 simp only[Bool.and_eq_true,beq_iff_eq,List.all_eq_true] at hcat
 obtain ⟨⟨⟨hD3,hD1⟩,hD2⟩,hall⟩:=hcat
 refine ⟨fun Dn σ H=> ∃ ρ α M,SR X.K H α σ ρ/\HR X.K H α M/\FP X.K H α ξ Dn (Zg4 gb cs i gh ρ M),?_,fun σ ρ H α M Dn s h q=>⟨ρ,α,M,s,h,q⟩⟩
 rintro pins s σ H Dn I ⟨ρ,α,M,sr,hr,fp⟩
 refine wpAny_Try_except ?_
 have lenρ:ρ.length=X.N.length:=by rw[<- sr.1];exact I.len
 generalize hxe:(fun (e:Value) (s₁:Shared)=>wpAny (model X.prog X.w) X.A (noteFrame e X.env) (fun _ s₂=>wpAny (model X.prog X.w) X.A (setFlight e none) (fun _ s₃=>wpAny (model X.prog X.w) X.A (handleBy e X.env [.ExceptHandler (some (.Name d np)) (some n) (b0 :: suite) hpos]) (SP X pins Dn) X.xe s₃) X.xe s₂) X.xe s₁)=xe'
 have own:PassesOwn (model X.prog X.w) X.A X.env xe':=by
  rw[<- hxe]
  exact PassesOwn.looking
 have land: ∀ {pins':List (Addr × Obj)} {σ1:L2.St} {H1 H2:Hp} {s1 s2:Shared} {h3 B:Heap} {ea C:Addr} {fl:Value},Inv (Cx.tri X (X.pn ++ pins) xe') pins' σ1 H1 s1->s2.os=s1.os->AllBare s2.gens->Un (frs X.stack) [] H1 H2 s1.heap s2.heap->HOk X.prog X.w H2 s2.heap->
   (∀ b u,H2 b=some u-> ∃ o,B.get? b=some o)->(∀ b o,s1.heap.get? b=some o->b ∉ frs X.stack-> ∃ o',B.get? b=some o')->B.StaysIn s2.heap->DQ.Fly B X.stack ea (.ref C) none fl h3->s2.heap.UpToSlots h3->
   (∃ c M1 α',gb ρ M= .exc c M1/\nsIn X.K mainGlobals c=some (some (.ref C))/\Ext X.K H H2 α α'/\HR X.K H2 α' M1)->
   wpAny (model X.prog X.w) X.A (setFlight (.ref ea) none) (fun _ s₃=>wpAny (model X.prog X.w) X.A (handleBy (.ref ea) X.env [.ExceptHandler (some (.Name d np)) (some n) (b0 :: suite) hpos]) (SP X pins Dn) X.xe s₃) X.xe { s2 with heap:=h3 }:=by
  intro pins' σ1 H1 H2 s1 s2 h3 B ea C fl I1 os bare un hok t1 t2 st2 fly up3 ⟨c,M1,α',eg,hC2,ex,hr1⟩
  unfold Zg4 at fp
  simp only[eg] at fp
  by_cases hc:cs.contains c=true
  ·rw[if_pos hc] at fp
   have hm:=hall c (List.contains_iff_mem.mp hc)
   rw[Zc9 hC2] at hm
   refine Zg5 hx hh hN hi hl hg hdb (gl d _ (ZbQ hD)) hD1 hD2 hD3 (by simpa using hm.2) hC2 hs (Z7 I1) os bare un hok t1 t2 st2 fly up3 hr1 fun H3 ex3=> ?_
   rw[lenρ] at fp
   cases er:gh ((List.replicate X.N.length none).set i (some (.err c []))) M1 with
   |ret dd M2=>rw[er] at fp;exact FP.ext (o:= .ret dd M2) fp (ex.trans ex3)
   |nx ρ2 M2=>
    rw[er] at fp
    intro σ' H' α'' e1 e2 e3
    refine fp _ H' α'' ((ex.trans ex3).trans e1) e2 ⟨by rw[List.length_replicate,List.length_replicate],fun j dd z=> ?_⟩
    rw[List.getElem?_replicate] at z
    split at z<;>cases z
   |brk ρ2 M2=>rw[er] at fp;exact fp.elim
   |cnt ρ2 M2=>rw[er] at fp;exact fp.elim
   |exc x M2=>rw[er] at fp;exact fp.elim
   |bad=>rw[er] at fp;exact fp.elim
  ·rw[if_neg hc] at fp
   exact fp.elim
 have T:Thr (Cx.tri X (X.pn ++ pins) xe') (fun cls dct H'=> ∃ C c M1 α',cls= .ref C/\dct=none/\gb ρ M= .exc c M1/\nsIn X.K mainGlobals c=some (some (.ref C))/\Ext X.K H H' α α'/\HR X.K H' α' M1):=by
  refine ⟨own,fun pins' σ1 H1 s1 e s2 I1 h=> ?_,fun pins' σ1 H1 s1 h' e oe vs C I1 k hn he hc hdi hd v1 v2 q=> ?_⟩
  ·obtain ⟨ea,C,dct,B,H2,rfl,os,bare,un,hok,fl,t1,t2,C',c,M1,α',q1,q2,q3,q4,q5,q6⟩:=h
   cases q1
   subst q2
   show xe' (.ref ea) s2
   rw[<- hxe]
   have fl':DQ.Fly B (X.env :: X.outer) ea (.ref C) none .none s2.heap:=hst ▸ fl
   refine DQ.Zc2 (by rw[<- hst];exact I1.ok.frames) hf fl' fun h3 f3 up=> ?_
   exact land I1 os bare un hok t1 t2 fl.stay (hst ▸ f3) up ⟨c,M1,α',q3,q4,q5,q6⟩
  ·obtain ⟨C',c,M1,α',q1,q2,q3,q4,q5,q6⟩:=q
   cases q1
   show xe' (.ref e) { s1 with heap:=h' }
   rw[<- hxe]
   have I2:=Z7 I1
   have st:=I2.stack
   have t2: ∀ b o,s1.heap.get? b=some o->b ∉ frs X.stack-> ∃ o',(Zcb s1.heap (frs X.stack)).get? b=some o':=fun b o x n=>⟨o,Za6 x n⟩
   have hs':(Zcb s1.heap (frs X.stack)).StaysIn h':=fun b o x=>k b o (Zbf x).1
   have hl':h'.FunFrames (Zcb s1.heap (frs X.stack)) X.stack:=(Zbe st fun b hb=>Zcc hb).of_keeps fun b o x _=>⟨o,k b o x,rfl⟩
   have hb':(Zcb s1.heap (frs X.stack)).get? e=none:=by
    cases z:(Zcb s1.heap (frs X.stack)).get? e with
    |none=>rfl
    |some o=>
     have:=(Zbf z).1
     rw[hn] at this
     cases this
   have t1: ∀ b u,H1 b=some u-> ∃ o,(Zcb s1.heap (frs X.stack)).get? b=some o:=fun b u x=>by
    obtain ⟨o,g⟩:=ZbO (I2.hok b u x)
    exact ⟨o,Za6 g fun z=>by rw[I2.stkFree b z] at x;cases x⟩
   generalize Zcb s1.heap (frs X.stack)=B at t2 hs' hl' hb' t1
   refine Zdu (s:={ s1 with heap:=h' }) (by rw[<- hst];exact I2.ok.frames) hf (hst ▸ hl') he hs' hb' hd v1 v2 fun h3 f3 up=> ?_
   rw[hc,hdi] at f3
   exact land (s2:={ s1 with heap:=h' }) I1 rfl I2.bare (Un.kept k) (I2.hok.kept k) t1 t2 hs' (hst ▸ f3) up ⟨c,M1,α',q3,q4,q5,q6⟩
 obtain ⟨tb,pb,qb⟩:=hb _ _ _ T
 have fpb:FP X.K H α (fun cls dct H'=> ∃ C c M1 α',cls= .ref C/\dct=none/\gb ρ M= .exc c M1/\nsIn X.K mainGlobals c=some (some (.ref C))/\Ext X.K H H' α α'/\HR X.K H' α' M1) Dn (gb ρ M):=by
  unfold Zg4 at fp
  cases eg:gb ρ M with
  |exc c M1=>exact fun C H' α' n1 e1 h1=>⟨C,c,M1,α',rfl,rfl,rfl,n1,e1,h1⟩
  |nx ρ2 M2=>rw[eg] at fp;exact fp
  |ret d2 M2=>rw[eg] at fp;exact fp
  |brk ρ2 M2=>rw[eg] at fp;exact fp
  |cnt ρ2 M2=>rw[eg] at fp;exact fp
  |bad=>rw[eg] at fp;exact fp
 have run:=pb [] s σ H Dn (Zg2 I) (qb σ ρ H α M Dn sr hr fpb)
 refine wpAny_mono run (fun f s1 h1=> ?_) (fun e s1 h1=> ?_)
 ·cases f with
  |next=>
   obtain ⟨σ',H',J,q⟩:=h1
   exact wpAny_execs_nil ⟨σ',H',Z7 J,q⟩
  |brk=>obtain ⟨σ',H',J,q⟩:=h1;exact ⟨σ',H',Z7 J,q⟩
  |cont=>obtain ⟨σ',H',J,q⟩:=h1;exact ⟨σ',H',Z7 J,q⟩
  |ret u=>obtain ⟨v,σ',H',J,r,q⟩:=h1;exact ⟨v,σ',H',Z7 J,r,q⟩
 ·exact h1
end
theorem Zz {k:Nat} {A:Around} {env:Env} (hr:Room k (A.deeper env)) (h:100<=k):A.handled.isNone=true:=by
 have e:A.handled=none:=hr.hd h
 rw[e]
 rfl
end DL
end
section
namespace DL
open PySem PySem.Spec PyProof.Rows L2
noncomputable abbrev Me:=D->List D->Sto->Out D
noncomputable def MO (X:Cx) (ξ:XK) (r:V->List V->Hp->VK->Prop) (g:Me):Prop:= ∀ H α M v vs x ds Q,HR X.K H α M->Rep X.K H α v x->Reps X.K H α vs ds->OP X.K H α ξ Q (g x ds M)->r v vs H Q
theorem HR.wrE {K:PySem.W.Frag} {H:Hp} {α:List Addr} {M:Sto} {n:Nat} {p:Addr} {xs ys:List V} {ds:List D} (h:HR K H α M) (e:RefK H α 0 n p) (hp:H p=some (.lst ys)) (r:Reps K H α xs ds):Ext K H (upd H p (.lst xs)) α α/\HR K (upd H p (.lst xs)) α (M.set n (.lst ds)):=
 ⟨Ext.wr hp,h.wr e hp r⟩
section
variable {X:Cx} {ξ:XK} {o e:Expr} {es:List Expr} {fo fa:Ev} {fs:Av} {name:Str} {apos cpos pos:Pos} {T id:String} {r:V->List V->Hp->VK->Prop} {g:Me}
noncomputable def Zg6 (x:D) (M:Sto):Bool:=match x with | .ref n=>M[n]?.isSome | _=>false
noncomputable def Zgb (g:Me) (fo:Ev) (fs:Av):Ev:=fun ρ M=>(fo ρ M).bind fun x M1=>if Zg6 x M1=true then (fs ρ M1).bind fun ds M2=>g x ds M2 else .bad
theorem Zg7 {K:PySem.W.Frag} {H:Hp} {α:List Addr} {M:Sto} {v:V} {x:D} (h:HR K H α M) (rx:Rep K H α v x) (k:Zg6 x M=true):tyV K "list" v H:=by
 cases rx with
 | @ref p n hp=>
  obtain ⟨xs,g⟩:=h.some_at hp
  exact .inl ⟨rfl,_,SqL.of g⟩
 |_=>cases k
theorem Zk8 (slot:Slot "list" name id) (hty:typeOf (.builtin id)=pure (.type "method_descriptor")) (hm:MtR X id r) (hf:MO X ξ r g) (ho:DE X ξ o fo) (ha:DA X ξ (e :: es) fs)
  (hbase:attributeBase o name X.env (eval o X.env)=eval o X.env:=by rfl)
  (hfew:((backTo cpos (starEach (e :: es) X.env)).all (fun x=> !x.1) && (backToKw cpos (keywordEach [] X.env)).all (fun x=>x.1.isSome)
   && decide ((e :: es).length + ([]:List Keyword).length + (if ([]:List Keyword).isEmpty then 0 else 1) < 30))=true:=by rfl)
  (hline:(apos.endLine == cpos.line)=true:=by rfl) (hs:starEach (e :: es) X.env=(false,eval e X.env) :: starEach es X.env:=by rfl) (hplain:(backTo cpos (starEach es X.env)).any (·.1)=false:=by rfl):
  DE X ξ (.Call (.Attribute o name apos) (e :: es) [] cpos) (Zgb g fo fs):=by
 obtain ⟨to,po,qo⟩:=ho
 obtain ⟨ta,pa,qa⟩:=ha
 refine ⟨_,ZkX PySem.F.plainAttrs_list slot hty hm po pa hbase hfew hline hs hplain,fun σ ρ H α M Q s h q=> ?_⟩
 refine qo σ ρ H α M _ s h (OG.seq q fun x M1 v H1 α1 e1 h1 r1 q1=> ?_)
 by_cases k:Zg6 x M1=true
 ·rw[if_pos k] at q1
  exact ⟨Zg7 h1 r1 k,qa σ ρ H1 α1 M1 _ (s.mono e1) h1 (OG.seq q1 fun ds M2 vs H2 α2 e2 h2 r2 q2=>hf H2 α2 M2 v vs x ds Q h2 (Rep.mono e2 r1) r2 q2)⟩
 ·rw[if_neg k] at q1
  exact q1.elim
noncomputable def mApp:Me:=fun x ds M=>match x,ds with
 | .ref n,[d]=>(match M[n]? with | some (.lst xs)=>if xs.length < 10000000 then .ok .non (M.set n (.lst (xs ++ [d]))) else .bad | none=> .bad)
 |_,_=> .bad
theorem ZiZ:MO X ξ rAppend mApp:=by
 intro H α M v vs x ds Q h rx rs q
 cases rx with
 | @ref p n hp=>
  match rs with
  | .nil=>exact q.elim
  | .cons _ (.cons _ _)=>exact q.elim
  | .cons (v:=u) (d:=d) ru .nil=>
   cases em:M[n]? with
   |none=>simp only[mApp,em] at q;exact q.elim
   |some so=>
    cases so with
    |lst es=>
     obtain ⟨xs,g1,g2⟩:=h.at hp em
     by_cases c:es.length < 10000000
     ·simp only[mApp,em,if_pos c] at q
      obtain ⟨k1,k2⟩:=h.wrE hp g1 (g2.append (.cons ru .nil))
      exact ⟨p,xs,u,rfl,rfl,g1,by rw[g2.length];exact Nat.lt_of_lt_of_le c (by decide),q _ _ α k1 k2 .non⟩
     ·simp only[mApp,em,if_neg c] at q
      exact q.elim
 |_=>cases rs<;>exact q.elim
noncomputable def ZmJ:Me:=fun x ds M=>match x,ds with
 | .ref n,[]=>(match M[n]? with | some (.lst _)=> .ok .non (M.set n (.lst [])) | none=> .bad)
 |_,_=> .bad
noncomputable def ZmK:Me:=fun x ds M=>match x,ds with
 | .ref n,[.ref m]=>(match M[n]?,M[m]? with | some (.lst xs),some (.lst ys)=>if xs.length + ys.length<=10000000 then .ok .non (M.set n (.lst (xs ++ ys))) else .bad | _,_=> .bad)
 |_,_=> .bad
theorem Zbi (ho:DE X ξ o fo) (ha:DE X ξ e fa) (hbase:attributeBase o "append" X.env (eval o X.env)=eval o X.env:=by rfl)
  (hfew:((backTo cpos (starEach [e] X.env)).all (fun x=> !x.1) && (backToKw cpos (keywordEach [] X.env)).all (fun x=>x.1.isSome)
   && decide ([e].length + ([]:List Keyword).length + (if ([]:List Keyword).isEmpty then 0 else 1) < 30))=true:=by rfl)
  (hline:(apos.endLine == cpos.line)=true:=by rfl) (hs:starEach [e] X.env=(false,eval e X.env) :: starEach [] X.env:=by rfl) (hplain:(backTo cpos (starEach [] X.env)).any (·.1)=false:=by rfl):
  DE X ξ (.Call (.Attribute o "append" apos) [e] [] cpos) (Zgb mApp fo (Zc fa aNil)):=Zk8 PySem.F.slot_list_append PySem.F.type_list_append Zb6 ZiZ ho (Za ha Ze hs) hbase hfew hline hs hplain
noncomputable def DO (X:Cx) (ξ:XK) (e:Option Expr) (f:Ro->Sto->Out (Option Int)):Prop:= ∃ t:TO,PO X e t/\ ∀ σ ρ H α M (Q:Option Int->Hp->Prop),SR X.K H α σ ρ->HR X.K H α M->OG X.K (fun _ _ v d=>v=d) H α ξ Q (f ρ M)->t σ H Q
noncomputable def oNo:Ro->Sto->Out (Option Int):=fun _ M=> .ok none M
noncomputable def oSo (f:Ev):Ro->Sto->Out (Option Int):=fun ρ M=>(f ρ M).bind fun x M1=>match x with | .int i=> .ok (some i) M1 | _=> .bad
theorem Zk9:DO X ξ none oNo:=⟨_,Zgw,fun σ ρ H α M Q s h q=>q none H α Ext.refl h rfl⟩
theorem Zla (ha:DE X ξ e fa):DO X ξ (some e) (oSo fa):=by
 obtain ⟨ta,pa,qa⟩:=ha
 refine ⟨_,Zgx pa,fun σ ρ H α M Q s h q=> ?_⟩
 refine qa σ ρ H α M _ s h (OG.seq q fun x M1 v H1 α1 e1 h1 r1 q1=> ?_)
 cases r1 with
 |int i=>exact ⟨i,rfl,q1 (some i) H1 α1 Ext.refl h1 rfl⟩
 |_=>exact q1.elim
noncomputable def ZcK (xs:List D) (lo hi:Option Int):List D:=(xs.drop (HT.sIx xs.length 0 lo)).take (HT.sIx xs.length xs.length hi - HT.sIx xs.length 0 lo)
theorem Reps.drop {K:PySem.W.Frag} {H:Hp} {α:List Addr}: ∀ (n:Nat) {vs:List V} {ds:List D},Reps K H α vs ds->Reps K H α (vs.drop n) (ds.drop n)
 |0,_,_,h=>h
 |_ + 1,_,_,.nil=> .nil
 |n + 1,_,_,.cons _ t=>Reps.drop n t
theorem Reps.take {K:PySem.W.Frag} {H:Hp} {α:List Addr}: ∀ (n:Nat) {vs:List V} {ds:List D},Reps K H α vs ds->Reps K H α (vs.take n) (ds.take n)
 |0,_,_,_=> .nil
 |_ + 1,_,_,.nil=> .nil
 |n + 1,_,_,.cons r t=> .cons r (Reps.take n t)
theorem Reps.cut {K:PySem.W.Frag} {H:Hp} {α:List Addr} {vs:List V} {ds:List D} (r:Reps K H α vs ds) (lo hi:Option Int):Reps K H α (ZfX vs lo hi) (ZcK ds lo hi):=by
 unfold ZfX ZcK
 rw[r.length]
 exact (r.drop _).take _
noncomputable def eSl (f:Ev) (lo hi:Ro->Sto->Out (Option Int)):Ev:=fun ρ M=>(f ρ M).bind fun x M1=>(lo ρ M1).bind fun l M2=>(hi ρ M2).bind fun u M3=>match x with
 | .ref n=>(match M3[n]? with | some (.lst xs)=> .ok (.ref M3.length) (M3 ++ [.lst (ZcK xs l u)]) | none=> .bad)
 | .rol xs=> .ok (.ref M3.length) (M3 ++ [.lst (ZcK xs l u)])
 | .tup xs=>if HT.sIx xs.length 0 l=0/\HT.sIx xs.length xs.length u=xs.length then .bad else .ok (.tup (ZcK xs l u)) M3
 |_=> .bad
theorem Zlb {lo hi:Option Expr} {fl fh:Ro->Sto->Out (Option Int)} {p2:Pos} (he:DE X ξ e fa) (hl:DO X ξ lo fl) (hh:DO X ξ hi fh):DE X ξ (.Subscript e (.Slice lo hi none p2) pos) (eSl fa fl fh):=by
 obtain ⟨ta,pa,qa⟩:=he
 obtain ⟨tl,pl,ql⟩:=hl
 obtain ⟨th,ph,qh⟩:=hh
 refine ⟨_,Ze6 (SlR.or ZgC Zig) pa pl ph,fun σ ρ H α M Q s h q=> ?_⟩
 refine qa σ ρ H α M _ s h (OG.seq q fun x M1 v H1 α1 e1 h1 r1 q1=> ?_)
 refine ql σ ρ H1 α1 M1 _ (s.mono e1) h1 (OG.seq q1 fun l M2 l' H2 α2 e2 h2 r2 q2=> ?_)
 refine qh σ ρ H2 α2 M2 _ ((s.mono e1).mono e2) h2 (OG.seq q2 fun u M3 u' H3 α3 e3 h3 r3 q3=> ?_)
 cases r2
 cases r3
 cases Rep.mono e3 (Rep.mono e2 r1) with
 | @ref p n hp=>
  cases em:M3[n]? with
  |none=>simp only[em] at q3;exact q3.elim
  |some so=>
   cases so with
   |lst es=>
    simp only[em] at q3
    obtain ⟨xs,g1,g2⟩:=h3.at hp em
    exact .inl ⟨p,xs,rfl,SqL.of g1,fun a ha=>q3 _ _ (α3 ++ [a]) (Ext.new ha) (h3.new ha (g2.cut l u)) (.ref ⟨h3.last a,Kn.lst Zl⟩)⟩
 | @rol p xs ds hp rp=>
  have q4:OP X.K H3 α3 ξ Q (.ok (.ref M3.length) (M3 ++ [.lst (ZcK ds l u)])):=q3
  exact .inl ⟨p,xs,rfl,hp.sq,fun a ha=>q4 _ _ (α3 ++ [a]) (Ext.new ha) (h3.new ha (rp.cut l u)) (.ref ⟨h3.last a,Kn.lst Zl⟩)⟩
 | @tup p xs ds hp rp=>
  by_cases c:HT.sIx ds.length 0 l=0/\HT.sIx ds.length ds.length u=ds.length
  ·simp only[if_pos c] at q3
   exact q3.elim
  ·simp only[if_neg c] at q3
   exact .inr ⟨p,xs,rfl,(SqT.of hp),by rw[rp.length];exact c,fun a ha=>q3 _ _ α3 (Ext.new0 ha) (h3.tup ha) (.tup Zl (Reps.mono (Ext.new0 ha) (rp.cut l u)))⟩
 |_=>exact q3.elim
noncomputable def iR2 (fs:Av):Ro->Sto->Out Src:=fun ρ M=>(fs ρ M).bind fun ds M1=>match ds with
 | [.int i,.int j]=>if -(2 ^ 62)<=i/\i < 2 ^ 62/\ -(2 ^ 62)<=j/\j < 2 ^ 62 then .ok (.pur (ZaF i (j - i).toNat)) M1 else .bad
 |_=> .bad
end
noncomputable def eRv (f:Ev):Ev:=fun ρ M=>(f ρ M).bind fun x M1=>match x with
 | .tup xs=> .ok (.tup xs.reverse) M1
 | .ref n=>(match M1[n]? with | some (.lst xs)=> .ok (.ref M1.length) (M1 ++ [.lst xs.reverse]) | none=> .bad)
 | .rol xs=> .ok (.ref M1.length) (M1 ++ [.lst xs.reverse])
 |_=> .bad
end DL
end
section
namespace DL
open PySem PySem.Spec PyProof.Rows L2
noncomputable def Zdv (tg:Tg) (g:Sv) (src:Src):Nat->Nat->Ro->Sto->Fl
 |f,i,ρ,M=>match nxt src i M with
  |none=> .bad
  |some none=> .nx ρ M
  |some (some d)=>(match f with
   |0=> .bad
   |f + 1=>(match tg d ρ with
    |none=> .bad
    |some ρ1=>(match g ρ1 M with
     | .nx ρ2 M2=>Zdv tg g src f (i + 1) ρ2 M2
     | .cnt ρ2 M2=>Zdv tg g src f (i + 1) ρ2 M2
     | .brk ρ2 M2=> .nx ρ2 M2
     |o=>o)))
noncomputable def Zft (tg:Tg) (fi:Ro->Sto->Out Src) (g:Sv):Sv:=fun ρ M=>Zaq (fi ρ M) fun src M1=>Zdv tg g src (cnt src M1) 0 ρ M1
section
variable {X:Cx} {ξ:XK} {tg iter a b:Expr} {gt:Tg} {fi:Ro->Sto->Out Src} {g:Sv} {body:List Stmt} {f fa fb:Ev} {fs:Av} {p pos:Pos}
theorem Zg8 (hp:PassesOwn (model X.prog X.w) X.A X.env X.xe) (hi:DI X ξ tg iter fi) (hg:DG X tg gt) (hb:DSs X ξ body g) (hf: ∀ x,foldedSetIterable iter X.env x=pure x:=by intro _;rfl):DS X ξ (.For tg iter body [] pos) (Zft gt fi g):=by
 obtain ⟨wi,pi,qi⟩:=hi
 obtain ⟨tt,pt,qt⟩:=hg
 obtain ⟨tb,pb,qb⟩:=hb
 refine ⟨_,ZdR hp pi pt pb hf,fun σ ρ H α M Dn s hh w=>qi σ ρ H α M _ s hh (FP.seq w fun src M1 J H1 α1 e1 h1 sc w1=> ?_)⟩
 generalize eo:Zdv gt g src (cnt src M1) 0 ρ M1=o at w1
 refine ⟨fun i m σ' H'=> ∃ ρ' α' M',Ext X.K H1 H' α1 α'/\SR X.K H' α' σ' ρ'/\HR X.K H' α' M'/\Zdv gt g src m i ρ' M'=o,⟨cnt src M1,ρ,α1,M1,Ext.refl,s.mono e1,h1,eo⟩,?_⟩
 rintro i m σ' H' ⟨ρ',α',M',ex,sr,hr,en⟩
 have s5:=sc i H' α' M' ex hr
 unfold Zdv at en
 cases en1:nxt src i M' with
 |none=>rw[en1] at en;cases en;exact w1.elim
 |some od=>
  rw[en1] at en s5
  cases od with
  |none=>cases en;exact .inl ⟨s5,w1 σ' H' α' ex hr sr⟩
  |some d=>
   obtain ⟨go,yl⟩:=s5
   cases m with
   |zero=>cases en;exact w1.elim
   |succ m=>
    simp only at en
    refine .inr ⟨go,fun σ2 H2=> ∃ ρ' α' M',Ext X.K H1 H2 α1 α'/\SR X.K H2 α' σ2 ρ'/\HR X.K H2 α' M'/\Zdv gt g src m (i + 1) ρ' M'=o,fun σ2 H2 z=>⟨m,Nat.lt_succ_self m,z⟩,fun x H2 y=> ?_⟩
    obtain ⟨ex7,hr7,rp7⟩:=yl x H2 y
    exact Zfl (tg:=tg) w1 qt qb (ex.trans ex7) (sr.mono ex7) hr7 rp7 en (fun σ' H' z=>z)
end
theorem ZeA {X:Cx} {pins:List (Addr × Obj)} {σ:L2.St} {H:Hp} {s:Shared} {h':Heap} {t':Nat} {ch:List Addr} (I:Inv X pins σ H s) (k: ∀ b o,b ∉ ch->s.heap.get? b=some o->h'.get? b=some o) (hf: ∀ b∈ch,ZcA X pins H b):Inv X pins σ H { s with heap:=h',toks:=t' }:=by
 have nit: ∀ b u,H b=some u->b ∉ ch:=fun b u e z=>by rw[(hf b z).1] at e;cases e
 have hL:X.env.locals ∉ ch:=fun z=>(hf _ z).2.1 rfl
 refine I.step (g':=s.gens) (d':=s.drawn) (ch:=ch) (fun b hb=> ?_) (fun b o _ _ hc e _=>k b o hc e) (fun b o _ _ hc e _=>⟨o.slots,k b o hc e⟩) (fun _ _ _ _ n=>n)
  (fun b o hc e=>⟨o,k b o hc e⟩) (fun _ _ e=>e) (fun _ _ _ e=>e) (fun b ps e=>⟨#[],by rw[e];simp⟩) (fun m hm=> ?_) (fun b u e=> ?_) I.bare
 ·obtain ⟨_,z1,_,z3,z4,z5⟩:=hf b hb
  exact ⟨z3,z1,z4,z5⟩
 ·obtain ⟨o,es,ep,ho,r⟩:=hm
  exact ⟨o,es,ep,k _ o hL ho,r⟩
 ·refine (I.hok b u e).stay (fun c v hc q=>k c v ?_ q) (fun _ q=>q) fun _ _ q=>q
  rcases hc with z | z
  ·rw[z];exact nit b u e
  ·exact nit c _ z
theorem Zi0 {X:Cx} {pins:List (Addr × Obj)} {σ:L2.St} {H:Hp} {s:Shared} {h':Heap} {t':Nat} {ch:List Addr} {vs:List V} {us:List Value} (I:Inv X pins σ H s) (hf: ∀ b∈ch,ZcA X pins H b) (hlt: ∀ b∈ch,b < s.heap.objs.size) (rv:ZJ vs us) (hz:vs.length<=sizeLine)
  (k: ∀ b o,b ∉ ch->s.heap.get? b=some o->h'.get? b=some o) (ht:h'.get? s.heap.objs.size=some { cls:= .type "tuple",data:= .seq us.toArray }):
  Inv X pins σ (upd H s.heap.objs.size (.tup vs)) { s with heap:=h',toks:=t' }/\H s.heap.objs.size=none/\ ∀ b∈ch,upd H s.heap.objs.size (.tup vs) b=none:=by
 have fr:H s.heap.objs.size=none:=I.hok.fresh (Nat.le_refl _)
 have hn: ∀ b∈ch,upd H s.heap.objs.size (.tup vs) b=none:=fun b hb=>by rw[Zm (Nat.ne_of_lt (hlt b hb))];exact (hf b hb).1
 have I1:Inv X pins σ (upd H s.heap.objs.size (.tup vs)) { s with heap:=s.heap.push { cls:= .type "tuple",data:= .seq us.toArray },toks:=t' }:=
  I.laid (t':=t') (o:= .tup vs) (fun _ _ q=>Heap.get?_push_of_some _ q) (Nat.le_refl _) ⟨hz,us,rv,_,Heap.get?_push_size _ rfl,rfl,_,rfl⟩
 refine ⟨ZeA (s:={ s with heap:=s.heap.push { cls:= .type "tuple",data:= .seq us.toArray },toks:=t' }) (t':=t') (ch:=ch) I1 (fun b o hb e=> ?_) (fun b hb=>⟨hn b hb,(hf b hb).2⟩),fr,hn⟩
 by_cases c:b=s.heap.objs.size
 ·subst c
  have e':(s.heap.push { cls:= .type "tuple",data:= .seq us.toArray }).get? s.heap.objs.size=some o:=e
  rw[Heap.get?_push_size _ rfl] at e'
  cases e'
  exact ht
 ·refine k b o hb ?_
  have e':(s.heap.push { cls:= .type "tuple",data:= .seq us.toArray }).get? b=some o:=e
  have hl:b < s.heap.objs.size:=by
   have q:b < s.heap.objs.size + 1:=by
    have z:=Heap.lt_size e'
    rwa [Heap.size_push] at z
   exact Nat.lt_of_le_of_ne (Nat.le_of_lt_succ q) c
  have q:(s.heap.push { cls:= .type "tuple",data:= .seq us.toArray }).get? b=s.heap.get? b:=by
   unfold Heap.get? Heap.push
   simp only[Array.getElem?_push]
   rw[if_neg (Nat.ne_of_lt hl)]
  rwa [q] at e'
noncomputable def Itz (K:PySem.W.Frag) (a b:Addr):It:=
 ⟨fun i H=> ∃ xs ys x y,SqL K H a xs/\SqL K H b ys/\xs[i]?=some x/\ys[i]?=some y,fun i H v H'=> ∃ p,H p=none/\v= .ref p/\ ∀ xs ys x y,SqL K H a xs->SqL K H b ys->xs[i]?=some x->ys[i]?=some y->H'=upd H p (.tup [x,y]),
  fun i H=> ∃ xs ys,SqL K H a xs/\SqL K H b ys/\(xs.length<=i\/ys.length<=i)⟩
theorem Zfu {P:Program} {w:World} {K:PySem.W.Frag} {B:Around} {elts:List Expr} {k0:Nat} {tp:Pos} (hB:B.handled=none) {z TI TO i1 i2 a b:Addr} (D:ZipApart z TI TO i1 i2 a b):
  Turn P w K B (.Tuple elts k0 tp) (Itz K a b) [z,TI,TO,i1,i2] z (fun i h=>IsZip h z TI TO .none/\IsPair h TI (.ref i1) (.ref i2)/\(∃ x y,IsPair h TO x y)/\h.IsListIter i1 a i/\h.IsListIter i2 b i) where
 mem:=by simp
 obj:=fun i h st c hc=>by
  obtain ⟨h1,h2,⟨x,y,h3⟩,⟨o4,e4,c4,d4⟩,⟨o5,e5,c5,d5⟩⟩:=st
  simp only[List.mem_cons,List.not_mem_nil,or_false] at hc
  rcases hc with rfl | rfl | rfl | rfl | rfl
  ·exact ⟨_,h1,fun v q=>by cases q⟩
  ·exact ⟨_,h2,fun v q=>by cases q⟩
  ·exact ⟨_,h3,fun v q=>by cases q⟩
  ·exact ⟨o4,e4,fun v q=>by rw[d4] at q;cases q⟩
  ·exact ⟨o5,e5,fun v q=>by rw[d5] at q;cases q⟩
 keep:=fun i h h' st k=>by
  obtain ⟨h1,h2,⟨x,y,h3⟩,h4,h5⟩:=st
  exact ⟨k z (by simp) _ h1,k TI (by simp) _ h2,⟨x,y,k TO (by simp) _ h3⟩,h4.at fun o q=>k i1 (by simp) o q,h5.at fun o q=>k i2 (by simp) o q⟩
 item:=by
  intro X hP hw hK hA i pins s σ H E I hf st hg
  subst hP hw hK hA
  obtain ⟨h1,h2,⟨x0,y0,h3⟩,h4,h5⟩:=st
  obtain ⟨xs,ys,x,y,hq,hq2,hx,hy⟩:=hg
  obtain ⟨its,rv,p,hz⟩:=I.list hq
  obtain ⟨its2,rv2,p2,hz2⟩:=I.list hq2
  obtain ⟨u,hu,ru⟩:=rv.get hx
  obtain ⟨u2,hu2,ru2⟩:=rv2.get hy
  have lt: ∀ c∈[z,TI,TO,i1,i2],c < s.heap.objs.size:=fun c hc=>by
   simp only[List.mem_cons,List.not_mem_nil,or_false] at hc
   rcases hc with rfl | rfl | rfl | rfl | rfl
   ·exact Heap.lt_size h1
   ·exact Heap.lt_size h2
   ·exact Heap.lt_size h3
   ·obtain ⟨o,e2,_⟩:=h4;exact Heap.lt_size e2
   ·obtain ⟨o,e2,_⟩:=h5;exact Heap.lt_size e2
  refine wpAny_pyNext_zip_item D h1 h2 h3 h4 h5 p.isList p2.isList (x:=u) (y:=u2) (by simpa using hu) (by simpa using hu2) fun h' o1 o2 o3 o4 o5 o6 o7=>⟨_,rfl,?_⟩
  refine wpAny_letOwnedTupleGo_zip (s:={ s with heap:=h' }) o1 fun h'' q1 q2=> ?_
  have pe:s.heap.objs.size≠z:=Nat.ne_of_gt (lt z (by simp))
  obtain ⟨J1,J2,J3⟩:=Zi0 (h':=h'') (t':=s.toks) (ch:=[z,TI,TO,i1,i2]) (vs:=[x,y]) (us:=[u,u2]) I hf lt (.cons ru (.cons ru2 .nil)) (by show 2<=sizeLine;decide)
   (fun c o hc q=>by
    simp only[List.mem_cons,List.not_mem_nil,or_false,not_or] at hc
    exact (q2.2 c hc.1).trans (o7 c o hc.1 hc.2.2.1 hc.2.2.2.1 hc.2.2.2.2 q)) ((q2.2 _ pe).trans o5)
  refine ⟨.ref s.heap.objs.size,_,J1,rfl,⟨_,J2,rfl,fun xs' ys' x' y' hx1 hy1 hx2 hy2=> ?_⟩,⟨q1,(q2.2 TI D.TIz).trans (o7 TI _ D.TIz D.TITO D.TIi1 D.TIi2 h2),⟨u,u2,(q2.2 TO D.TOz).trans o2⟩,o3.at fun o q=>(q2.2 i1 D.i1z).trans q,o4.at fun o q=>(q2.2 i2 D.i2z).trans q⟩,J3⟩
  rw[I.list_inj hx1 hq,hx] at hx2
  rw[I.list_inj hy1 hq2,hy] at hy2
  cases hx2
  cases hy2
  rfl
 done:=by
  intro X hP hw hK hA i pins s σ H E I hf st hg
  subst hP hw hK hA
  obtain ⟨h1,h2,⟨x0,y0,h3⟩,h4,h5⟩:=st
  obtain ⟨xs,ys,hq,hq2,hx⟩:=hg
  obtain ⟨its,rv,p,hz⟩:=I.list hq
  obtain ⟨its2,rv2,p2,hz2⟩:=I.list hq2
  have he:its.toArray[i]?=none\/its2.toArray[i]?=none:=by
   rcases hx with hx | hx
   ·exact .inl (by simp only[List.getElem?_toArray];exact List.getElem?_eq_none (by rw[<- rv.length];exact hx))
   ·exact .inr (by simp only[List.getElem?_toArray];exact List.getElem?_eq_none (by rw[<- rv2.length];exact hx))
  refine wpAny_pyNext_zip_end hB D h1 h2 h3 h4 h5 p.isList p2.isList he fun h' keep=>⟨rfl,?_⟩
  refine ZeA (t':=s.toks) (ch:=[z,TI,TO,i1,i2]) I (fun c o hc q=> ?_) hf
  simp only[List.mem_cons,List.not_mem_nil,or_false,not_or] at hc
  exact keep c o hc.1 hc.2.2.1 hc.2.2.2.1 hc.2.2.2.2 q
 self:=fun A i s Q E st q=>wpAny_pyIter_zip st.1 q
theorem Zi1 {n a b:Nat} (h1:a < n) (h2:b < n):ZipApart (n + 4) (n + 2) (n + 3) n (n + 1) a b:=⟨Nat.ne_of_lt (by omega),Nat.ne_of_lt (by omega),Nat.ne_of_lt (by omega),Nat.ne_of_lt (by omega),Nat.ne_of_lt (by omega),Nat.ne_of_gt (by omega),Nat.ne_of_gt (by omega),Nat.ne_of_gt (by omega),Nat.ne_of_gt (by omega),Nat.ne_of_lt (by omega),Nat.ne_of_lt (by omega),Nat.ne_of_lt (by omega),Nat.ne_of_lt (by omega),Nat.ne_of_lt (by omega),Nat.ne_of_lt (by omega),Nat.ne_of_lt (by omega),Nat.ne_of_lt (by omega),Nat.ne_of_lt (by omega)⟩
theorem Zi2:bootBuiltins "zip"=some (.type "zip"):=by decide +kernel
section
variable {X:Cx} {ξ:XK} {a b:Expr} {elts:List Expr} {k0:Nat} {tp:Pos} {fa:Ev} {fs:Av} {p pos:Pos} {ta:TA}
noncomputable def ZnS (K:PySem.W.Frag) (t:TA):TI:=fun σ H R=>t σ H fun vs H1=> ∃ l l2 xs ys,vs=[.ref l,.ref l2]/\SqL K H1 l xs/\SqL K H1 l2 ys/\R (Itz K l l2) H1
theorem Zi3 (hc:X.A.handled=none) (hg:Gl X "zip") (hm:X.mg "zip"=none) (ha:PA X [a,b] ta) (hs:starEach [a,b] X.env=(false,eval a X.env) :: starEach [b] X.env:=by rfl) (hpl:(backTo pos (starEach [b] X.env)).any (·.1)=false:=by rfl):
  PI X (.Tuple elts k0 tp) (.Call (.Name "zip" p) [a,b] [] pos) (ZnS X.K ta):=by
 intro pins s σ H R I h
 refine wpAny_Call_Name_kw (Zb0 I hg hm Zi2 (PyProof.Rows.callWith_type1 (thn (ha pos pins s σ H _ I h) fun us s1 ⟨vs,H1,I1,r1,q1⟩=> ?_) hs hpl) (by decide) (by decide))
 obtain ⟨l,l2,xs,ys,rfl,hq,hq2,q⟩:=q1
 obtain ⟨u,u2,rfl,ru,ru2⟩:=Ze4 r1
 cases ru
 cases ru2
 obtain ⟨its,rv,pl,hz⟩:=I1.list hq
 obtain ⟨its2,rv2,pl2,hz2⟩:=I1.list hq2
 have lt1:l < s1.heap.objs.size:=by obtain ⟨_,e,_⟩:=pl.isList;exact Heap.lt_size e
 have lt2:l2 < s1.heap.objs.size:=by obtain ⟨_,e,_⟩:=pl2.isList;exact Heap.lt_size e
 refine call_zip_2 pl.isList pl2.isList fun h' e1 e2 e3 e4 e5 e6 e7=> ?_
 have D:=Zi1 lt1 lt2
 have T:=Zfu (P:=X.prog) (w:=X.w) (K:=X.K) (B:=X.A) (elts:=elts) (k0:=k0) (tp:=tp) hc D
 have I2:Inv X pins σ H1 { s1 with heap:=h',toks:=s1.toks }:=I1.kept (t':=s1.toks) e7
 refine T.self X.A 0 { s1 with heap:=h' } _ _ ⟨e1,e2,⟨_,_,e3⟩,e4,e5⟩ ⟨_,_,_,_,H1,rfl,I2,T,⟨e1,e2,⟨_,_,e3⟩,e4,e5⟩,fun c hc=> ?_,q⟩
 have hb':s1.heap.objs.size<=c:=by
  simp only[List.mem_cons,List.not_mem_nil,or_false] at hc
  rcases hc with rfl | rfl | rfl | rfl | rfl<;>omega
 exact I1.fpOk hb' (I1.hok.fresh hb')
noncomputable def iEn (fs:Av):Ro->Sto->Out Src:=fun ρ M=>(fs ρ M).bind fun ds M1=>match ds with | [.ref n]=> .ok (.enu n) M1 | _=> .bad
noncomputable def iZp (fs:Av):Ro->Sto->Out Src:=fun ρ M=>(fs ρ M).bind fun ds M1=>match ds with | [.ref n,.ref m]=> .ok (.zip n m) M1 | _=> .bad
theorem Zi4 (hc:X.A.handled=none) (hm:X.mg "zip"=none) (ha:DA X ξ [a,b] fs) (hg:Gl X "zip":=by rfl) (hs:starEach [a,b] X.env=(false,eval a X.env) :: starEach [b] X.env:=by rfl) (hpl:(backTo pos (starEach [b] X.env)).any (·.1)=false:=by rfl):
  DI X ξ (.Tuple elts k0 tp) (.Call (.Name "zip" p) [a,b] [] pos) (iZp fs):=by
 obtain ⟨ta,pa,qa⟩:=ha
 refine ⟨_,Zi3 hc hg hm pa hs hpl,fun σ ρ H α M R s hh q=>qa σ ρ H α M _ s hh (OG.seq q fun ds M1 vs H1 α1 e1 h1 r1 w1=> ?_)⟩
 split at w1
 ·rename_i n m
  cases r1 with
  |cons r t=>
   cases t with
   |cons r' t=>
    cases t
    cases r with
    |ref hp=>
    cases r' with
    |ref hp2=>
    rename_i l l2
    obtain ⟨xs0,g0⟩:=h1.some_at hp
    obtain ⟨ys0,g0'⟩:=h1.some_at hp2
    refine ⟨l,l2,xs0,ys0,rfl,SqL.of g0,SqL.of g0',w1 _ H1 α1 Ext.refl h1 fun i H' α' M' ex hr=> ?_⟩
    cases em:M'[n]? with
    |none=>rw[show nxt (.zip n m) i M'=none by simp only[nxt,em]];exact True.intro
    |some so=>
     cases em2:M'[m]? with
     |none=>cases so;rw[show nxt (.zip n m) i M'=none by simp only[nxt,em,em2]];exact True.intro
     |some so2=>
      cases so with
      |lst es=>
       cases so2 with
       |lst es2=>
        obtain ⟨xs,g1,g2⟩:=hr.at (ex.get hp) em
        obtain ⟨ys,g3,g4⟩:=hr.at (ex.get hp2) em2
        cases ei:es[i]? with
        |none=>rw[show nxt (.zip n m) i M'=some none by simp only[nxt,em,em2,ei]];exact ⟨xs,ys,SqL.of g1,SqL.of g3,.inl (by rw[g2.length];exact List.getElem?_eq_none_iff.mp ei)⟩
        |some d=>
         cases ej:es2[i]? with
         |none=>rw[show nxt (.zip n m) i M'=some none by simp only[nxt,em,em2,ei,ej]];exact ⟨xs,ys,SqL.of g1,SqL.of g3,.inr (by rw[g4.length];exact List.getElem?_eq_none_iff.mp ej)⟩
         |some d2=>
          obtain ⟨v,k1,k2⟩:=g2.get ei
          obtain ⟨v2,k3,k4⟩:=g4.get ej
          rw[show nxt (.zip n m) i M'=some (some (D.tup [d,d2])) by simp only[nxt,em,em2,ei,ej]]
          refine ⟨⟨xs,ys,v,v2,SqL.of g1,SqL.of g3,k1,k3⟩,fun x H'' y=> ?_⟩
          obtain ⟨pp,y1,rfl,y3⟩:=y
          have y4:=y3 xs ys v v2 (SqL.of g1) (SqL.of g3) k1 k3
          subst y4
          exact ⟨Ext.new0 y1,hr.tup y1,.tup Zl (.cons (Rep.mono (Ext.new0 y1) k2) (.cons (Rep.mono (Ext.new0 y1) k4) .nil))⟩
 ·exact w1.elim
end
end DL
end
section
namespace DL
open PySem PySem.Spec PyProof.Rows L2
open PySem.SeqAt (EqAt RcAt RcNeAt)
section
variable {X:Cx} {ξ:XK} {pins:List (Addr × Obj)} {σ:L2.St} {H:Hp} {s:Shared} {α:List Addr} {M:Sto}
noncomputable def eqs (M:Sto) (d:D):List D->Option (List Bool)
 | []=>some []
 |x :: r=>match eqF 12 M x d with | some b=>(match eqs M d r with | some bs=>some (b :: bs) | none=>none) | none=>none
end
section
variable {X:Cx} {ξ:XK}
noncomputable def inE (x y:D) (M:Sto):Option Bool:=match Zfk M y with | some ds=>(match eqs M x ds with | some bs=>some (bs.any id) | none=>none) | none=>none
noncomputable def ZmL:Bo:=fun x y M=>match inE x y M with | some b=> .ok (.bl b) M | none=> .bad
noncomputable def ZeB:Bo:=fun x y M=>match inE x y M with | some b=> .ok (.bl (!b)) M | none=> .bad
noncomputable def ZnT:Me:=fun x ds M=>match x,ds with
 | .ref n,[d]=>(match M[n]? with | some (.lst xs)=>(match eqs M d xs with | some bs=>(match bs.findIdx? id with | some j=> .ok (.int (j:Nat)) M | none=> .bad) | none=> .bad) | none=> .bad)
 |_,_=> .bad
noncomputable def ZnU:Me:=fun x ds M=>match x,ds with
 | .ref n,[d]=>(match M[n]? with | some (.lst xs)=>(match eqs M d xs with | some bs=> .ok (.int (bs.countP id:Nat)) M | none=> .bad) | none=> .bad)
 |_,_=> .bad
noncomputable def Zck:List D->Option (List Int)
 | []=>some []
 | .int b :: r=>match Zck r with | some bs=>some (b :: bs) | none=>none
 |_ :: _=>none
noncomputable def Zi5 (g:List Int->Option Int):List D->Sto->Out D:=fun ds M=>match ds with
 | [x]=>(match Zfk M x with | some xs=>(match x with | .con _=> .bad | .tup _=> .bad | _=>(match Zck xs with | some ns=>(match g ns with | some i=> .ok (.int i) M | none=> .bad) | none=> .bad)) | none=> .bad)
 |_=> .bad
end
end DL
end
section
namespace DL
open PySem PySem.Spec PyProof.Rows L2
noncomputable def kK:D->Option Key
 | .int i=>some (.inl i)
 | .str x=>some (.inr x)
 |_=>none
noncomputable def kKs:List D->Option (List Key)
 | []=>some []
 |d :: r=>match kK d,kKs r with | some k,some ks=>some (k :: ks) | _,_=>none
noncomputable def kT:D->Option (List Key)
 | .tup ds=>kKs ds
 |_=>none
theorem ZeC (k:Key):kK (Zdo k)=some k:=by cases k<;>rfl
theorem Zdb: ∀ (ks:List Key),kKs (ks.map Zdo)=some ks
 | []=>rfl
 |k :: ks=>by rw[List.map_cons,kKs,ZeC,Zdb ks]
theorem Zfv (ks:List Key):kT (Zdp ks)=some ks:=Zdb ks
section
variable {κ:Type} [DecidableEq κ]
noncomputable def ZeD (dec:D->Option κ) (k:κ):List D->Option D
 | []=>none
 | .tup [a,v] :: r=>if dec a=some k then some v else ZeD dec k r
 |_ :: r=>ZeD dec k r
variable {K:PySem.W.Frag} {H H':Hp} {α α':List Addr} {key:κ->D} {dec:D->Option κ}
theorem Zcl:Z6 K H α key [] []:=⟨[],rfl,.nil⟩
theorem Zbj (hd: ∀ k,dec (key k)=some k): ∀ {kvs:List (κ × V)} {es:List D} (k:κ),Reps K H α (kvs.map (·.2)) es->
  match ZeD dec k (List.zipWith (fun kv e=>D.tup [key kv.1,e]) kvs es) with | none=>ZcE kvs k=none | some d=> ∃ v,ZcE kvs k=some v/\Rep K H α v d
 | [],es,k,h=>by cases h;rfl
 | (k',v) :: kvs,_,k,.cons r t=>by
  simp only[List.zipWith_cons_cons,ZeD,hd,Option.some.injEq]
  by_cases c:k'=k
  ·rw[if_pos c]
   exact ⟨v,ZbM (p:=(k',v)) c,r⟩
  ·rw[if_neg c]
   have:=Zbj hd k t
   have e:ZcE ((k',v) :: kvs) k=ZcE kvs k:=ZbN (p:=(k',v)) c
   rw[e]
   exact this
theorem ZeE {kvs:List (κ × V)} {ds:List D} (h:Z6 K H α key kvs ds):kvs.length=ds.length:=by
 obtain ⟨es,rfl,hr⟩:=h
 have:=hr.length
 rw[List.length_map] at this
 simp[this]
theorem ZbB {kvs:List (κ × V)} {ds:List D} (h:Z6 K H α key kvs ds) (e:Ext K H H' α α'):Z6 K H' α' key kvs ds:=by
 obtain ⟨es,h1,h2⟩:=h
 exact ⟨es,h1,Reps.mono e h2⟩
end
noncomputable def Zlc (K:PySem.W.Frag) (H:Hp) (α:List Addr) (o:Option D) (ov:Option V):Prop:=match o with | none=>ov=none | some d=> ∃ u,ov=some u/\Rep K H α u d
theorem ZnV {a b:Nat} (h:a + 64 < b):a + 1 < b:=by omega
noncomputable def Zdw (M:Sto) (x k:D):Option (Option D):=match x with
 | .dk n=>(match kK k,M[n]? with | some kk,some (.lst ds)=>some (ZeD kK kk ds) | _,_=>none)
 | .dt n=>(match kT k,M[n]? with | some kk,some (.lst ds)=>some (ZeD kT kk ds) | _,_=>none)
 |_=>none
section
variable {X:Cx} {ξ:XK} {H:Hp} {α:List Addr} {M:Sto}
theorem ZeF {v:V} {d:D} {k:Key} (r:Rep X.K H α v d) (e:kK d=some k):v=kV k:=by
 cases r with
 |int i=>cases e;rfl
 |str x=>cases e;rfl
 |_=>cases e
theorem Zdc: ∀ {vs:List V} {ds:List D} {ks:List Key},Reps X.K H α vs ds->kKs ds=some ks->vs=ks.map kV
 |_,_,ks,.nil,e=>by cases e;rfl
 |_,_,ks,.cons (d:=d) (ds:=ds) r t,e=>by
  unfold kKs at e
  split at e
  ·rename_i k ks' e1 e2
   cases e
   rw[List.map_cons,ZeF r e1,Zdc t e2]
  ·cases e
theorem Zg9 (h:HR X.K H α M) {v w:V} {x k:D} {o:Option D} (r:Rep X.K H α v x) (rk:Rep X.K H α w k) (e:Zdw M x k=some o):
  ∃ a ov,v= .ref a/\Zkz H a w ov/\IsD H a/\Zlc X.K H α o ov:=by
 cases r with
 | @dk p n hp=>
  simp only[Zdw] at e
  split at e
  ·rename_i kk ds e1 e2
   cases e
   obtain ⟨kvs,es,g1,g2,ed⟩: ∃ kvs es,Rd H p (.dK kvs)/\Reps X.K H α (kvs.map (·.2)) es/\ZeD kK kk ds=ZeD kK kk (List.zipWith (fun kv e=>D.tup [Zdo kv.1,e]) kvs es):=by
    rcases h.atK hp e2 with ⟨kvs,g1,es,rfl,g2⟩ | ⟨o,kvs,_,g1,rfl,es,rfl,g2⟩
    ·exact ⟨kvs,es,.inl g1,g2,rfl⟩
    ·exact ⟨kvs,es,.inr ⟨o,g1⟩,g2,rfl⟩
   rw[ed]
   have pv:=Zbj ZeC kk g2
   refine ⟨p,ZcE kvs kk,rfl,.inl ⟨kvs,kk,g1,ZeF rk e1,rfl⟩,.inl ⟨kvs,g1⟩,?_⟩
   unfold Zlc
   exact pv
  ·cases e
 | @dt p n hp=>
  simp only[Zdw] at e
  split at e
  ·rename_i kk ds e1 e2
   cases e
   obtain ⟨kvs,es,g1,g2,ed⟩: ∃ kvs es,Rd H p (.dT kvs)/\Reps X.K H α (kvs.map (·.2)) es/\ZeD kT kk ds=ZeD kT kk (List.zipWith (fun kv e=>D.tup [Zdp kv.1,e]) kvs es):=by
    rcases h.atT hp e2 with ⟨kvs,g1,es,rfl,g2⟩ | ⟨o,kvs,_,g1,rfl,es,rfl,g2⟩
    ·exact ⟨kvs,es,.inl g1,g2,rfl⟩
    ·exact ⟨kvs,es,.inr ⟨o,g1⟩,g2,rfl⟩
   rw[ed]
   have pv:=Zbj Zfv kk g2
   cases rk with
   | @tup b xs ds' hb rb=>
    refine ⟨p,ZcE kvs kk,rfl,.inr ⟨kvs,kk,b,g1,rfl,by rw[hb,Zdc rb e1],rfl⟩,.inr ⟨kvs,g1⟩,?_⟩
    unfold Zlc
    exact pv
   |_=>cases e1
  ·cases e
 |_=>cases e
end
section
variable {X:Cx} {ξ:XK} {o i e:Expr} {fo fi f:Ev} {pos pos':Pos}
noncomputable def Zha:Bo:=fun x k M=>match Zdw M x k with | some (some d)=> .ok d M | _=> .bad
theorem Zhb (hu:X.A.units + 64 < cLine) (ho:DE X ξ o fo) (hi:DE X ξ i fi) (hs:ZkZ i:=by exact fun _ _=>rfl):DE X ξ (.Subscript o i pos) (e2 Zha fo fi):=by
 obtain ⟨to,po,qo⟩:=ho
 obtain ⟨ti,pi,qi⟩:=hi
 refine ⟨_,ZgI (ZnV hu) po pi hs,fun σ ρ H α M Q s h q=> ?_⟩
 refine qo σ ρ H α M _ s h (OG.seq q fun x M1 v H1 α1 e1 h1 r1 q1=> ?_)
 refine qi σ ρ H1 α1 M1 _ (s.mono e1) h1 (OG.seq q1 fun y M2 w H2 α2 e2 h2 r2 q2=> ?_)
 unfold Zha at q2
 cases eg:Zdw M2 x y with
 |none=>rw[eg] at q2;exact q2.elim
 |some oo=>
  cases oo with
  |none=>rw[eg] at q2;exact q2.elim
  |some d=>
   rw[eg] at q2
   obtain ⟨a,ov,g1,g2,_,u,rfl,g4⟩:=Zg9 h2 (Rep.mono e2 r1) r2 eg
   exact ⟨a,u,g1,g2,q2 u H2 α2 Ext.refl h2 g4⟩
end
end DL
end
section
namespace DL
open PySem PySem.Spec PyProof.Rows L2
section
variable {X:Cx} {ξ:XK} {tg a:Expr} {fs:Av} {p pos:Pos} {ta:TA}
noncomputable def iRv (fs:Av):Ro->Sto->Out Src:=fun ρ M=>(fs ρ M).bind fun ds M1=>match ds with | [.ref n]=>(match M1[n]? with | some (.lst xs)=> .ok (.rev n xs.length) M1 | none=> .bad) | _=> .bad
end
end DL
end
section
namespace DL
open PySem PySem.Spec PyProof.Rows L2
section
variable {X:Cx} {ξ:XK} {e e1 e2:Expr} {es:List Expr} {f:Ev} {pos:Pos}
end
end DL
end
section
namespace DL
open PySem PySem.Spec PyProof.Rows L2
section
variable {X:Cx} {ξ:XK} {tg iter elt:Expr} {ifs:List Expr} {scope:Scope} {cl:List (Str × Addr)} {N:List Str} {k:Nat} {fr:List Nat} {fi:Ro->Sto->Out Src} {gt:Tg} {c:Tv} {f:Ev} {pos:Pos}
end
end DL
end
section
namespace DL
open PySem PySem.Spec PyProof.Rows L2
noncomputable def ZnW:Bo:=fun x y M=>match x,y with
 | .ref n,.int k=>match M[n]? with
  |some (.lst xs)=>if (-9223372036854775808<=k/\k < 9223372036854775808)/\xs.length * k.toNat<=100000 then .ok (.ref M.length) (M ++ [.lst (List.replicate k.toNat xs).flatten]) else .bad
  |none=> .bad
 |_,_=> .bad
section
variable {X:Cx} {ξ:XK} {a b:Expr} {fa fb:Ev} {pos:Pos}
end
end DL
end
namespace DL
open PySem PySem.Spec L2
open PySem.W
section
variable {prog:Program} {w:World} {A:Around} {E:Value->Shared->Prop} {s:Shared}
end
section
variable {prog:Program} {w:World} {A:Around} {s:Shared} {R:Result->Shared->Prop}
variable {I:Addr} {fp wr:List Addr} {G:Array GenState->Array GenState->Prop} {n:Nat} {P:Nat->Value->Prop} {St:Nat->Shared->Prop}
end
section
variable {prog:Program} {w:World} {A:Around} {E:Value->Shared->Prop} {s:Shared}
variable {I:Addr} {fp wr:List Addr} {G:Array GenState->Array GenState->Prop} {n:Nat} {P:Nat->Value->Prop} {St:Nat->Shared->Prop}
end
section
variable {X:Cx} {ξ:XK} {a:Expr} {fs:Av} {p1 p2 p3 pos:Pos} {ta:TA}
end
end DL
section
namespace DL3
open PySem PySem.Spec PyProof.Rows L2 DL
open Sem (wp)
section
variable {prog:Program} {w:World} {A:Around} {E:Value->Shared->Prop} {s:Shared}
end
section
variable {prog:Program} {w:World} {A:Around} {E:Value->Shared->Prop} {s:Shared}
end
section
variable {X:Cx} {ξ:XK} {y1 y2 y3:Expr} {elts:List Expr} {k0:Nat} {tp:Pos} {fs:Av} {p pos:Pos} {ta:TA}
end
end DL3
end
section
namespace DL4
open PySem PySem.Spec PyProof.Rows L2 DL
open Sem (wp)
section
variable {prog:Program} {w:World} {A:Around} {E:Value->Shared->Prop} {s:Shared}
end
section
variable {prog:Program} {w:World} {A:Around} {E:Value->Shared->Prop} {s:Shared}
end
section
variable {X:Cx} {ξ:XK} {y1 y2 y3 y4:Expr} {elts:List Expr} {k0:Nat} {tp:Pos} {fs:Av} {p pos:Pos} {ta:TA}
end
end DL4
end
section
namespace PySem.SeqAt
open AutoSeq1 (wpAny_loadPart')
open MeetsSeq MeetsSeq2 MeetsSeq3 SeqRoads2
end PySem.SeqAt
namespace DL
open PySem PySem.Spec PyProof.Rows L2
open PySem.SeqAt
section
variable {X:Cx} {pins:List (Addr × Obj)} {σ:L2.St} {H:Hp} {s:Shared} {α:List Addr} {M:Sto}
end
end DL
end
section
namespace PySem
open Sem (wp)
section
variable {prog:Program} {w:World} {A:Around} {R:Result->Shared->Prop} {I:Addr} {fp wr:List Addr} {P:Nat->Value->Prop} {St:Nat->Heap->Prop}
end
section
variable {prog:Program} {w:World} {A:Around} {E:Value->Shared->Prop} {s:Shared}
end
end PySem
namespace DL
open PySem PySem.Spec PyProof.Rows L2
open PySem.SeqAt
section
variable {X:Cx} {pins:List (Addr × Obj)} {σ:L2.St} {H:Hp} {s:Shared} {α:List Addr} {M:Sto}
end
end DL
end
section
namespace HT
open PySem PyProof.Rows
section
open PySem.SeqAt
open PySem.AutoSeq1 (wpAny_loadPart')
open PySem.MeetsSeq PySem.MeetsSeq2 PySem.MeetsSeq3
end
section
variable {prog:Program} {w:World} {A:Around} {E:Value->Shared->Prop} {s:Shared}
end
end HT
namespace DL
open PySem PySem.Spec PyProof.Rows L2
section
variable {X:Cx} {ξ:XK}
end
end DL
end
section
namespace DL
open PySem PySem.Spec PyProof.Rows L2
end DL
end
section
namespace DL
open PySem PySem.Spec PyProof.Rows L2
section
variable {X:Cx} {pins:List (Addr × Obj)} {σ:L2.St} {H:Hp} {s:Shared} {a b:Addr} {v:V} {r:Value} {A:Around} {E:Value->Shared->Prop}
end
section
variable {X:Cx} {ξ:XK} {tg iter kx vx:Expr} {ifs:List Expr} {scope:Scope} {cl:List (Str × Addr)} {N:List Str} {k:Nat} {fr:List Nat} {fi:Ro->Sto->Out Src} {gt:Tg} {c:Tv} {fk fv:Ev} {pos:Pos}
end
end DL
end
section
namespace DL
open PySem PySem.Spec PyProof.Rows L2
section
variable {prog:Program} {w:World} {A:Around} {E:Value->Shared->Prop} {s:Shared} {d it:Addr} {od:Obj} {es:Array DictEntry} {ep i n:Nat}
theorem Zhc:Builtin.Dict_items.ownsTuple "dict_keyiterator"=false:=by decide
theorem Zi6 (qq:DQ.Zac A s.heap) (hi:s.heap.IsKeyIter it d i es.size ep) (gd:s.heap.get? d=some od) (ed:od.data= .dict es ep) (he:es[i]?=none):wpAny (model prog w) A.in1 (Builtin.«dict_keyiterator.__next__» ⟨[.ref it],[]⟩) (fun _ _=>False) (DQ.ZcU it s) s:=by
 obtain ⟨oi,gi,ci,di⟩:=id hi
 have n1: ¬ ((Value.ref d == Value.none)=true):=Bool.false_ne_true
 have n2: ¬ ((i:Int) < 0):=by omega
 refine wpAny_bind (wpAny_pure (wpAny_bind (wpAny_bind ?_)))
 first | refine wpAny_bind (wpAny_typeNameOfWhole_keyiter hi.typeIs (wpAny_pure (wpAny_bind (wpAny_fieldsOf gi di ?_)))) | refine wpAny_bind (wpAny_typeNameOf_keyiter hi.typeIs (wpAny_pure (wpAny_bind (wpAny_fieldsOf gi di ?_))))
 simp only[Zhc,Bool.false_eq_true,if_false]
 show wpAny (model prog w) _ (if (Value.ref d == Value.none)=true then _ else _) _ _ s
 rw[if_neg n1]
 refine wpAny_bind (wpAny_pure (wpAny_bind (wpAny_dictEntries gd ed ?_)))
 rw[if_neg (by simp)]
 refine wpAny_bind (wpAny_pure (wpAny_bind (wpAny_dictEpoch gd ed ?_)))
 rw[if_neg (by simp)]
 refine wpAny_pure ?_
 simp only[n2,if_false,Int.toNat_natCast,he]
 refine wpAny_bind ?_
 first | refine wpAny_bind (wpAny_typeNameOfWhole_keyiter hi.typeIs (wpAny_pure ?_)) | refine wpAny_bind (wpAny_typeNameOf_keyiter hi.typeIs (wpAny_pure ?_))
 show wpAny (model prog w) _ (setField (.ref it) 0 .none >>= _) _ _ s
 refine wpAny_bind (wpAny_setField gi di (by simp) ?_)
 have q2:DQ.Zac A.in1 (s.heap.update it (Obj.mapFields (·.setIfInBounds 0 Value.none))):=by
  rcases qq with qq | ⟨ea,oe,vs,e1,e2,e3,e4⟩
  ·exact .inl qq
  ·refine .inr ⟨ea,oe,vs,e1,?_,e3,e4⟩
   rw[Heap.get?_update_other _ _ (fun z=> ?_)]
   ·exact e2
   ·rw[<- z,gi] at e2
    cases e2
    rw[di] at e3
    cases e3
    simp at e4
 refine DQ.Zam q2 fun h' e k ho=>⟨e,rfl,ho,h',fun b o hb z=>k b o ?_,rfl⟩
 rw[Heap.get?_update_other _ _ (Ne.symm hb)]
 exact z
theorem Zdx {Q:Option Value->Shared->Prop} (qq:DQ.Zac A s.heap) (hi:s.heap.IsKeyIter it d i es.size ep) (gd:s.heap.get? d=some od) (ed:od.data= .dict es ep) (he:es[i]?=none)
  (q: ∀ h',Heap.ExtBut it s.heap h'->Q none { s with heap:=h' }):wpAny (model prog w) A (pyNext (.ref it)) Q E s:=
 DQ.ZcV hi.typeIs F.slot_dict_keyiterator_next F.entry_dict_keyiterator_next (F.args_dict_keyiterator_next_1 _) (Zi6 qq hi gd ed he) q
end
theorem ZbC {β γ:Type} {F:β->γ->Prop}: ∀ {l:List β} {m:List γ} {i:Nat} {x:β},Paired F l m->l[i]?=some x-> ∃ y,m[i]?=some y/\F x y
 |_,_,0,_,.cons h _,e=>by
  simp only[List.getElem?_cons_zero,Option.some.injEq] at e
  subst e
  exact ⟨_,rfl,h⟩
 |_,_,i + 1,_,.cons _ t,e=>by
  obtain ⟨y,h1,h2⟩:=ZbC (i:=i) t (by simpa using e)
  exact ⟨y,by simpa using h1,h2⟩
section
variable {X:Cx} {pins:List (Addr × Obj)} {σ:L2.St} {H:Hp} {s:Shared} {d:Addr} {o:Obj} {kvs:List (List Key × V)}
end
section
variable {X:Cx} {ξ:XK} {tg a:Expr} {f:Ev} {te:TE}
end
end DL
end
section
namespace DL
open PySem PySem.Spec PyProof.Rows L2
section
variable {X:Cx} {ξ:XK} {e:Expr} {es:List Expr} {fs:Av} {p pos:Pos} {x:Str}
theorem Zfw {c:Str} (hq: ∃ f,PySem.W.nsIn X.K mainGlobals c=some (some (.ref f))) (gl: ∀ c v,PySem.W.nsIn X.K mainGlobals c=some (some v)->X.mg c=some v) (hg:Gl X c:=by rfl) (hdb:(c == ("__debug__":Str))=false:=by decide):DE X ξ (.Name c p) (eC (.fn c)):=by
 obtain ⟨f,hf⟩:=hq
 exact ⟨_,ZdN hg (gl c _ hf) (v:= .ref f) rfl hdb,fun σ ρ H α M Q s h q=>q _ H α Ext.refl h (.fn hf)⟩
noncomputable def eCV (i:Nat) (tab:List (Str × (List D->Sto->Out D))) (fs:Av):Ev:=fun ρ M=>match ρ[i]? with
 |some (some (.fn c))=>(match tab.lookup c with | some F=>(fs ρ M).bind fun ds M1=>F ds M1 | none=> .bad)
 |_=> .bad
noncomputable def VOk (X:Cx) (tab:List (Str × (List D->Sto->Out D))):Prop:= ∀ c F,tab.lookup c=some F-> ∃ k n,Room k X.A/\Cal X.prog X.w X.K X.mg X.base c k n F
theorem ZeG:VOk X []:=fun c F h=>by cases h
theorem Za9 {c:Str} {k n:Nat} {F:List D->Sto->Out D} {tab:List (Str × (List D->Sto->Out D))} (hr:Room k X.A) (C:Cal X.prog X.w X.K X.mg X.base c k n F) (t:VOk X tab):VOk X ((c,F) :: tab):=fun d G h=>by
 rw[List.lookup_cons] at h
 split at h
 ·rename_i e
  cases h
  rw[eq_of_beq e]
  exact ⟨k,n,hr,C⟩
 ·exact t d G h
theorem Zdd {i:Nat} {tab:List (Str × (List D->Sto->Out D))} (hall:VOk X tab) (gl: ∀ c v,PySem.W.nsIn X.K mainGlobals c=some (some v)->X.mg c=some v) (T:Thr X ξ) (ha:DA X ξ (e :: es) fs) (hN:X.N[i]?=some x:=by rfl) (hv:Vis X.env.scope x:=by first | exact Or.inl rfl | exact Or.inr (Or.inl rfl) | exact Or.inr (Or.inr rfl))
  (hdb:(x == ("__debug__":Str))=false:=by decide) (hcd:(x == ("__classdict__":Str))=false:=by decide) (he:starEach (e :: es) X.env=(false,eval e X.env) :: starEach es X.env:=by rfl) (hpl:(backTo pos (starEach es X.env)).any (·.1)=false:=by rfl):DE X ξ (.Call (.Name x p) (e :: es) [] pos) (eCV i tab fs):=by
 obtain ⟨t,pa,qa⟩:=ha
 refine ⟨fun σ H Q=> ∃ ρ α M,SR X.K H α σ ρ/\HR X.K H α M/\OP X.K H α ξ Q (eCV i tab fs ρ M),fun pins s σ H Q I w=> ?_,fun σ ρ H α M Q s h q=>⟨ρ,α,M,s,h,q⟩⟩
 obtain ⟨ρ,α,M,sr,hr,op⟩:=w
 unfold eCV at op
 split at op
 ·rename_i c er
  split at op
  ·rename_i F et
   obtain ⟨v,hv1,rv⟩:=sr.2 i (.fn c) er
   cases rv with
   | @fn f _ hf=>
   obtain ⟨k,n,room,f',fd,ps,G,hm,hk,_,hb⟩:=hall c F et
   rw[gl c _ hf] at hm
   cases hm
   refine wpAny_Call_Name_kw (thn (ZdM hN hv hdb hcd pins s σ H (fun v H1=>v= .ref f/\H1=H) I ⟨_,hv1,rfl,rfl⟩) fun u s1 w1=> ?_)
   obtain ⟨_,H1,I1,r1,ea,eb⟩:=w1
   rw[ea] at r1
   rw[eb] at I1
   cases r1
   refine PySem.W.callWith_K (h₀:=X.base) I1.ok.mod.kin hk (thn (pa pos pins s1 σ H (fun vs H1=>spD X.K F vs H1 Q ξ) I1 (qa σ ρ H α M _ sr hr (OG.seq op fun ds M1 vs H1 α1 e1 h1 r1 q1=>⟨ds,α1,M1,r1,h1,q1⟩))) fun us s2 w2=> ?_) he hpl
   obtain ⟨vs,H2,I2,r2,q2⟩:=w2
   exact ⟨I2.kIn,ZfW G room hb .nil T.ps I2 r2 (by rw[List.append_nil];exact q2)⟩
  ·exact op.elim
 ·exact op.elim
end
noncomputable def Zi7:List (Str × Ev)->Ro->Sto->Out (List D)
 | [],_,M=> .ok [] M
 | (k,f) :: r,ρ,M=>(f ρ M).bind fun d M1=>(Zi7 r ρ M1).bind fun ds M2=> .ok (.tup [.str k,d] :: ds) M2
noncomputable def Zi8 (kfs:List (Str × Ev)):Ev:=fun ρ M=>(Zi7 kfs ρ (M ++ [.lst []])).bind fun ds M1=>match M1[M.length]? with
 |some (.lst [])=> .ok (.dk M.length) (M1.set M.length (.lst ds))
 |_=> .bad
noncomputable def PR (names:List Str) (K:PySem.W.Frag) (H:Hp) (α:List Addr) (ps:List (V × V)) (ds:List D):Prop:= ∃ kvs:List (Key × V),ps=kvs.map (fun kv=>(kV kv.1,kv.2))/\kvs.map (·.1)=names.map Sum.inr/\Z6 K H α Zdo kvs ds
noncomputable def DPs (X:Cx) (ξ:XK) (pos:Pos) (keys:List (Option Expr)) (values:List Expr) (kfs:List (Str × Ev)):Prop:= ∃ trs,PPs X pos keys values trs/\ ∀ σ ρ H α M Q,SR X.K H α σ ρ->HR X.K H α M->OG X.K (PR (kfs.map (·.1)) X.K) H α ξ Q (Zi7 kfs ρ M)->Zc1 trs σ H Q
section
variable {X:Cx} {ξ:XK} {pos p:Pos} {v:Expr} {keys:List (Option Expr)} {values:List Expr} {k:Str} {f:Ev} {kfs:List (Str × Ev)} {j:Nat}
theorem Zhd:DPs X ξ pos [] [] []:=⟨[],ZgJ,fun σ ρ H α M Q s h q=>q [] H α Ext.refl h ⟨[],rfl,rfl,Zcl⟩⟩
theorem Zt {jj:Nat} (hv:DE X ξ v f) (hr:DPs X ξ pos keys values kfs):DPs X ξ pos (some (.Constant (.str k) jj p) :: keys) (v :: values) ((k,f) :: kfs):=by
 obtain ⟨tv,pv,qv⟩:=hv
 obtain ⟨trs,pr,qr⟩:=hr
 refine ⟨(tC (.str k),tv) :: trs,Zfb ZfS pv pr,fun σ ρ H α M Q s h q=> ?_⟩
 refine qv σ ρ H α M _ s h (OG.seq q fun d M1 v H1 α1 e1 h1 r1 w1=> ?_)
 refine qr σ ρ H1 α1 M1 _ (s.mono e1) h1 (OG.seq w1 fun ds M2 ps H2 α2 e2 h2 r2 w2=> ?_)
 obtain ⟨kvs,g1,g2,es,g3,g4⟩:=r2
 refine w2 _ H2 α2 Ext.refl h2 ⟨(.inr k,v) :: kvs,by rw[g1];rfl,by rw[List.map_cons,g2];rfl,d :: es,by rw[g3];rfl,.cons (Rep.mono e2 r1) g4⟩
theorem Zfx {kvs:List (Key × V)} {k:Key} {v:V} (h:k ∉ kvs.map (·.1)):Zd6 kvs k v=kvs ++ [(k,v)]:=by
 unfold Zd6
 rw[if_neg]
 intro z
 obtain ⟨x,hx,e⟩:=List.any_eq_true.mp z
 exact h (List.mem_map.mpr ⟨x,hx,by simpa using e⟩)
theorem Zcm: ∀ (more kvs:List (Key × V)),((kvs ++ more).map (·.1)).Nodup->Zbc kvs more=kvs ++ more
 | [],kvs,_=>(List.append_nil _).symm
 |m :: more,kvs,h=>by
  have e:kvs ++ m :: more=(kvs ++ [m]) ++ more:=by simp
  have hn:m.1 ∉ kvs.map (·.1):=by
   rw[List.map_append,List.nodup_append] at h
   exact fun z=>h.2.2 _ z _ (by simp) rfl
  show Zbc (Zd6 kvs m.1 m.2) more=_
  rw[Zfx hn,Zcm more _ (by rw[<- e];exact h),<- e]
theorem Zhe (h:DPs X ξ pos keys values kfs) (nd:(kfs.map (·.1)).Nodup) (l15:kfs.length<=15) (hall:keys.all (·.isSome)=true:=by rfl) (hl:keys.length=values.length:=by rfl) (h0:keys≠[]:=by simp) (h15:keys.length<=15:=by decide):DE X ξ (.Dict keys values pos) (Zi8 kfs):=by
 obtain ⟨trs,pr,qr⟩:=h
 refine ⟨_,ZgK pr hall hl h0 h15,fun σ ρ H α M Q s h q p hp=> ?_⟩
 have kn:Kn (upd H p (.dK [])) p=some 1:=by unfold Kn;rw[Zl]
 have ex:Ext X.K H (upd H p (.dK [])) α (α ++ [p]):=Ext.new hp
 have h1:HR X.K (upd H p (.dK [])) (α ++ [p]) (M ++ [.lst []]):=h.newO hp (.inr (.inl ⟨[],Zl,Zcl⟩))
 have rk:RefK (upd H p (.dK [])) (α ++ [p]) 1 M.length p:=⟨h.last p,kn⟩
 refine qr σ ρ _ _ _ _ (s.mono ex) h1 (OG.seq (OG.ext q ex) fun ds M2 ps H2 α2 e2 h2 r2 w2=> ?_)
 obtain ⟨kvs,g1,g2,g3⟩:=r2
 have rk2:=e2.get rk
 split at w2
 ·rename_i em
  rcases h2.atK rk2 em with ⟨kv0,k1,k2⟩ | ⟨_,_,_,_,k2,_⟩
  ·have:kv0=[]:=List.eq_nil_of_length_eq_zero (by rw[ZeE k2];rfl)
   subst this
   refine ⟨k1,kvs,g1,?_,?_⟩
   ·have:=congrArg List.length g2
    rw[List.length_map,List.length_map,List.length_map] at this
    omega
   ·have hn:(kvs.map (·.1)).Nodup:=by
     rw[g2]
     exact List.Pairwise.map _ (fun a b hab z=>hab (Sum.inr.inj z)) nd
    rw[Zcm kvs [] (by simpa using hn),List.nil_append]
    have kn2:Kn (upd H2 p (.dK kvs)) p=some 1:=by unfold Kn;rw[Zl]
    have exw:Ext X.K H2 (upd H2 p (.dK kvs)) α2 α2:=Ext.wrK rk2.kn (fun _ _ z=>by rw[k1] at z;cases z) kn2
    exact w2 _ _ α2 exw (h2.wrO rk2.at' exw (.inr (.inl ⟨kvs,Zl,ZbB g3 exw⟩))) (.dk (exw.get rk2))
  ·cases k2
 ·exact w2.elim
end
noncomputable def Itk (d:Addr) (o:Obj) (kvs:List (Key × V)):It:=
 ⟨fun i H=>H d=some (.frz o (.dK kvs))/\i < kvs.length,fun i H x H'=>H'=H/\ ∃ k v,kvs[i]?=some (k,v)/\x=kV k,fun i H=>H d=some (.frz o (.dK kvs))/\kvs.length<=i⟩
theorem Zhf {k:Key} {u:Value} (h:Zcw k u=true):ZC (kV k) u:=by
 rcases Zr h with ⟨i,t,rfl,rfl⟩ | ⟨x,t,rfl,rfl⟩
 ·exact ⟨t,rfl⟩
 ·exact ⟨t,rfl⟩
theorem ZcL {X:Cx} {pins:List (Addr × Obj)} {σ:L2.St} {H:Hp} {s:Shared} {d:Addr} {o:Obj} {kvs:List (Key × V)} (I:Inv X pins σ H s) (e:H d=some (.frz o (.dK kvs))):(d == sysModules)=false/\ ∃ (vs:List (Key × Value)) (es:Array DictEntry) (ep:Nat),s.heap.DictAt (ZI X.prog X.w) d vs ep/\KV kvs vs/\o.data= .dict es ep:=by
 obtain ⟨g,_,nd,vs,rel,o',es,ep,g',r⟩:=(show Z2 X.prog X.w H s.heap d (.frz o (.dK kvs)) from I.hok d _ e)
 rw[g] at g'
 cases g'
 exact ⟨nd,vs,es,ep,⟨o,es,g,r⟩,rel,r.2.1⟩
theorem Zdy {P:Program} {w:World} {K:PySem.W.Frag} {B:Around} {tg:Expr} (d it:Addr) (o:Obj) (kvs:List (Key × V)) {es:Array DictEntry} {ep:Nat} (ho:o.data= .dict es ep):Turn P w K B tg (Itk d o kvs) [it] it (fun i h=>h.IsKeyIter it d i kvs.length ep) where
 mem:=by simp
 obj:=fun i h st b hb=>by
  have e:b=it:=by simpa using hb
  subst e
  obtain ⟨o,e,c,d⟩:=st
  exact ⟨o,e,fun v z=>by rw[d] at z;cases z⟩
 keep:=fun i h h' st k=>st.at fun o e=>k it (by simp) o e
 item:=by
  intro X hP hw hK hA i pins s σ H E I hf st hg
  subst hP hw hK hA
  obtain ⟨hd,hi⟩:=hg
  obtain ⟨_,vs,es',ep',da,rel,hep⟩:=ZcL I hd
  rw[ho] at hep
  cases hep
  obtain ⟨y,h1,h2,h3⟩:=ZbC rel (List.getElem?_eq_getElem hi)
  obtain ⟨f0,f1,f2,f3,f4,f5⟩:=hf it (by simp)
  have sz:kvs.length=vs.length:=Paired.length rel
  rw[sz] at st
  refine wpAny_pyNext_dict_item st da (k:=y.1) (v:=y.2) h1 fun key h' hk st' sb=> ?_
  rw[<- sz] at st'
  have I1:Inv X pins σ H { s with heap:=h' }:=I.turned (t':=s.toks) (fun b o hb e=>(sb.2 b hb).trans e) f0 f1 f3 f4 f5
  obtain ⟨o2,e,c,dd⟩:=id st'
  refine ⟨key,rfl,Ze0 (s:={ s with heap:=h' }) e c dd (by decide) ⟨kV kvs[i].1,H,I1,?_,⟨rfl,_,_,List.getElem?_eq_getElem hi,rfl⟩,st',fun b hb=>(hf b hb).1⟩⟩
  rw[h2]
  exact Zhf hk
 done:=by
  intro X hP hw hK hA i pins s σ H E I hf st hg
  subst hP hw hK hA
  obtain ⟨hd,hi⟩:=hg
  obtain ⟨_,vs,es',ep',da,rel,hep⟩:=ZcL I hd
  rw[ho] at hep
  cases hep
  obtain ⟨f0,f1,f2,f3,f4,f5⟩:=hf it (by simp)
  have sz:kvs.length=vs.length:=Paired.length rel
  rw[sz] at st
  obtain ⟨o',es2,g,ex,dd,ks,prs',_⟩:=da
  have e2:es2.size=vs.length:=by rw[<- prs'.length];simp
  rw[<- e2] at st
  refine Zdx I.qh st g dd (Array.getElem?_eq_none (by omega)) fun h' ext=>⟨rfl,?_⟩
  exact I.turned (t':=s.toks) (it:=it) (fun b o hb z=>ext b o hb z) f0 f1 f3 f4 f5
 self:=fun A i s Q E st q=>wpAny_pyIter_keyiter st q
section
variable {X:Cx} {ξ:XK} {tg a:Expr} {f:Ev} {te:TE}
noncomputable def iKc (te:TE):TI:=fun σ H R=>te σ H fun x H1=> ∃ d kvs,x= .ref d/\((H1 d=some (.dK kvs)/\ ∀ o,R (Itk d o kvs) (upd H1 d (.frz o (.dK kvs))))\/ ∃ o,H1 d=some (.frz o (.dK kvs))/\R (Itk d o kvs) H1)
theorem Zfy {pins:List (Addr × Obj)} {σ:L2.St} {H:Hp} {s:Shared} {d:Addr} {kvs:List (Key × V)} (I:Inv X pins σ H s) (e:H d=some (.dK kvs)): ∃ o,Inv X pins σ (upd H d (.frz o (.dK kvs))) s:=by
 obtain ⟨z,nd,vs,rel,o,es,ep,g,r⟩:=(show Z2 X.prog X.w H s.heap d (.dK kvs) from I.hok d _ e)
 exact ⟨o,I.write (h':=s.heap) (t':=s.toks) (e:=d) (by rw[e];trivial) (.inl rfl) (fun b u _ h=>h) ⟨o,g⟩ ⟨g,z,nd,vs,rel,o,es,ep,g,r⟩⟩
theorem Zfz (hl:PE X a te):PI X tg a (iKc te):=by
 intro pins s σ H R I h
 refine thn (hl pins s σ H _ I h) fun v s1 w1=> ?_
 obtain ⟨x,H1,I1,r1,d,kvs,e,q⟩:=w1
 subst e
 cases r1
 have main: ∀ (H2:Hp) (o:Obj),Inv X pins σ H2 s1->H2 d=some (.frz o (.dK kvs))->R (Itk d o kvs) H2->wpAny (model X.prog X.w) X.A (pyIter (.ref d)) (PIE X pins σ tg R) X.xe s1:=by
  intro H2 o I2 e2 r2
  obtain ⟨nd,vs,es,ep,da,rel,hep⟩:=ZcL I2 e2
  have sz:kvs.length=vs.length:=Paired.length rel
  refine wpAny_pyIter_dict nd da ?_
  have T:=Zdy (P:=X.prog) (w:=X.w) (K:=X.K) (B:=X.A) (tg:=tg) d s1.heap.objs.size o kvs hep
  refine ⟨s1.heap.objs.size,[s1.heap.objs.size],_,_,H2,rfl,I2.kept (t':=s1.toks) fun b o e=>Heap.get?_push_of_some _ e,T,⟨_,Heap.get?_push_size _ rfl,rfl,by rw[sz];rfl⟩,fun b hb=> ?_,r2⟩
  have e:b=s1.heap.objs.size:=by simpa using hb
  subst e
  exact I2.fpOk (Nat.le_refl _) (I2.hok.fresh (Nat.le_refl _))
 rcases q with ⟨e1,q⟩ | ⟨o,e1,q⟩
 ·obtain ⟨o,I2⟩:=Zfy I1 e1
  exact main _ o I2 Zl (q o)
 ·exact main H1 o I1 e1 q
noncomputable def Zi9 (f:Ev):Ro->Sto->Out Src:=fun ρ M=>(f ρ M).bind fun d M1=>match d with
 | .dk n=>(match M1[n]? with | some (.lst r)=>if nfz r=true then .ok (.dct n) (M1.set n (.lst (.non :: r))) else .ok (.dct n) M1 | none=> .bad)
 |_=> .bad
theorem ZbD {K:PySem.W.Frag} {H:Hp} {α:List Addr} {d:Addr} {o:Obj} {kvs:List (Key × V)} {n:Nat} (hp:α[n]?=some d) (hd:H d=some (.frz o (.dK kvs))):ZiU K H α (Itk d o kvs) (.dct n):=by
 intro i H' α' M' ex hr
 have hd':=ex.fz _ _ _ hd
 have hp':=ex.get0 hp
 have hn:n < M'.length:=by rw[<- hr.len];exact (List.getElem?_eq_some_iff.mp hp').1
 have em:M'[n]?=some M'[n]:=List.getElem?_eq_getElem hn
 generalize M'[n]=so at em
 cases so with
 |lst ds=>
  rcases hr.ob n d _ hp' em with ⟨_,h1,_⟩ | ⟨_,h1,_⟩ | ⟨_,h1,_⟩ | ⟨o2,kvs2,r,h1,rfl,es,rfl,h3⟩ | ⟨_,_,_,h1,_⟩
  ·rw[hd'] at h1;cases h1
  ·rw[hd'] at h1;cases h1
  ·rw[hd'] at h1;cases h1
  ·rw[hd'] at h1
   cases h1
   have le:es.length=kvs.length:=by have:=h3.length;rw[List.length_map] at this;exact this.symm
   by_cases hi:i < kvs.length
   ·have e1:(List.zipWith (fun kv e=>D.tup [Zdo kv.1,e]) kvs es)[i]?=some (.tup [Zdo kvs[i].1,es[i]'(by omega)]):=by
     rw[List.getElem?_zipWith,List.getElem?_eq_getElem hi,List.getElem?_eq_getElem (by omega)]
    have e2:nxt (.dct n) i M'=some (some (Zdo kvs[i].1)):=by simp only[nxt,em,e1]
    rw[e2]
    refine ⟨⟨hd',hi⟩,fun x H'' y=> ?_⟩
    obtain ⟨rfl,k,v,y1,rfl⟩:=y
    rw[List.getElem?_eq_getElem hi,Option.some.injEq] at y1
    rw[y1]
    exact ⟨Ext.refl,hr,by cases k<;>constructor⟩
   ·have e1:(List.zipWith (fun kv e=>D.tup [Zdo kv.1,e]) kvs es)[i]?=none:=List.getElem?_eq_none (by rw[List.length_zipWith];omega)
    have e2:nxt (.dct n) i M'=some none:=by simp only[nxt,em,e1]
    rw[e2]
    exact ⟨hd',by omega⟩
  ·rw[hd'] at h1;cases h1
theorem ZfA (ha:DE X ξ a f):DI X ξ tg a (Zi9 f):=by
 obtain ⟨ta,pa,qa⟩:=ha
 refine ⟨_,Zfz pa,fun σ ρ H α M R s hh q=>qa σ ρ H α M _ s hh (OG.seq q fun d M1 v H1 α1 e1 h1 r1 w1=> ?_)⟩
 cases r1 with
 | @dk p n hp=>
  cases em:M1[n]? with
  |none=>simp only[em] at w1;exact w1.elim
  |some so=>
   cases so with
   |lst r=>
    simp only[em] at w1
    rcases h1.atK hp em with ⟨kvs,g1,g2⟩ | ⟨o,kvs,r',g1,rfl,g2⟩
    ·have nf:nfz r=true:=by
      obtain ⟨es,rfl,_⟩:=g2
      cases kvs with
      |nil=>rfl
      |cons x t=>cases es<;>rfl
     rw[if_pos nf] at w1
     refine ⟨p,kvs,rfl,.inl ⟨g1,fun o=> ?_⟩⟩
     have kn:Kn (upd H1 p (.frz o (.dK kvs))) p=some 1:=by unfold Kn;rw[Zl]
     have ex:Ext X.K H1 (upd H1 p (.frz o (.dK kvs))) α1 α1:=Ext.wrK hp.kn (fun _ _ z=>by rw[g1] at z;cases z) kn
     exact w1 _ _ α1 ex (h1.wrO hp.at' ex (.inr (.inr (.inr (.inl ⟨o,kvs,r,Zl,rfl,ZbB g2 ex⟩))))) (ZbD hp.at' Zl)
    ·rw[if_neg (fun z=>nomatch z)] at w1
     exact ⟨p,kvs,rfl,.inr ⟨o,g1,w1 _ H1 α1 Ext.refl h1 (ZbD hp.at' g1)⟩⟩
 |_=>exact w1.elim
end
end DL
end
namespace DL
open PySem PySem.Spec L2
section
variable {X:Cx} {ξ:XK} {a b c:Expr} {fa fb fc:Ev} {pos:Pos}
end
end DL
section
namespace DL
open PySem PySem.Spec PyProof.Rows L2 PySem.W
section
variable {K:PySem.W.Frag} {H:Hp} {α:List Addr}
end
section
variable {X:Cx} {ξ:XK} {pos:Pos}
variable {o e:Expr} {fo fa:Ev} {apos cpos:Pos}
end
end DL
end
section
namespace PySem.SeqAt
open MeetsSeq MeetsSeq2 MeetsSeq3 SeqRoads2
end PySem.SeqAt
namespace DL
open PySem PySem.Spec PyProof.Rows L2 PySem.W
section
variable {X:Cx} {ξ:XK} {o e:Expr} {fo fa:Ev} {apos cpos:Pos}
end
end DL
end
section
namespace ST
open PySem PyProof.Rows
noncomputable abbrev lt (a b:List Int):Bool:=HT.Zbr a b
noncomputable def le (a b:List Int):Prop:=lt b a=false
theorem Zgc: ∀ a:List Int,lt a a=false
 | []=>rfl
 |x :: r=>by
  show HT.Zbr (x :: r) (x :: r)=false
  rw[HT.ZaM,if_pos rfl]
  exact Zgc r
theorem Zja: ∀ {a b c:List Int},lt a b=true->lt b c=true->lt a c=true
 | [],[],_,h,_=>by cases h
 | [],_ :: _,[],_,h=>by cases h
 | [],_ :: _,_ :: _,_,_=>rfl
 |_ :: _,[],_,h,_=>by cases h
 |_ :: _,_ :: _,[],_,h=>by cases h
 |x :: a,y :: b,z :: c,h,g=>by
  show HT.Zbr (x :: a) (z :: c)=true
  have h:HT.Zbr (x :: a) (y :: b)=true:=h
  have g:HT.Zbr (y :: b) (z :: c)=true:=g
  rw[HT.ZaM] at h g ⊢
  by_cases e1:x=y
  ·subst e1
   rw[if_pos rfl] at h
   by_cases e2:x=z
   ·rw[if_pos e2] at g ⊢;exact Zja h g
   ·rw[if_neg e2] at g ⊢;exact g
  ·rw[if_neg e1] at h
   have h:=of_decide_eq_true h
   by_cases e2:y=z
   ·subst e2;rw[if_neg e1];exact decide_eq_true h
   ·rw[if_neg e2] at g
    have g:=of_decide_eq_true g
    rw[if_neg (by omega)]
    exact decide_eq_true (by omega)
theorem Zgd: ∀ {a b:List Int},lt a b=false->lt b a=false->a=b
 | [],[],_,_=>rfl
 | [],_ :: _,h,_=>by cases h
 |_ :: _,[],_,h=>by cases h
 |x :: a,y :: b,h,g=>by
  have h:HT.Zbr (x :: a) (y :: b)=false:=h
  have g:HT.Zbr (y :: b) (x :: a)=false:=g
  rw[HT.ZaM] at h g
  by_cases e:x=y
  ·subst e
   rw[if_pos rfl] at h g
   rw[Zgd h g]
  ·rw[if_neg e] at h
   rw[if_neg (Ne.symm e)] at g
   have:=of_decide_eq_false h
   have:=of_decide_eq_false g
   omega
theorem Zjb (a:List Int):le a a:=Zgc a
theorem Zjc {a b c:List Int} (h:le a b) (g:le b c):le a c:=by
 unfold le at *
 cases e:lt c a with
 |false=>rfl
 |true=>
  cases e2:lt b a with
  |true=>rw[e2] at h;cases h
  |false=>
   cases e3:lt a b with
   |true=>rw[Zja e e3] at g;cases g
   |false=>
    have:=Zgd e3 e2
    subst this
    rw[e] at g;cases g
variable (kf:Keyed->List Int)
noncomputable def ky (xs:Array Keyed) (i:Nat):List Int:=match xs[i]? with | some p=>kf p | none=>[]
noncomputable def Up (xs:Array Keyed) (n:Nat):Prop:= ∀ i j,i<=j->j < n->le (ky kf xs i) (ky kf xs j)
noncomputable def Dn (xs:Array Keyed) (n:Nat):Prop:= ∀ i j,i<=j->j < n->le (ky kf xs j) (ky kf xs i)
variable {kf}
section
variable {prog:Program} {w:World} {A:Around} {E:Value->Shared->Prop} {s:Shared} {B:SortSt->Prop} {N:Nat}
theorem Up.more {xs:Array Keyed} {n:Nat} (h:Up kf xs n) (h1:1<=n) (hl:le (ky kf xs (n - 1)) (ky kf xs n)):Up kf xs (n + 1):=by
 intro i j ij jn
 by_cases c:j < n
 ·exact h i j ij c
 ·have:j=n:=by omega
  subst this
  by_cases c2:i=j
  ·subst c2;exact Zjb _
  ·exact Zjc (h i (j - 1) (by omega) (by omega)) hl
theorem Dn.more {xs:Array Keyed} {n:Nat} (h:Dn kf xs n) (h1:1<=n) (hl:le (ky kf xs n) (ky kf xs (n - 1))):Dn kf xs (n + 1):=by
 intro i j ij jn
 by_cases c:j < n
 ·exact h i j ij c
 ·have:j=n:=by omega
  subst this
  by_cases c2:i=j
  ·subst c2;exact Zjb _
  ·exact Zjc hl (h i (j - 1) (by omega) (by omega))
end
end ST
end
section
namespace ST
end ST
namespace DL
open PySem PySem.Spec PyProof.Rows L2 PySem.W
section
variable {X:Cx} {ξ:XK}
end
end DL
end
section
namespace DL
open PySem PySem.Spec PyProof.Rows L2
noncomputable def Bag (n:Nat) (M:Sto):Prop:= ∃ a b:Int,0<=a/\M[n]?=some (.lst [.int a,.int b])
structure Gr (n:Nat) (M M':Sto):Prop where
 len:M.length<=M'.length
 bag:Bag n M'
 keep: ∀ k,k≠n->k < M.length->M'[k]?=M[k]?
theorem ZeH {i j:Int} (h1: -(2 ^ 64) < j) (h2:j < 2 ^ 64):ZE i j:= .inr (.inl (intBits_le_64 h1 h2))
theorem ZeI {i j:Int} (h1: -(2 ^ 64) < i) (h2:i < 2 ^ 64):ZE i j:= .inl (intBits_le_64 h1 h2)
theorem at0 {x:D} {r:List D}:atI (x :: r) 0=some x:=by
 show (ixN (r.length + 1) 0).bind _=_
 unfold ixN
 rw[if_pos (by decide),if_pos (by omega)]
 rfl
theorem at1 {x y:D} {r:List D}:atI (x :: y :: r) 1=some y:=by
 show (ixN (r.length + 2) 1).bind _=_
 unfold ixN
 rw[if_pos (by decide),if_pos (by omega)]
 rfl
theorem ix0 {n:Nat}:ixN (n + 1) 0=some 0:=by
 unfold ixN
 rw[if_pos (by decide),if_pos (by omega)]
 rfl
theorem ix1 {n:Nat}:ixN (n + 2) 1=some 1:=by
 unfold ixN
 rw[if_pos (by decide),if_pos (by omega)]
 rfl
theorem Bag.lt {n:Nat} {M:Sto} (h:Bag n M):n < M.length:=let ⟨_,_,_,e⟩:=h;(List.getElem?_eq_some_iff.mp e).1
theorem Bag.app {n:Nat} {M:Sto} (h:Bag n M) (L:Sto):Bag n (M ++ L):=by
 have hl:=h.lt
 obtain ⟨a,b,h1,h2⟩:=h
 exact ⟨a,b,h1,by rw[List.getElem?_append_left hl];exact h2⟩
theorem Gr.trans {n:Nat} {M M1 M2:Sto} (a:Gr n M M1) (b:Gr n M1 M2):Gr n M M2:=
 ⟨Nat.le_trans a.len b.len,b.bag,fun k h1 h2=>(b.keep k h1 (Nat.lt_of_lt_of_le h2 a.len)).trans (a.keep k h1 h2)⟩
theorem Gr.app {n:Nat} {M:Sto} (h:Bag n M) (L:Sto):Gr n M (M ++ L):=⟨by simp,h.app L,fun k _ hk=>by rw[List.getElem?_append_left hk]⟩
theorem Gr.new {n:Nat} {M M1:Sto} {o:SO} {L:Sto} (hb:Bag n M) (h:Gr n (M ++ o :: L) M1):M1[M.length]?=some o:=by
 rw[h.keep _ (Nat.ne_of_gt hb.lt) (by simp)]
 simp
theorem ZfB {ns:List Int} {k:Nat} (h:k < ns.length):atI (ns.map D.int) (k:Int)=some (.int ns[k]):=ZgA (by rw[List.getElem?_map,List.getElem?_eq_getElem h];rfl)
theorem Zde {ρ:Ro} {i:Nat} {x:Option D} (h:ρ[i]?=some x):ρ.set i x=ρ:=by
 apply List.ext_getElem?
 intro k
 by_cases hk:k=i
 ·subst hk
  rw[List.getElem?_set_self (List.getElem?_eq_some_iff.mp h).1,h]
 ·rw[List.getElem?_set_ne (Ne.symm hk)]
noncomputable def cEu (i j:Nat):Sv:=ZcI i j (Zc (Zg j) (Zc (e2 dMod (Zg i) (Zg j)) aNil))
theorem Zjd {c:Tv} {i j:Nat} {M:Sto} (hij:i≠j) (hc: ∀ (ρ:Ro) (b:Nat),ρ[j]?=some (some (.int b))->c ρ M= .ok (decide (b≠0)) M): ∀ (b a:Nat) (ρ:Ro),ρ[i]?=some (some (.int a))->ρ[j]?=some (some (.int b))->
  sWh c (cEu i j) ρ M= .nx ((ρ.set i (some (.int (Nat.gcd a b:Nat)))).set j (some (.int 0))) M:=by
 intro b
 induction b using Nat.strongRecOn with
 |ind b ih=>
  intro a ρ hi hj
  by_cases h0:b=0
  ·subst h0
   rw[Zce (M1:=M) (by rw[hc ρ 0 hj];rfl),Nat.gcd_zero_right,Zde hi,Zde (x:=some (.int 0)) hj]
  ·have hl:i < ρ.length:=(List.getElem?_eq_some_iff.mp hi).1
   have hl2:j < ρ.length:=(List.getElem?_eq_some_iff.mp hj).1
   have ht:c ρ M= .ok true M:=by rw[hc ρ b hj,decide_eq_true h0]
   have hb:cEu i j ρ M= .nx ((ρ.set i (some (.int b))).set j (some (.int (a % b:Nat)))) M:=by
    have hb0: ¬ (b:Int)=0:=by omega
    have hm:(a:Int).fmod (b:Int)=((a % b:Nat):Int):=by rw[Int.fmod_eq_emod_of_nonneg _ (by omega)];rfl
    simp[cEu,ZcI,Zc,aNil,Zg,e2,dMod,Out.bind,Zaq,hi,hj,hb0,hm,h0]
   have g1:((ρ.set i (some (.int b))).set j (some (.int (a % b:Nat))))[i]?=some (some (.int b)):=by
    rw[List.getElem?_set_ne (Ne.symm hij),List.getElem?_set_self hl]
   have g2:((ρ.set i (some (.int b))).set j (some (.int (a % b:Nat))))[j]?=some (some (.int (a % b:Nat))):=by
    rw[List.getElem?_set_self (by simpa using hl2)]
   have q:=ih (a % b) (Nat.mod_lt _ (by omega)) b _ g1 g2
   rw[Zc6 ht hb (by rw[q];intro z;cases z),q]
   have eg:Nat.gcd b (a % b)=Nat.gcd a b:=by rw[Nat.gcd_comm b,<- Nat.gcd_rec,Nat.gcd_comm]
   rw[eg,List.set_comm _ _ (Ne.symm hij),List.set_set,List.set_set]
theorem gt0 {j:Nat} {M:Sto} (ρ:Ro) (b:Nat) (h:ρ[j]?=some (some (.int b))):tv (e2 dGt (Zg j) (eC (.int 0))) ρ M= .ok (decide (b≠0)) M:=by
 simp[tv,e2,Zg,eC,h,Out.bind,dGt]
 by_cases c:b=0
 ·subst c;rfl
 ·have:0 < b:=by omega
  simp[c,this]
theorem Zhg (a:Int):(if a < 0 then -a else a)=(a.natAbs:Int):=by split<;>omega
end DL
end
section
end
section
namespace HD
open PySem PySem.W PyProof.Rows
noncomputable def ZkD (thr:Thread->Bool) (stp:SharedT->Thread->Option (SharedT × Thread)) (n:Nat):SharedT->Thread->Option SharedT:=
 Nat.rec (motive:=fun _=>SharedT->Thread->Option SharedT) (fun _ _=>none) (fun _ ih s t=>Bool.rec (motive:=fun _=>Option SharedT) (Option.rec (motive:=fun _=>Option SharedT) none (fun r=>ih r.1 r.2) (stp s t)) (some s) (thr t)) n
noncomputable def ZfC (ok:Thread->Bool) (stp:SharedT->Thread->Option (SharedT × Thread)) (s:SharedT) (t:Thread):Option (SharedT × Thread):=Bool.rec (motive:=fun _=>Option (SharedT × Thread)) none (stp s t) (ok t)
section
variable {tb:String->Option Builtin} {p:Program} {w:World} {n₀:Nat} {ann:Option Value}
theorem Zge: ∀ {n:Nat} {s s':SharedT} {t:Thread},ZkD through (ZfC (stepOk n₀ ann) (stepT (denote tb) p w)) n s t=some s'->topRun tb p w n₀ ann n s.abs t=some s'.abs
 |0,s,s',t,h=>by cases h
 |n + 1,s,s',t,h=>by
  unfold topRun
  change Bool.rec (motive:=fun _=>Option SharedT) (Option.rec (motive:=fun _=>Option SharedT) none (fun r=>ZkD through (ZfC (stepOk n₀ ann) (stepT (denote tb) p w)) n r.1 r.2) (ZfC (stepOk n₀ ann) (stepT (denote tb) p w) s t)) (some s) (through t)=some s' at h
  cases ht:through t with
  |true=>
   rw[ht] at h
   have h':some s=some s':=h
   cases h'
   rfl
  |false=>
   rw[ht] at h
   cases hk:stepOk n₀ ann t with
   |false=>
    have e:ZfC (stepOk n₀ ann) (stepT (denote tb) p w) s t=none:=by unfold ZfC;rw[hk]
    rw[e] at h
    cases h
   |true=>
    have e:ZfC (stepOk n₀ ann) (stepT (denote tb) p w) s t=stepT (denote tb) p w s t:=by unfold ZfC;rw[hk]
    rw[e] at h
    cases hs:stepT (denote tb) p w s t with
    |none=>rw[hs] at h;cases h
    |some r=>
     obtain ⟨s2,t2⟩:=r
     rw[hs] at h
     have:=stepT_spec hs
     rw[this]
     exact Zge (n:=n) h
end
noncomputable def T0 (w:World) (os:OsState):SharedT:=
 ⟨[boot_o_0,boot_o_1,boot_o_2,boot_o_3,boot_o_4,boot_o_5,boot_o_6,boot_o_7,boot_o_8,boot_o_9,boot_o_10].foldl (fun (r:Nat × BT) o=>(r.1 + 1,r.2.ins r.1 (o w.params))) (0,.nil) |>.2,11,(boot_heap w.params).life,#[],boot_drawn,boot_toks,os⟩
theorem Zje (w:World) (os:OsState):(T0 w os).abs=⟨boot_heap w.params,#[],boot_drawn,boot_toks,os⟩:=by kernel_rfl
theorem Zhh:Str.ofString "__annotations__"=⟨#[95,95,97,110,110,111,116,97,116,105,111,110,115,95,95]⟩:=by decide +kernel
theorem ZeJ {p q:Program} {loose:List Str} {Xt:Shared->Bool} {α:Type} {Yf:Shared->α} {Ya:World->α} {N M:Nat} (e:opening p=plainProg p.main.scope.names) (hN:Nat.ble 600 N=true) (f: ∀ s,fenceModules? p s=some s) (le:Nat.ble M N=true)
  (Zld: ∀ (w:World) (os:OsState),(ZkD through (ZfC (stepOk 11 (some (.ref 6))) (stepT (denote treeTable) p w)) M (T0 w os) (topStub p)).map (fun s=>((staticsOk (importedModules p.main.body) (boot_heap w.params) s.abs.heap && namesBound p s.abs.heap && gensDone s.abs && laidKept (boot_heap w.params) s.abs.heap),
    openSeen q loose (importedModules p.main.body) Xt true s.abs,Yf s.abs))=some (true,openGood q loose,Ya w)):LeftO p q loose Xt Yf Ya N:=fun w=>by
 obtain ⟨⟨h,gs,d,k,os⟩,e1,e2⟩:=Option.map_eq_some_iff.mp (boot_open e hN f w)
 obtain ⟨rfl,rfl,rfl,rfl⟩:h=boot_heap w.params/\gs=Array.mk []/\d=boot_drawn/\k=boot_toks:=by simpa using e2
 obtain ⟨s',r1,r2⟩:=Option.map_eq_some_iff.mp (Zld w os)
 obtain ⟨l1,l2,l3⟩:_/\_/\_:=by simpa only[Prod.mk.injEq] using r2
 have r:=Zge r1
 rw[Zje] at r
 have r:=topRun_mono (N - M) _ _ _ _ r
 rw[show M + (N - M)=N by have:=Nat.le_of_ble_eq_true le;omega] at r
 have z1:((boot_heap w.params).isNs mainGlobals && (Array.mk []:Array GenState).size == 0)=true:=by kernel_rfl
 have z2:(boot_heap w.params).objs.size=11:=rfl
 have z3:(boot_heap w.params).nsMap mainGlobals "__annotations__"=some (.ref 6):=by
  rw[Zhh]
  kernel_rfl
 have t:topFrom treeTable p w N ⟨boot_heap w.params,Array.mk [],boot_drawn,boot_toks,os⟩=some s'.abs:=by
  unfold topFrom
  dsimp only
  rw[z1,z2,z3,r]
  show (match staticsOk (importedModules p.main.body) (boot_heap w.params) s'.abs.heap && namesBound p s'.abs.heap && gensDone s'.abs && laidKept (boot_heap w.params) s'.abs.heap with | true=>_ | false=>_)=_
  rw[l1]
 unfold openEnds
 rw[e1]
 show (topFrom treeTable p w N _).map _=_
 rw[t]
 exact congrArg some (Prod.ext l2 l3)
end HD
namespace HD
open PySem PySem.W
theorem Zle: @stepOk= @PySem.W.Fast.tw6613529449190102663:=PySem.W.Fast.te6613529449190102663
theorem Zhi: @stepT= @PySem.W.Fast.tw10156331382660048174:=PySem.W.Fast.te10156331382660048174
theorem Zjf: @denote= @PySem.W.Fast.tw11892475500146522536:=PySem.W.Fast.te11892475500146522536
theorem Zjg: @treeTable= @PySem.W.Fast.tw14364793385576792824:=PySem.W.Fast.te14364793385576792824
theorem Zhj: @openSeen= @PySem.W.Fast.tw4187177175401517315:=PySem.W.Fast.te4187177175401517315
theorem Zjh: @importedModules= @PySem.W.Fast.tw5923862056798008813:=PySem.W.Fast.te5923862056798008813
end HD
end
section
namespace DL
open PySem PySem.Spec PyProof.Rows L2
noncomputable def wO {β:Type} (o:Out β) (Q:β->Sto->Prop) (E:Str->Sto->Prop):Prop:=match o with
 | .ok a M=>Q a M
 | .exc c M=>E c M
 | .bad=>False
noncomputable def wS (f:Fl) (N:Ro->Sto->Prop) (R:D->Sto->Prop) (B C:Ro->Sto->Prop) (E:Str->Sto->Prop):Prop:=match f with
 | .nx ρ M=>N ρ M
 | .ret d M=>R d M
 | .brk ρ M=>B ρ M
 | .cnt ρ M=>C ρ M
 | .exc c M=>E c M
 | .bad=>False
noncomputable def Br (k:Bool) (A B:Prop):Prop:=(k=true->A)/\(k=false->B)
noncomputable def wG {β:Type} (o:Option β) (N:β->Prop):Prop:=match o with | some ρ=>N ρ | none=>False
noncomputable def wV (o:Option (Option D)) (Q:D->Prop):Prop:=match o with | some (some d)=>Q d | _=>False
noncomputable def wI (x:D) (Q:Int->Prop):Prop:=match x with | .int i=>Q i | _=>False
noncomputable def wB (x:D) (Q:Bool->Prop):Prop:=match x with | .bl i=>Q i | _=>False
noncomputable def wR (x:D) (Q:Nat->Prop):Prop:=match x with | .ref i=>Q i | _=>False
noncomputable def w1 (x:List D) (Q:D->Prop):Prop:=match x with | [v]=>Q v | _=>False
noncomputable def w2 (x:List D) (Q:D->D->Prop):Prop:=match x with | [v,w]=>Q v w | _=>False
noncomputable def wL (o:Option SO) (Q:List D->Prop):Prop:=match o with | some (.lst xs)=>Q xs | none=>False
section
variable {β:Type} {o o':Option (Option D)} {x x':D} {Q:D->Prop} {QI:Int->Prop} {QB:Bool->Prop} {QR:Nat->Prop} {QL:List D->Prop} {l l':Option SO} {d:D} {i:Int} {k:Bool} {n:Nat} {xs:List D} {g g':Option β} {QG:β->Prop} {y:β}
theorem ZnX:w1 [d] Q=Q d:=rfl
theorem ZnY {Q2:D->D->Prop}:w2 [d,x] Q2=Q2 d x:=rfl
theorem ZnZ:wV (some (some d)) Q=Q d:=rfl
theorem Zn0:wI (.int i) QI=QI i:=rfl
theorem Zn1:wB (.bl k) QB=QB k:=rfl
theorem Zn2:wR (.ref n) QR=QR n:=rfl
theorem Zn3:wL (some (.lst xs)) QL=QL xs:=rfl
theorem Zn4:wG (some y) QG=QG y:=rfl
end
section
variable {β:Type} {Q:β->Sto->Prop} {E:Str->Sto->Prop} {N B C:Ro->Sto->Prop} {R:D->Sto->Prop} {ρ:Ro} {M:Sto} {A A':Prop}
theorem Zo {d:β}:wO (.ok d M) Q E=Q d M:=rfl
theorem Zji {c:Str}:wO (.exc c M:Out β) Q E=E c M:=rfl
theorem Zlf:Br true A A'=A:=by simp[Br]
theorem Zlg:Br false A A'=A':=by simp[Br]
theorem brD {p:Prop} [Decidable p] (h1:p->A) (h2: ¬ p->A'):Br (decide p) A A':=⟨fun h=>h1 (of_decide_eq_true h),fun h=>h2 (of_decide_eq_false h)⟩
theorem Zjj {o:Out β} (h:wO o Q (fun _ _=>False)): ∃ d M',o= .ok d M'/\Q d M':=by
 cases o with
 |ok d M=>exact ⟨d,M,rfl,h⟩
 |exc c M=>exact h.elim
 |bad=>exact h.elim
theorem Zk {γ:Type} {o:Out γ} {f:γ->Sto->Out β}:wO (o.bind f) Q E=wO o (fun x M1=>wO (f x M1) Q E) E:=by cases o<;>rfl
end
section
variable {Q:D->Sto->Prop} {E:Str->Sto->Prop} {N B C:Ro->Sto->Prop} {R:D->Sto->Prop} {ρ:Ro} {M:Sto} {e f g:Ev} {fs:Av}
theorem Zlh {op:Bo}:wO (e2 op f g ρ M) Q E=wO (f ρ M) (fun x M1=>wO (g ρ M1) (fun y M2=>wO (op x y M2) Q E) E) E:=by
 unfold e2
 rw[Zk]
 congr 1
 funext x M1
 rw[Zk]
theorem Zn5 {i:Nat}:wO (Zg i ρ M) Q E=wV ρ[i]? (fun d=>Q d M):=by
 unfold Zg
 cases ρ[i]? with
 |none=>rfl
 |some o=>cases o<;>rfl
theorem Zhk {F:List D->Sto->Out D}:wO (Zq F fs ρ M) Q E=wO (fs ρ M) (fun ds M1=>wO (F ds M1) Q E) E:=Zk
theorem Zhl {Q:List D->Sto->Prop}:wO (Zc f fs ρ M) Q E=wO (f ρ M) (fun x M1=>wO (fs ρ M1) (fun xs M2=>Q (x :: xs) M2) E) E:=by
 unfold Zc
 rw[Zk]
 congr 1
 funext x M1
 rw[Zk]
 congr 1
theorem Zjk:wO (ZaO fs ρ M) Q E=wO (fs ρ M) (fun xs M1=>xs.length<=1000/\Q (.tup xs) M1) E:=by
 unfold ZaO
 rw[Zk]
 congr 1
 funext x M1
 by_cases h:x.length<=1000
 ·rw[if_pos h];simp[h,wO]
 ·rw[if_neg h];simp[h,wO]
theorem Zjl:wO (Zdr fs ρ M) Q E=wO (fs ρ M) (fun xs M1=>xs.length<=1000/\Q (.ref M1.length) (M1 ++ [.lst xs])) E:=by
 unfold Zdr
 rw[Zk]
 congr 1
 funext x M1
 by_cases h:x.length<=1000
 ·rw[if_pos h];simp[h,wO]
 ·rw[if_neg h];simp[h,wO]
variable {t u:Tv}
theorem Zjm {Q:Bool->Sto->Prop}:wO (Zca t ρ M) Q E=wO (t ρ M) (fun k M1=>Q (!k) M1) E:=by
 unfold Zca
 rw[Zk]
 congr 1
variable {a b:Sv}
theorem Zjn:wS (ZS a b ρ M) N R B C E=wS (a ρ M) (fun ρ1 M1=>wS (b ρ1 M1) N R B C E) R B C E:=by
 unfold ZS
 cases a ρ M<;>rfl
theorem ZN {β:Type} {o:Out β} {k:β->Sto->Fl}:wS (Zaq o k) N R B C E=wO o (fun x M1=>wS (k x M1) N R B C E) E:=by cases o<;>rfl
theorem Zjo:wS (ZaP f ρ M) N R B C E=wO (f ρ M) R E:=ZN
theorem Zhm:wS (Zcd f ρ M) N R B C E=wO (f ρ M) (fun _ M1=>N ρ M1) E:=ZN
theorem Zjp {i:Nat}:wS (Zao (gNm i) f ρ M) N R B C E=wO (f ρ M) (fun d M1=>N (ρ.set i (some d)) M1) E:=ZN
theorem Zhn {gs:Tgs}:wS (Zao (gTp gs) f ρ M) N R B C E=wO (f ρ M) (fun d M1=>wG (gTp gs d ρ) (fun r=>N r M1)) E:=by
 unfold Zao
 rw[ZN]
 congr 1
 funext d M1
 cases gTp gs d ρ<;>rfl
theorem Zjq {i j:Nat}:wS (ZcI i j fs ρ M) N R B C E=wO (fs ρ M) (fun ds M1=>w2 ds fun v w=>N ((ρ.set i (some v)).set j (some w)) M1) E:=by
 unfold ZcI
 rw[ZN]
 congr 1
 funext ds M1
 rcases ds with _ | ⟨v,_ | ⟨w,_ | ⟨z,r⟩⟩⟩<;>rfl
theorem Zjr {fo fi:Ev}:wS (ZhK fo fi f ρ M) N R B C E=wO (f ρ M) (fun d M1=>wO (fo ρ M1) (fun o M2=>wO (fi ρ M2) (fun i M3=>wR o fun n=>wI i fun k=>wL M3[n]? fun xs=>wG (ixN xs.length k) fun j=>N ρ (M3.set n (.lst (xs.set j d)))) E) E) E:=by
 unfold ZhK
 rw[ZN]
 congr 1
 funext d M1
 rw[ZN]
 congr 1
 funext o M2
 rw[ZN]
 congr 1
 funext i M3
 cases o<;>cases i<;>try rfl
 rename_i n k
 cases e:M3[n]? with
 |none=>simp only[e,wR,wI,wL,wS]
 |some s=>
  cases s with
  |lst xs=>
   cases e2:ixN xs.length k<;>simp only[e,e2,wR,wI,wL,wG,wS]
theorem ZfD {c:Str}:wS (ZbA c fs ρ M) N R B C E=wO (fs ρ M) (fun ds M1=>ds.length<=1000/\E c M1) E:=by
 unfold ZbA
 rw[ZN]
 congr 1
 funext ds M1
 by_cases h:ds.length<=1000
 ·rw[if_pos h];simp[h,wS]
 ·rw[if_neg h];simp[h,wS]
theorem wF {n k:Nat} {ds:List D} (hl:ds.length=n):wO (fnF a n k ds M) Q E=wS (a (ds.map some ++ List.replicate k none) M) (fun _ M1=>Q .non M1) Q (fun _ _=>False) (fun _ _=>False) E:=by
 unfold fnF
 rw[if_pos hl]
 cases a (ds.map some ++ List.replicate k none) M<;>rfl
theorem ZeK {o:Fl} {N' B' C':Ro->Sto->Prop} {R':D->Sto->Prop} {E':Str->Sto->Prop} (h:wS o N R B C E) (hn: ∀ ρ M,N ρ M->N' ρ M) (hr: ∀ d M,R d M->R' d M) (hb: ∀ ρ M,B ρ M->B' ρ M) (hc: ∀ ρ M,C ρ M->C' ρ M) (he: ∀ c M,E c M->E' c M):wS o N' R' B' C' E':=by
 cases o with
 |nx ρ M=>exact hn _ _ h
 |ret ρ M=>exact hr _ _ h
 |brk ρ M=>exact hb _ _ h
 |cnt ρ M=>exact hc _ _ h
 |exc ρ M=>exact he _ _ h
 |bad=>exact h
variable {tg:Tg} {bd:Sv} {fi:Ro->Sto->Out Src}
theorem ZeL (I:Nat->Ro->Sto->Prop): ∀ (xs:List D) (k:Nat) (ρ:Ro) (M:Sto),I k ρ M->(∀ i ρ M (h:i < xs.length),I (k + i) ρ M->wG (tg xs[i] ρ) fun r=>wS (bd r M) (I (k + i + 1)) R N (I (k + i + 1)) E)->(∀ ρ M,I (k + xs.length) ρ M->N ρ M)->wS (Zar tg bd xs ρ M) N R B C E
 | [],k,ρ,M,h,_,hn=>hn ρ M h
 |x :: xs,k,ρ,M,h,st,hn=>by
  have s:=st 0 ρ M (by simp) h
  unfold Zar
  simp only[List.getElem_cons_zero,Nat.add_zero] at s
  cases e:tg x ρ with
  |none=>rw[e] at s;exact s.elim
  |some ρ1=>
   rw[e] at s
   simp only[wG] at s
   have rc: ∀ ρ2 M2,I (k + 1) ρ2 M2->wS (Zar tg bd xs ρ2 M2) N R B C E:=fun ρ2 M2 h2=>ZeL I xs (k + 1) ρ2 M2 h2 (fun i ρ M hi hI=>by
    have z:=st (i + 1) ρ M (by simp;omega) (by rw[show k + (i + 1)=k + 1 + i by omega];exact hI)
    simp only[List.getElem_cons_succ] at z
    rw[show k + (i + 1) + 1=k + 1 + i + 1 by omega] at z
    exact z) (fun ρ M hI=>hn ρ M (by rw[show k + (x :: xs).length=k + 1 + xs.length by simp;omega];exact hI))
   cases eg:bd ρ1 M<;>rw[eg] at s<;>simp only[eg]
   ·exact rc _ _ s
   ·exact s
   ·exact s
   ·exact rc _ _ s
   ·exact s
   ·exact s
theorem Zho:wS (Zcf tg fs bd ρ M) N R B C E=wO (fs ρ M) (fun ds M1=>w1 ds fun d=>wI d fun j=>(-(2 ^ 62)<=j/\j < 2 ^ 62)/\wS (Zar tg bd (ZaF 0 j.toNat) ρ M1) N R B C E) E:=by
 unfold Zcf
 rw[ZN]
 congr 1
 funext ds M1
 rcases ds with _ | ⟨v,_ | ⟨w,r⟩⟩
 ·rfl
 ·cases v<;>try rfl
  rename_i j
  by_cases h: -(2 ^ 62)<=j/\j < 2 ^ 62
  ·simp only[w1,wI,eq_true h,true_and,if_true]
  ·simp only[w1,wI,eq_false h,false_and,if_false]
   rfl
 ·cases v<;>rfl
theorem Zjs (I:Nat->Ro->Sto->Prop) {n:Nat} {lo:Int} (h0:I 0 ρ M) (st: ∀ i ρ M,i < n->I i ρ M->wG (tg (.int (lo + i)) ρ) fun r=>wS (bd r M) (I (i + 1)) R N (I (i + 1)) E) (hn: ∀ ρ M,I n ρ M->N ρ M):wS (Zar tg bd (ZaF lo n) ρ M) N R B C E:=by
 have hl:(ZaF lo n).length=n:=by simp[ZaF]
 refine ZeL I _ 0 ρ M h0 (fun i ρ M h hI=> ?_) (fun ρ M hI=>hn ρ M (by rw[hl,Nat.zero_add] at hI;exact hI))
 have:(ZaF lo n)[i]= .int (lo + i):=by simp[ZaF]
 rw[this]
 rw[Nat.zero_add] at *
 exact st i ρ M (by rw[hl] at h;exact h) hI
theorem Zjt:wS (ZhL tg f bd ρ M) N R B C E=wO (f ρ M) (fun d M1=>wS (Zf8 tg bd d ρ M1) N R B C E) E:=ZN
theorem Zhp (I:Nat->Ro->Sto->Prop) {n:Nat} {xs:List D}: ∀ (f i:Nat) (ρ:Ro) (M:Sto),i + f=xs.length->I i ρ M->(∀ i ρ M,I i ρ M->M[n]?=some (.lst xs))->(∀ i ρ M (h:i < xs.length),I i ρ M->wG (tg xs[i] ρ) fun r=>wS (bd r M) (I (i + 1)) R N (I (i + 1)) E)->(∀ ρ M,I xs.length ρ M->N ρ M)->wS (ZdE tg bd n f i ρ M) N R B C E:=by
  intro f
  induction f with
  |zero=>
   intro i ρ M e h hm st hn
   have hx:=hm _ _ _ h
   unfold ZdE
   rw[hx]
   have:xs[i]?=none:=List.getElem?_eq_none (by omega)
   simp only[this]
   exact hn ρ M (by rw[show xs.length=i by omega];exact h)
  |succ f ih=>
   intro i ρ M e h hm st hn
   have hx:=hm _ _ _ h
   unfold ZdE
   rw[hx]
   have hi:i < xs.length:=by omega
   have:xs[i]?=some xs[i]:=List.getElem?_eq_getElem hi
   simp only[this]
   have s:=st i ρ M hi h
   cases e:tg xs[i] ρ with
   |none=>rw[e] at s;exact s.elim
   |some ρ1=>
    rw[e] at s
    simp only[wG] at s
    have rc: ∀ ρ2 M2,I (i + 1) ρ2 M2->wS (ZdE tg bd n f (i + 1) ρ2 M2) N R B C E:=fun ρ2 M2 h2=>ih (i + 1) ρ2 M2 (by omega) h2 hm st hn
    cases eg:bd ρ1 M<;>rw[eg] at s<;>simp only[eg]
    ·exact rc _ _ s
    ·exact s
    ·exact s
    ·exact rc _ _ s
    ·exact s
    ·exact s
theorem ZeM (I:Nat->Ro->Sto->Prop) {n:Nat} {xs:List D} (hM:M[n]?=some (.lst xs)) (h0:I 0 ρ M) (hm: ∀ i ρ M,I i ρ M->M[n]?=some (.lst xs)) (st: ∀ i ρ M (h:i < xs.length),I i ρ M->wG (tg xs[i] ρ) fun r=>wS (bd r M) (I (i + 1)) R N (I (i + 1)) E) (hn: ∀ ρ M,I xs.length ρ M->N ρ M):wS (Zf8 tg bd (.ref n) ρ M) N R B C E:=by
 show wS (match M[n]? with | some (.lst xs)=>ZdE tg bd n xs.length 0 ρ M | none=> .bad) N R B C E
 rw[hM]
 exact Zhp I xs.length 0 ρ M (by omega) h0 hm st hn
theorem Zhq:wS (Zft tg fi bd ρ M) N R B C E=wO (fi ρ M) (fun src M1=>wS (Zdv tg bd src (cnt src M1) 0 ρ M1) N R B C E) E:=ZN
theorem ZmM (I:Nat->Ro->Sto->Prop) {src:Src} {xs:List D}: ∀ (f i:Nat) (ρ:Ro) (M:Sto),i<=xs.length->xs.length<=i + f->I i ρ M->(∀ i ρ M,i<=xs.length->I i ρ M->nxt src i M=some xs[i]?)->(∀ i ρ M (h:i < xs.length),I i ρ M->wG (tg xs[i] ρ) fun r=>wS (bd r M) (I (i + 1)) R N (I (i + 1)) E)->(∀ ρ M,I xs.length ρ M->N ρ M)->wS (Zdv tg bd src f i ρ M) N R B C E:=by
  intro f
  induction f with
  |zero=>
   intro i ρ M le e h hm st hn
   have hx:=hm _ _ _ le h
   unfold Zdv
   rw[hx]
   have hi: ¬ i < xs.length:=by omega
   have:xs[i]?=none:=List.getElem?_eq_none (by omega)
   simp only[this]
   exact hn ρ M (by rw[show xs.length=i by omega];exact h)
  |succ f ih=>
   intro i ρ M le e h hm st hn
   have hx:=hm _ _ _ le h
   unfold Zdv
   rw[hx]
   by_cases hi:i < xs.length
   ·have:xs[i]?=some xs[i]:=List.getElem?_eq_getElem hi
    simp only[this]
    have s:=st i ρ M hi h
    cases e:tg xs[i] ρ with
    |none=>rw[e] at s;exact s.elim
    |some ρ1=>
     rw[e] at s
     simp only[wG] at s
     have rc: ∀ ρ2 M2,I (i + 1) ρ2 M2->wS (Zdv tg bd src f (i + 1) ρ2 M2) N R B C E:=fun ρ2 M2 h2=>ih (i + 1) ρ2 M2 (by omega) (by omega) h2 hm st hn
     cases eg:bd ρ1 M<;>rw[eg] at s<;>simp only[eg]
     ·exact rc _ _ s
     ·exact s
     ·exact s
     ·exact rc _ _ s
     ·exact s
     ·exact s
   ·have:xs[i]?=none:=List.getElem?_eq_none (by omega)
    simp only[this]
    exact hn ρ M (by rw[show xs.length=i by omega];exact h)
theorem ZfE {c:Tv} (I:Nat->Ro->Sto->Prop) (st: ∀ n ρ M,I n ρ M->wO (c ρ M) (fun k M1=>Br k (wS (bd ρ M1) (fun ρ2 M2=> ∃ m,m < n/\I m ρ2 M2) R N (fun ρ2 M2=> ∃ m,m < n/\I m ρ2 M2) E) (N ρ M1)) E): ∀ (n:Nat) (ρ:Ro) (M:Sto),I n ρ M->wS (sWh c bd ρ M) N R B C E:=by
 intro n
 induction n using Nat.strongRecOn with
 |ind n ih=>
  intro ρ M h
  have s:=st n ρ M h
  cases ec:c ρ M with
  |bad=>rw[ec] at s;exact s.elim
  |exc x M1=>rw[ec] at s;rw[ZaZ (n:=1) (o:= .exc x M1) (by simp only[whN,ec])];exact s
  |ok k M1=>
   rw[ec] at s
   cases k with
   |false=>
    rw[Zo,Zlg] at s
    rw[Zce ec]
    exact s
   |true=>
    rw[Zo,Zlf] at s
    cases eg:bd ρ M1 with
    |nx ρ2 M2=>
     rw[eg] at s
     obtain ⟨m,hm,hI⟩:=s
     have r:=ih m hm ρ2 M2 hI
     rw[Zc6 ec eg (by intro z;rw[z] at r;exact r)]
     exact r
    |cnt ρ2 M2=>
     rw[eg] at s
     obtain ⟨m,hm,hI⟩:=s
     have r:=ih m hm ρ2 M2 hI
     have nb:sWh c bd ρ2 M2≠ .bad:=by intro z;rw[z] at r;exact r
     obtain ⟨j,ej⟩:=Zeo nb
     rw[ZaZ (n:=j + 1) (o:=sWh c bd ρ2 M2) (by simp only[whN,ec,eg];exact ej)]
     exact r
    |brk ρ2 M2=>rw[eg] at s;rw[ZaZ (n:=1) (o:= .nx ρ2 M2) (by simp only[whN,ec,eg])];exact s
    |ret d M2=>rw[eg] at s;rw[ZaZ (n:=1) (o:= .ret d M2) (by simp only[whN,ec,eg])];exact s
    |exc d M2=>rw[eg] at s;rw[ZaZ (n:=1) (o:= .exc d M2) (by simp only[whN,ec,eg])];exact s
    |bad=>rw[eg] at s;exact s.elim
theorem Zhr {fi:Ro->Sto->Out Src} {k:Nat} {fr:List Nat} {c:Tv}:wO (Zdt fi k fr tg c f ρ M) Q E=wO (fi ρ M) (fun src M1=>wO (ZbY src tg c f M1.length (cnt src M1) 0 (roB k fr ρ) (M1 ++ [.lst []])) (fun _ M2=>Q (.ref M1.length) M2) (fun _ _=>False)) E:=by
 unfold Zdt
 rw[Zk]
 congr 1
 funext src M1
 cases ZbY src tg c f M1.length (cnt src M1) 0 (roB k fr ρ) (M1 ++ [.lst []])<;>rfl
theorem Zju (I:Nat->Ro->Sto->Prop) {src:Src} {xs:List D} {c:Tv} {m:Nat} {Q:Sto->Prop}: ∀ (fu i:Nat) (ρ:Ro) (M:Sto),i<=xs.length->xs.length<=i + fu->I i ρ M->(∀ i ρ M,i<=xs.length->I i ρ M->nxt src i M=some xs[i]?)->
  (∀ i ρ M (h:i < xs.length),I i ρ M->wG (tg xs[i] ρ) fun r=>wO (c r M) (fun k M1=>Br k (wO (f r M1) (fun y M2=>wL M2[m]? fun ys=>ys.length < 10000000/\I (i + 1) r (M2.set m (.lst (ys ++ [y])))) (fun _ _=>False)) (I (i + 1) r M1)) (fun _ _=>False))->
  (∀ ρ M,I xs.length ρ M->Q M)->wO (ZbY src tg c f m fu i ρ M) (fun _ M2=>Q M2) (fun _ _=>False):=by
  intro fu
  induction fu with
  |zero=>
   intro i ρ M le e h hm st hn
   have hx:=hm _ _ _ le h
   unfold ZbY
   rw[hx]
   have hi: ¬ i < xs.length:=by omega
   have:xs[i]?=none:=List.getElem?_eq_none (by omega)
   simp only[this]
   exact hn ρ M (by rw[show xs.length=i by omega];exact h)
  |succ fu ih=>
   intro i ρ M le e h hm st hn
   have hx:=hm _ _ _ le h
   unfold ZbY
   rw[hx]
   by_cases hi:i < xs.length
   ·have:xs[i]?=some xs[i]:=List.getElem?_eq_getElem hi
    simp only[this]
    have s:=st i ρ M hi h
    cases e:tg xs[i] ρ with
    |none=>rw[e] at s;exact s.elim
    |some ρ1=>
     rw[e] at s
     simp only[wG] at s
     have rc: ∀ ρ2 M2,I (i + 1) ρ2 M2->wO (ZbY src tg c f m fu (i + 1) ρ2 M2) (fun _ M2=>Q M2) (fun _ _=>False):=fun ρ2 M2 h2=>ih (i + 1) ρ2 M2 (by omega) (by omega) h2 hm st hn
     cases ec:c ρ1 M with
     |bad=>rw[ec] at s;exact s.elim
     |exc _ _=>rw[ec] at s;exact s.elim
     |ok k M1=>
      rw[ec] at s
      rw[Zo] at s
      cases k with
      |false=>
       rw[Zlg] at s
       simp only[ec]
       exact rc _ _ s
      |true=>
       rw[Zlf] at s
       simp only[ec]
       cases ef:f ρ1 M1 with
       |bad=>rw[ef] at s;exact s.elim
       |exc _ _=>rw[ef] at s;exact s.elim
       |ok y M2=>
        rw[ef,Zo] at s
        simp only[ef]
        cases ey:M2[m]? with
        |none=>rw[ey] at s;exact s.elim
        |some o=>
         cases o with
         |lst ys=>
          rw[ey] at s
          simp only[wL,ey] at s ⊢
          rw[if_pos s.1]
          exact rc _ _ s.2
   ·have:xs[i]?=none:=List.getElem?_eq_none (by omega)
    simp only[this]
    exact hn ρ M (by rw[show xs.length=i by omega];exact h)
end
end DL
end
section
namespace DL
open PySem PySem.Spec PyProof.Rows L2
section
variable {Q:D->Sto->Prop} {E:Str->Sto->Prop} {N B C:Ro->Sto->Prop} {R:D->Sto->Prop} {ρ:Ro} {M:Sto} {f:Ev} {fs:Av} {i j:Int} {n m k:Nat} {x y d:D} {xs ys ds:List D} {lo hi:Ro->Sto->Out (Option Int)}
theorem Zcn (h: -(18446744073709551616) < i/\i < 18446744073709551616):ZE i j:=ZeI h.1 h.2
theorem ZbS (h: -(18446744073709551616) < j/\j < 18446744073709551616):ZE i j:=ZeH h.1 h.2
theorem Zco (h:0 < j/\j < 18446744073709551616):Zah j:=by
 refine ⟨by omega,?_⟩
 have:j.natAbs.log2 < 64:=(Nat.log2_lt (by omega)).mpr (by omega)
 omega
theorem Zli:wO (dAdd (.int i) (.int j) M) Q E=Q (.int (i + j)) M:=rfl
theorem Zlj:wO (dSub (.int i) (.int j) M) Q E=Q (.int (i - j)) M:=rfl
theorem Zdf (h:ZE i j):wO (dMul (.int i) (.int j) M) Q E=Q (.int (i * j)) M:=by
 show wO (if ZE i j then _ else _) Q E=_
 rw[if_pos h];rfl
theorem Zlk (h: -(18446744073709551616) < i/\i < 18446744073709551616):wO (dMul (.int i) (.int j) M) Q E=Q (.int (i * j)) M:=Zdf (Zcn h)
theorem Zjv (h: -(18446744073709551616) < j/\j < 18446744073709551616):wO (dMul (.int i) (.int j) M) Q E=Q (.int (i * j)) M:=Zdf (ZbS h)
theorem Zll (h:0 < j/\j < 18446744073709551616):wO (dDiv (.int i) (.int j) M) Q E=Q (.int (i / j)) M:=by
 show wO (if Zah j then _ else _) Q E=_
 rw[if_pos (Zco h),Int.fdiv_eq_ediv_of_nonneg _ (by omega)];rfl
theorem Zlm (h:0 < j):wO (dMod (.int i) (.int j) M) Q E=Q (.int (i % j)) M:=by
 show wO (if j≠0 then _ else _) Q E=_
 rw[if_pos (by omega),Int.fmod_eq_emod_of_nonneg _ (by omega)];rfl
theorem Zln (h:0<=j/\j<=1000000/\i.natAbs < 18446744073709551616):wO (dPow (.int i) (.int j) M) Q E=Q (.int (i ^ j.toNat)) M:=by
 show wO (if 0<=j/\j<=1000000/\i.natAbs < 2 ^ 64 then _ else _) Q E=_
 rw[if_pos ⟨h.1,h.2.1,by omega⟩];rfl
theorem Zn6:wO (dLt (.int i) (.int j) M) Q E=Q (.bl (decide (i < j))) M:=rfl
theorem Zn7:wO (dLe (.int i) (.int j) M) Q E=Q (.bl (decide (i<=j))) M:=rfl
theorem Zn8:wO (dGt (.int i) (.int j) M) Q E=Q (.bl (decide (j < i))) M:=rfl
theorem Zn9:wO (dGe (.int i) (.int j) M) Q E=Q (.bl (decide (j<=i))) M:=rfl
theorem Zlo:wO (dAdd (.ref n) (.ref m) M) Q E=wL M[n]? fun xs=>wL M[m]? fun ys=>xs.length + ys.length<=10000000/\Q (.ref M.length) (M ++ [.lst (xs ++ ys)]):=by
 show wO (match M[n]?,M[m]? with | some (.lst xs),some (.lst ys)=>_ | _,_=>_) Q E=_
 cases e1:M[n]? with
 |none=>rfl
 |some o=>
  cases o with
  |lst xs=>
   cases e2:M[m]? with
   |none=>rfl
   |some p=>
    cases p with
    |lst ys=>
     by_cases h:xs.length + ys.length<=10000000
     ·simp[wL,h,wO]
     ·simp[wL,h,wO]
theorem Zjw (h:xs.length + ys.length<=100000/\xs≠[]):wO (dAdd (.tup xs) (.tup ys) M) Q E=Q (.tup (xs ++ ys)) M:=by
 show wO (if xs.length + ys.length<=100000/\xs≠[] then _ else _) Q E=_
 rw[if_pos h];rfl
theorem Zoa:wO (dEq x y M) Q E=wG (eqF 12 M x y) fun b=>Q (.bl b) M:=by
 show wO (match eqF 12 M x y with | some b=>_ | none=>_) Q E=_
 cases eqF 12 M x y<;>rfl
theorem Zob:wO (dNe x y M) Q E=wG (eqF 12 M x y) fun b=>Q (.bl (!b)) M:=by
 show wO (match eqF 12 M x y with | some b=>_ | none=>_) Q E=_
 cases eqF 12 M x y<;>rfl
theorem Zoc:wO (dIs x y M) Q E=wG (isP x y) fun b=>Q (.bl b) M:=by
 show wO (match isP x y with | some b=>_ | none=>_) Q E=_
 cases isP x y<;>rfl
theorem Zlp:wO (Zf3 x y M) Q E=wG (isP x y) fun b=>Q (.bl (!b)) M:=by
 show wO (match isP x y with | some b=>_ | none=>_) Q E=_
 cases isP x y<;>rfl
theorem Zhs:wO (atD xs i M) Q E=wG (atI xs i) fun d=>Q d M:=by
 unfold atD
 cases atI xs i<;>rfl
theorem Zlq:wO (dIx (.tup xs) (.int i) M) Q E=wG (atI xs i) fun d=>Q d M:=Zhs
theorem Zlr:wO (dIx (.rol xs) (.int i) M) Q E=wG (atI xs i) fun d=>Q d M:=Zhs
theorem Zls:wO (dIx (.ref n) (.int i) M) Q E=wL M[n]? fun xs=>wG (atI xs i) fun d=>Q d M:=by
 show wO (match M[n]? with | some (.lst xs)=>atD xs i M | _=> .bad) Q E=_
 cases e1:M[n]? with
 |none=>rfl
 |some o=>cases o with | lst xs=>exact Zhs
theorem Zjx:wO (bLen [.ref n] M) Q E=wL M[n]? fun xs=>Q (.int xs.length) M:=by
 show wO (match (match M[n]? with | some (.lst xs)=>some xs | _=>none) with | some xs=>_ | none=>_) Q E=_
 cases e1:M[n]? with
 |none=>rfl
 |some o=>cases o with | lst xs=>rfl
theorem Zjy:wO (bLen [.tup xs] M) Q E=Q (.int xs.length) M:=rfl
theorem Zjz:wO (bLen [.rol xs] M) Q E=Q (.int xs.length) M:=rfl
theorem Zlt:wO (bAbs [.int i] M) Q E=Q (.int (i.natAbs:Int)) M:=by rw[<- Zhg];rfl
theorem Zlu:wO (bMax [.int i,.int j] M) Q E=Q (.int (max i j)) M:=by
 have:max i j=if j > i then j else i:=by split<;>omega
 rw[this];rfl
theorem Zlv:wO (bMin [.int i,.int j] M) Q E=Q (.int (min i j)) M:=by
 have:min i j=if j < i then j else i:=by split<;>omega
 rw[this];rfl
theorem ZjA {k:Bool}:wO (bInt [.bl k] M) Q E=Q (.int (if k then 1 else 0)) M:=rfl
theorem ZjB:wO (bInt [.int i] M) Q E=Q (.int i) M:=rfl
theorem Zht:wO (ZgR [.ref n] M) Q E=wL M[n]? fun xs=>Q (.ref M.length) (M ++ [.lst xs]):=by
 show wO (match (match M[n]? with | some (.lst xs)=>some xs | _=>none) with | some xs=>_ | none=>_) Q E=_
 cases e1:M[n]? with
 |none=>rfl
 |some o=>cases o with | lst xs=>rfl
theorem Zhu:wO (ZgR [.tup xs] M) Q E=Q (.ref M.length) (M ++ [.lst xs]):=rfl
theorem Zlw:wO (ZmI [.ref n] M) Q E=wL M[n]? fun xs=>wG (Za0 xs) fun bs=>Q (.bl (bs.all id)) M:=by
 show wO (match M[n]? with | some (.lst xs)=>(match Za0 xs with | some bs=>Out.ok (.bl (bs.all id)) M | none=> .bad) | none=> .bad) Q E=_
 cases e1:M[n]? with
 |none=>rfl
 |some o=>
  cases o with
  |lst xs=>
   show wO (match Za0 xs with | some bs=>Out.ok (.bl (bs.all id)) M | none=> .bad) Q E=wG (Za0 xs) _
   cases Za0 xs<;>rfl
theorem ZjC {g:List Int->Option Int}:wO (Zi5 g [.ref n] M) Q E=wL M[n]? fun xs=>wG (Zck xs) fun ns=>wG (g ns) fun i=>Q (.int i) M:=by
 show wO (match (match M[n]? with | some (.lst xs)=>some xs | _=>none) with | some xs=>(match Zck xs with | some ns=>(match g ns with | some i=>Out.ok (.int i) M | none=> .bad) | none=> .bad) | none=> .bad) Q E=_
 cases e1:M[n]? with
 |none=>rfl
 |some o=>
  cases o with
  |lst xs=>
   show wO (match Zck xs with | some ns=>(match g ns with | some i=>Out.ok (.int i) M | none=> .bad) | none=> .bad) Q E=wG (Zck xs) _
   cases Zck xs with
   |none=>rfl
   |some ns=>
    show wO (match g ns with | some i=>Out.ok (.int i) M | none=> .bad) Q E=wG (g ns) _
    cases g ns<;>rfl
theorem Zod {g:Me} {fo:Ev}:wO (Zgb g fo fs ρ M) Q E=wO (fo ρ M) (fun x M1=>Zg6 x M1=true/\wO (fs ρ M1) (fun ds M2=>wO (g x ds M2) Q E) E) E:=by
 unfold Zgb
 rw[Zk]
 congr 1
 funext x M1
 by_cases h:Zg6 x M1=true
 ·simp only[h,if_true,true_and];rw[Zk]
 ·simp[h,wO]
theorem ZjD:Zg6 (.ref n) M=M[n]?.isSome:=rfl
theorem Zlx:wO (mApp (.ref n) [d] M) Q E=wL M[n]? fun xs=>xs.length < 10000000/\Q .non (M.set n (.lst (xs ++ [d]))):=by
 show wO (match M[n]? with | some (.lst xs)=>if xs.length < 10000000 then _ else _ | none=>_) Q E=_
 cases e1:M[n]? with
 |none=>rfl
 |some o=>
  cases o with
  |lst xs=>
   by_cases h:xs.length < 10000000
   ·simp[wL,h,wO]
   ·simp[wL,h,wO]
theorem Zly:wO (ZmJ (.ref n) [] M) Q E=wL M[n]? fun xs=>Q .non (M.set n (.lst [])):=by
 show wO (match M[n]? with | some (.lst xs)=>_ | none=>_) Q E=_
 cases e1:M[n]? with
 |none=>rfl
 |some o=>cases o with | lst xs=>rfl
theorem Zlz:wO (ZmK (.ref n) [.ref m] M) Q E=wL M[n]? fun xs=>wL M[m]? fun ys=>xs.length + ys.length<=10000000/\Q .non (M.set n (.lst (xs ++ ys))):=by
 show wO (match M[n]?,M[m]? with | some (.lst xs),some (.lst ys)=>if xs.length + ys.length<=10000000 then _ else _ | _,_=>_) Q E=_
 cases e1:M[n]? with
 |none=>rfl
 |some o=>
  cases o with
  |lst xs=>
   cases e2:M[m]? with
   |none=>rfl
   |some p=>
    cases p with
    |lst ys=>
     by_cases h:xs.length + ys.length<=10000000
     ·simp[wL,h,wO]
     ·simp[wL,h,wO]
noncomputable def slR (x:D) (l u:Option Int) (M3:Sto):Out D:=match x with
 | .ref n=>(match M3[n]? with | some (.lst xs)=> .ok (.ref M3.length) (M3 ++ [.lst (ZcK xs l u)]) | none=> .bad)
 | .rol xs=> .ok (.ref M3.length) (M3 ++ [.lst (ZcK xs l u)])
 | .tup xs=>if HT.sIx xs.length 0 l=0/\HT.sIx xs.length xs.length u=xs.length then .bad else .ok (.tup (ZcK xs l u)) M3
 |_=> .bad
theorem ZlA:wO (eSl f lo hi ρ M) Q E=wO (f ρ M) (fun x M1=>wO (lo ρ M1) (fun l M2=>wO (hi ρ M2) (fun u M3=>wO (slR x l u M3) Q E) E) E) E:=by
 unfold eSl
 rw[Zk]
 congr 1
 funext x M1
 rw[Zk]
 congr 1
 funext l M2
 rw[Zk]
 congr 1
theorem ZlB {l u:Option Int}:wO (slR (.ref n) l u M) Q E=wL M[n]? fun xs=>Q (.ref M.length) (M ++ [.lst (ZcK xs l u)]):=by
 unfold slR
 cases e1:M[n]? with
 |none=>simp only[e1];rfl
 |some o=>cases o with | lst xs=>simp only[e1];rfl
theorem ZlC {Q:Option Int->Sto->Prop}:wO (oSo f ρ M) Q E=wO (f ρ M) (fun x M1=>wI x fun i=>Q (some i) M1) E:=by
 unfold oSo
 rw[Zk]
 congr 1
 funext x M1
 cases x<;>rfl
theorem ZjE (h:0<=i):ZcK xs none (some i)=xs.take i.toNat:=by
 unfold ZcK
 simp only[HT.sIx]
 rw[if_neg (by omega),List.drop_zero,Nat.sub_zero]
 by_cases c:i.toNat<=xs.length
 ·rw[Nat.min_eq_left c]
 ·rw[Nat.min_eq_right (by omega),List.take_of_length_le (Nat.le_refl _),List.take_of_length_le (by omega)]
theorem ZfF (h:0<=i):ZcK xs (some i) none=xs.drop i.toNat:=by
 unfold ZcK
 simp only[HT.sIx]
 rw[if_neg (by omega)]
 by_cases c:i.toNat<=xs.length
 ·rw[Nat.min_eq_left c,List.take_of_length_le (by simp)]
 ·rw[Nat.min_eq_right (by omega),List.drop_eq_nil_of_le (Nat.le_refl _),List.drop_eq_nil_of_le (by omega),List.take_nil]
theorem ZlD {L:Sto}:(M ++ L)[M.length]?=L[0]?:=by rw[List.getElem?_append_right (Nat.le_refl _),Nat.sub_self]
theorem Zoe {L:Sto} {i:Nat}:(M ++ L)[M.length + i]?=L[i]?:=by rw[List.getElem?_append_right (by omega)];congr 1;omega
theorem ZcM {L:Sto} (h:n < M.length):(M ++ L)[n]?=M[n]?:=List.getElem?_append_left h
theorem ZjF {L:Sto} {o:SO}:(M ++ L).set M.length o=M ++ L.set 0 o:=by rw[List.set_append_right _ _ (Nat.le_refl _),Nat.sub_self]
theorem ZlE {L:Sto} {o:SO} {i:Nat}:(M ++ L).set (M.length + i) o=M ++ L.set i o:=by rw[List.set_append_right _ _ (by omega)];congr 2;omega
theorem ZjG {o:SO} (h:k≠n):(M.set n o)[k]?=M[k]?:=List.getElem?_set_ne (Ne.symm h)
theorem ZjH {o:SO} (h:n < M.length):(M.set n o)[n]?=some o:=List.getElem?_set_self h
theorem ZbE {o:SO} (h:M[n]?=some o):n < M.length:=(List.getElem?_eq_some_iff.mp h).1
noncomputable abbrev pr (x y:Int):D:= .tup [.int x,.int y]
noncomputable def prs (rs:List (Int × Int)):List D:=rs.map fun p=>pr p.1 p.2
noncomputable def nts (ns:List Int):List D:=ns.map D.int
theorem Zhv {rs:List (Int × Int)}:(prs rs).length=rs.length:=List.length_map _
theorem Zhw {rs:List Int}:(nts rs).length=rs.length:=List.length_map _
theorem Zhx {a b:List (Int × Int)}:prs a ++ prs b=prs (a ++ b):=(List.map_append).symm
theorem Zhy {a b:List Int}:nts a ++ nts b=nts (a ++ b):=(List.map_append).symm
theorem ZfG {a:List (Int × Int)}:(prs a).take n=prs (a.take n):=List.map_take.symm
theorem ZfH {a:List (Int × Int)}:(prs a).drop n=prs (a.drop n):=List.map_drop.symm
theorem ZfI {a:List Int}:(nts a).take n=nts (a.take n):=List.map_take.symm
theorem ZfJ {a:List Int}:(nts a).drop n=nts (a.drop n):=List.map_drop.symm
theorem ZfK {a b:Int} {r:List (Int × Int)}:pr a b :: prs r=prs ((a,b) :: r):=rfl
theorem Zhz {a:List (Int × Int)} {b c:Int}:(prs a).set n (pr b c)=prs (a.set n (b,c)):=by unfold prs;rw[List.map_set]
theorem ZhA {a:List Int} {b:Int}:(nts a).set n (.int b)=nts (a.set n b):=by unfold nts;rw[List.map_set]
noncomputable def cy (rs:List (Int × Int)) (i:Int):Int × Int:=rs.getD (i % rs.length).toNat (0,0)
theorem ZlF {a b:Int}:eqF (n + 1) M (.int a) (.int b)=some (decide (a=b)):=rfl
theorem Zof {a b:Bool}:eqF (n + 1) M (.bl a) (.bl b)=some (a == b):=rfl
theorem Zog {a b c d:Int}:eqF (n + 2) M (pr a b) (pr c d)=some (decide ((a,b)=(c,d))):=by
 show some ((a == c) && ((b == d) && true))=_
 congr 1
 rw[Bool.eq_iff_iff]
 simp
theorem ZlG {xs ys:List D} (h1:M[n]?=some (.lst xs)) (h2:M[m]?=some (.lst ys)):eqF (k + 1) M (.ref n) (.ref m)=if xs.length=ys.length then eqL (eqF k M) xs ys else some false:=by
 show (match kd M (.ref n),kd M (.ref m) with | some a,some b=>eqK (eqF k M) a b | _,_=>none)=_
 have e1:kd M (.ref n)=some (.lst xs):=by show (match M[n]? with | some (.lst xs)=>some (Kd.lst xs) | _=>none)=_;rw[h1]
 have e2:kd M (.ref m)=some (.lst ys):=by show (match M[m]? with | some (.lst xs)=>some (Kd.lst xs) | _=>none)=_;rw[h2]
 rw[e1,e2]
 rfl
theorem ZjI:ZaY M (.int i)=some "int":=rfl
theorem ZlH {b:Bool}:ZaY M (.bl b)=some "bool":=rfl
theorem ZjJ:ZaY M (.tup xs)=some "tuple":=rfl
theorem ZjK:ZaY M .non=some "NoneType":=rfl
end
end DL
end
section
namespace DL
open PySem PySem.Spec PyProof.Rows L2
section
variable {Q:D->Sto->Prop} {E:Str->Sto->Prop} {N B C:Ro->Sto->Prop} {R:D->Sto->Prop} {ρ:Ro} {M:Sto} {f:Ev} {fs:Av} {i j:Int} {n m k:Nat} {x y z d:D} {xs ys ds:List D} {QS:Src->Sto->Prop} {tg:Tg} {bd:Sv} {b:Bool}
theorem ZhB:wS (Zep tg fs bd ρ M) N R B C E=wO (fs ρ M) (fun ds M1=>w2 ds fun x y=>wI x fun i=>wI y fun j=>(-(2 ^ 62)<=i/\i < 2 ^ 62/\ -(2 ^ 62)<=j/\j < 2 ^ 62)/\wS (Zar tg bd (ZaF i (j - i).toNat) ρ M1) N R B C E) E:=by
 unfold Zep
 rw[ZN]
 congr 1
 funext ds M1
 rcases ds with _ | ⟨v,_ | ⟨w,_ | ⟨w',r⟩⟩⟩
 ·rfl
 ·cases v<;>rfl
 ·cases v<;>try rfl
  cases w<;>try rfl
  rename_i i j
  by_cases h: -(2 ^ 62)<=i/\i < 2 ^ 62/\ -(2 ^ 62)<=j/\j < 2 ^ 62
  ·simp only[w2,wI,eq_true h,true_and,if_true]
  ·simp only[w2,wI,eq_false h,false_and,if_false]
   rfl
 ·cases v<;>cases w<;>rfl
theorem Zoh:wO (iR1 fs ρ M) QS E=wO (fs ρ M) (fun ds M1=>w1 ds fun d=>wI d fun j=>(-(2 ^ 62)<=j/\j < 2 ^ 62)/\QS (.pur (ZaF 0 j.toNat)) M1) E:=by
 unfold iR1
 rw[Zk]
 congr 1
 funext ds M1
 rcases ds with _ | ⟨v,_ | ⟨w,r⟩⟩
 ·rfl
 ·cases v<;>try rfl
  rename_i j
  by_cases h: -(2 ^ 62)<=j/\j < 2 ^ 62
  ·simp only[w1,wI,eq_true h,true_and,if_true,Zo]
  ·simp only[w1,wI,eq_false h,false_and,if_false]
   rfl
 ·cases v<;>rfl
theorem Zoi:wO (iR2 fs ρ M) QS E=wO (fs ρ M) (fun ds M1=>w2 ds fun x y=>wI x fun i=>wI y fun j=>(-(2 ^ 62)<=i/\i < 2 ^ 62/\ -(2 ^ 62)<=j/\j < 2 ^ 62)/\QS (.pur (ZaF i (j - i).toNat)) M1) E:=by
 unfold iR2
 rw[Zk]
 congr 1
 funext ds M1
 rcases ds with _ | ⟨v,_ | ⟨w,_ | ⟨w',r⟩⟩⟩
 ·rfl
 ·cases v<;>rfl
 ·cases v<;>try rfl
  cases w<;>try rfl
  rename_i i j
  by_cases h: -(2 ^ 62)<=i/\i < 2 ^ 62/\ -(2 ^ 62)<=j/\j < 2 ^ 62
  ·simp only[w2,wI,eq_true h,true_and,if_true,Zo]
  ·simp only[w2,wI,eq_false h,false_and,if_false]
   rfl
 ·cases v<;>cases w<;>rfl
theorem Zoj:wO (iEn fs ρ M) QS E=wO (fs ρ M) (fun ds M1=>w1 ds fun d=>wR d fun n=>QS (.enu n) M1) E:=by
 unfold iEn
 rw[Zk]
 congr 1
 funext ds M1
 rcases ds with _ | ⟨v,_ | ⟨w,r⟩⟩<;>try rfl
 ·cases v<;>rfl
 ·cases v<;>rfl
theorem Zok:wO (iZp fs ρ M) QS E=wO (fs ρ M) (fun ds M1=>w2 ds fun x y=>wR x fun n=>wR y fun m=>QS (.zip n m) M1) E:=by
 unfold iZp
 rw[Zk]
 congr 1
 funext ds M1
 rcases ds with _ | ⟨v,_ | ⟨w,_ | ⟨w',r⟩⟩⟩<;>try rfl
 ·cases v<;>rfl
 ·cases v<;>cases w<;>rfl
 ·cases v<;>cases w<;>rfl
theorem Zol:wO (iRv fs ρ M) QS E=wO (fs ρ M) (fun ds M1=>w1 ds fun d=>wR d fun n=>wL M1[n]? fun xs=>QS (.rev n xs.length) M1) E:=by
 unfold iRv
 rw[Zk]
 congr 1
 funext ds M1
 rcases ds with _ | ⟨v,_ | ⟨w,r⟩⟩<;>try rfl
 ·cases v<;>try rfl
  rename_i n
  cases e:M1[n]? with
  |none=>simp only[e];simp only[w1,wR,e];rfl
  |some o=>cases o with | lst xs=>simp only[e,w1,wR];rfl
 ·cases v<;>rfl
noncomputable def ZjL (Q:D->Sto->Prop) (ρ:Ro) (M:Sto):Prop:=Q .non M
theorem wF1:wO (fnF bd 1 k [x] M) Q E=wS (bd (some x :: List.replicate k none) M) (ZjL Q) Q (fun _ _=>False) (fun _ _=>False) E:=wF rfl
theorem wF2:wO (fnF bd 2 k [x,y] M) Q E=wS (bd (some x :: some y :: List.replicate k none) M) (ZjL Q) Q (fun _ _=>False) (fun _ _=>False) E:=wF rfl
theorem wF3:wO (fnF bd 3 k [x,y,z] M) Q E=wS (bd (some x :: some y :: some z :: List.replicate k none) M) (ZjL Q) Q (fun _ _=>False) (fun _ _=>False) E:=wF rfl
theorem wF4:wO (fnF bd 4 k [x,y,z,d] M) Q E=wS (bd (some x :: some y :: some z :: some d :: List.replicate k none) M) (ZjL Q) Q (fun _ _=>False) (fun _ _=>False) E:=wF rfl
theorem ZfL {a:List (Int × Int)} {b c:Int}:prs a ++ [pr b c]=prs (a ++ [(b,c)]):=by simp[prs]
theorem ZfM {a:List Int} {b:Int}:nts a ++ [D.int b]=nts (a ++ [b]):=by simp[nts]
theorem ZfN {b:Int} {r:List Int}:D.int b :: nts r=nts (b :: r):=rfl
theorem ZlI:isP .non .non=some true:=rfl
theorem ZlJ:isP (.int i) .non=some false:=rfl
theorem ZlK:isP (.tup xs) .non=some false:=rfl
theorem ZlL:isP (.ref n) .non=some false:=rfl
theorem at2 {r:List D}:atI (x :: y :: z :: r) 2=some z:=by
 show (ixN (r.length + 3) 2).bind _=_
 unfold ixN
 rw[if_pos (by decide),if_pos (by omega)]
 rfl
theorem at3 {r:List D}:atI (x :: y :: z :: d :: r) 3=some d:=by
 show (ixN (r.length + 4) 3).bind _=_
 unfold ixN
 rw[if_pos (by decide),if_pos (by omega)]
 rfl
theorem ZjM:ZcH "int" "int"=true:=rfl
theorem ZjN:ZcH "int" "bool"=false:=rfl
theorem ZjO:ZcH "bool" "int"=true:=rfl
theorem ZjP:ZcH "bool" "bool"=true:=rfl
theorem ZjQ:ZcH "tuple" "tuple"=true:=rfl
theorem ZjR:ZcH "list" "list"=true:=rfl
theorem ZjS:ZcH "tuple" "int"=false:=rfl
theorem ZjT:ZcH "tuple" "list"=false:=rfl
theorem ZjU:ZcH "list" "tuple"=false:=rfl
theorem ZjV:ZcH "list" "int"=false:=rfl
theorem ZjW:ZcH "NoneType" "tuple"=false:=rfl
theorem ZjX:ZcH "NoneType" "list"=false:=rfl
section
variable {g:Jv} {bb:Nat}
end
end
end DL
end
section
namespace DL
open PySem PySem.Spec PyProof.Rows L2
section
variable {Q:D->Sto->Prop} {E:Str->Sto->Prop} {N B C:Ro->Sto->Prop} {R:D->Sto->Prop} {ρ:Ro} {M:Sto} {f g:Ev} {fs:Av} {i j:Int} {n m k:Nat} {x y z d:D} {xs ys ds:List D} {QL:List D->Sto->Prop} {QB:Bool->Sto->Prop} {QS:Src->Sto->Prop} {tg:Tg} {a bd:Sv} {b:Bool} {t u:Tv}
noncomputable def kU {β γ:Type} (u:β->Sto->Out γ) (Q:γ->Sto->Prop) (E:Str->Sto->Prop) (x:β) (M:Sto):Prop:=wO (u x M) Q E
noncomputable def kQ {β γ:Type} (Q:γ->Sto->Prop) (c:β->γ) (M:Sto) (x:β):Prop:=Q (c x) M
noncomputable def kB2 (op:Bo) (x:D) (Q:D->Sto->Prop) (E:Str->Sto->Prop) (y:D) (M:Sto):Prop:=wO (op x y M) Q E
noncomputable def kB1 (op:Bo) (g:Ev) (ρ:Ro) (Q:D->Sto->Prop) (E:Str->Sto->Prop) (x:D) (M:Sto):Prop:=wO (g ρ M) (kB2 op x Q E) E
theorem Zom {op:Bo}:wO (e2 op f g ρ M) Q E=wO (f ρ M) (kB1 op g ρ Q E) E:=Zlh
theorem y_c:wO (eC d ρ M) Q E=Q d M:=rfl
theorem y_v:wO (Zg k ρ M) Q E=wV ρ[k]? (kQ Q id M):=Zn5
theorem ZjY {F:List D->Sto->Out D}:wO (Zq F fs ρ M) Q E=wO (fs ρ M) (kU F Q E) E:=Zhk
noncomputable def kA2 (x:D) (Q:List D->Sto->Prop) (xs:List D) (M:Sto):Prop:=Q (x :: xs) M
noncomputable def kA1 (fs:Av) (ρ:Ro) (Q:List D->Sto->Prop) (E:Str->Sto->Prop) (x:D) (M:Sto):Prop:=wO (fs ρ M) (kA2 x Q) E
theorem ZlM:wO (aNil ρ M) QL E=QL [] M:=rfl
theorem ZjZ:wO (Zc f fs ρ M) QL E=wO (f ρ M) (kA1 fs ρ QL E) E:=Zhl
noncomputable def kTu (Q:D->Sto->Prop) (xs:List D) (M:Sto):Prop:=xs.length<=1000/\Q (.tup xs) M
noncomputable def kLs (Q:D->Sto->Prop) (xs:List D) (M:Sto):Prop:=xs.length<=1000/\Q (.ref M.length) (M ++ [.lst xs])
theorem ZlN:wO (ZaO fs ρ M) Q E=wO (fs ρ M) (kTu Q) E:=Zjk
theorem ZlO:wO (Zdr fs ρ M) Q E=wO (fs ρ M) (kLs Q) E:=Zjl
noncomputable def ZmN (x:D) (M:Sto):Out D:=match x with | .int i=> .ok (.int (-i)) M | _=> .bad
theorem ZlP:wO (ZhJ f ρ M) Q E=wO (f ρ M) (kU ZmN Q E) E:=by unfold ZhJ;exact Zk
theorem Zj0:wO (ZmN (.int i) M) Q E=Q (.int (-i)) M:=rfl
noncomputable def ZlQ (T:String) (x:D) (M:Sto):Out D:=match ZaY M x with | some t=> .ok (.bl (ZcH t T)) M | none=> .bad
theorem ZlR {T:String}:wO (ZmG T f ρ M) Q E=wO (f ρ M) (kU (ZlQ T) Q E) E:=by unfold ZmG;exact Zk
noncomputable def kTy (T:String) (Q:D->Sto->Prop) (M:Sto) (t:String):Prop:=Q (.bl (ZcH t T)) M
theorem Zj1 {T:String}:wO (ZlQ T x M) Q E=wG (ZaY M x) (kTy T Q M):=by unfold ZlQ;cases ZaY M x<;>rfl
noncomputable def tC (b:Bool):Tv:=fun _ M=> .ok b M
noncomputable def BrO {β:Type} (k:Bool) (f g:Ro->Sto->Out β) (ρ:Ro) (M:Sto) (Q:β->Sto->Prop) (E:Str->Sto->Prop):Prop:=wO ((if k=true then f else g) ρ M) Q E
theorem Zon {β:Type} {fO gO:Ro->Sto->Out β} {QO:β->Sto->Prop}:BrO true fO gO ρ M QO E=wO (fO ρ M) QO E:=rfl
theorem Zoo {β:Type} {fO gO:Ro->Sto->Out β} {QO:β->Sto->Prop}:BrO false fO gO ρ M QO E=wO (gO ρ M) QO E:=rfl
noncomputable def kIf (f g:Ev) (ρ:Ro) (Q:D->Sto->Prop) (E:Str->Sto->Prop) (k:Bool) (M:Sto):Prop:=BrO k f g ρ M Q E
theorem Zop:wO (eIf t f g ρ M) Q E=wO (t ρ M) (kIf f g ρ Q E) E:=by unfold eIf;rw[Zk];congr 1;funext k M1;cases k<;>rfl
noncomputable def ZmO (g:Ev) (ρ:Ro) (x:D) (M:Sto):Out D:=match x with | .bl k=>if k=true then g ρ M else .ok (.bl false) M | _=> .bad
noncomputable def oOr (g:Ev) (ρ:Ro) (x:D) (M:Sto):Out D:=match x with | .bl k=>if k=true then .ok (.bl true) M else g ρ M | _=> .bad
noncomputable def ZmP (x:D) (M:Sto):Out D:=match x with | .bl k=> .ok (.bl (!k)) M | _=> .bad
noncomputable def oTv (x:D) (M:Sto):Out Bool:=match x with | .bl k=> .ok k M | _=> .bad
theorem ZlS:wO (Zfg f g ρ M) Q E=wO (f ρ M) (kU (ZmO g ρ) Q E) E:=by unfold Zfg;exact Zk
theorem Zoq:wO (ZmF f g ρ M) Q E=wO (f ρ M) (kU (oOr g ρ) Q E) E:=by unfold ZmF;exact Zk
theorem ZlT:wO (Ziu f ρ M) Q E=wO (f ρ M) (kU ZmP Q E) E:=by unfold Ziu;exact Zk
theorem Zj2:wO (ZmO g ρ (.bl b) M) Q E=BrO b g (eC (.bl false)) ρ M Q E:=by cases b<;>rfl
theorem ZlU:wO (oOr g ρ (.bl b) M) Q E=BrO b (eC (.bl true)) g ρ M Q E:=by cases b<;>rfl
theorem Zj3:wO (ZmP (.bl b) M) Q E=Q (.bl (!b)) M:=rfl
theorem Zor:wO (tv f ρ M) QB E=wO (f ρ M) (kU oTv QB E) E:=by unfold tv;exact Zk
theorem ZlV:wO (oTv (.bl b) M) QB E=QB b M:=rfl
noncomputable def kTA (u:Tv) (ρ:Ro) (Q:Bool->Sto->Prop) (E:Str->Sto->Prop) (k:Bool) (M:Sto):Prop:=BrO k u (tC false) ρ M Q E
noncomputable def kTO (u:Tv) (ρ:Ro) (Q:Bool->Sto->Prop) (E:Str->Sto->Prop) (k:Bool) (M:Sto):Prop:=BrO k (tC true) u ρ M Q E
noncomputable def kTN (Q:Bool->Sto->Prop) (k:Bool) (M:Sto):Prop:=Q (!k) M
theorem Zos:wO (tC b ρ M) QB E=QB b M:=rfl
theorem Zj4:wO (Zis t u ρ M) QB E=wO (t ρ M) (kTA u ρ QB E) E:=by unfold Zis;rw[Zk];congr 1;funext k M1;cases k<;>rfl
theorem ZlW:wO (ZkA t u ρ M) QB E=wO (t ρ M) (kTO u ρ QB E) E:=by unfold ZkA;rw[Zk];congr 1;funext k M1;cases k<;>rfl
theorem Zj5:wO (Zca t ρ M) QB E=wO (t ρ M) (kTN QB) E:=Zjm
noncomputable def kSq (b:Sv) (N:Ro->Sto->Prop) (R:D->Sto->Prop) (B C:Ro->Sto->Prop) (E:Str->Sto->Prop) (ρ:Ro) (M:Sto):Prop:=wS (b ρ M) N R B C E
theorem ZlX:wS (ZS a bd ρ M) N R B C E=wS (a ρ M) (kSq bd N R B C E) R B C E:=Zjn
theorem Zj6:wS (sNil ρ M) N R B C E=N ρ M:=rfl
theorem ZlY:wS (ZnN ρ M) N R B C E=B ρ M:=rfl
theorem ZlZ:wS (ZnO ρ M) N R B C E=C ρ M:=rfl
theorem Zl0:wS (ZaP f ρ M) N R B C E=wO (f ρ M) R E:=Zjo
theorem Zj7:wS (Zk7 ρ M) N R B C E=R .non M:=rfl
noncomputable def kDr (ρ:Ro) (N:Ro->Sto->Prop) (d:D) (M:Sto):Prop:=N ρ M
theorem Zj8:wS (Zcd f ρ M) N R B C E=wO (f ρ M) (kDr ρ N) E:=Zhm
noncomputable def BrS (k:Bool) (a b:Sv) (ρ:Ro) (M:Sto) (N:Ro->Sto->Prop) (R:D->Sto->Prop) (B C:Ro->Sto->Prop) (E:Str->Sto->Prop):Prop:=wS ((if k=true then a else b) ρ M) N R B C E
theorem Zot:BrS true a bd ρ M N R B C E=wS (a ρ M) N R B C E:=rfl
theorem Zou:BrS false a bd ρ M N R B C E=wS (bd ρ M) N R B C E:=rfl
theorem brS {p:Prop} [Decidable p] (h1:p->wS (a ρ M) N R B C E) (h2: ¬ p->wS (bd ρ M) N R B C E):BrS (decide p) a bd ρ M N R B C E:=by
 by_cases h:p
 ·rw[decide_eq_true h];exact h1 h
 ·rw[decide_eq_false h];exact h2 h
theorem ZmQ (P:Ro->Sto->Prop) (h:BrS b a bd ρ M P R B C E) (hn: ∀ ρ M,P ρ M->N ρ M):BrS b a bd ρ M N R B C E:=by
 cases b
 ·exact ZeK h hn (fun _ _ z=>z) (fun _ _ z=>z) (fun _ _ z=>z) (fun _ _ z=>z)
 ·exact ZeK h hn (fun _ _ z=>z) (fun _ _ z=>z) (fun _ _ z=>z) (fun _ _ z=>z)
noncomputable def kSi (a b:Sv) (ρ:Ro) (N:Ro->Sto->Prop) (R:D->Sto->Prop) (B C:Ro->Sto->Prop) (E:Str->Sto->Prop) (k:Bool) (M:Sto):Prop:=BrS k a b ρ M N R B C E
theorem Zl1:wS (sIf t a bd ρ M) N R B C E=wO (t ρ M) (kSi a bd ρ N R B C E) E:=by unfold sIf;rw[ZN];congr 1;funext k M1;cases k<;>rfl
noncomputable def kAs (i:Nat) (ρ:Ro) (N:Ro->Sto->Prop) (d:D) (M:Sto):Prop:=N (ρ.set i (some d)) M
theorem Zl2:wS (Zao (gNm k) f ρ M) N R B C E=wO (f ρ M) (kAs k ρ N) E:=Zjp
noncomputable def kAt (gs:Tgs) (ρ:Ro) (N:Ro->Sto->Prop) (d:D) (M:Sto):Prop:=wG (gTp gs d ρ) (kQ N id M)
theorem Zj9 {gs:Tgs}:wS (Zao (gTp gs) f ρ M) N R B C E=wO (f ρ M) (kAt gs ρ N) E:=Zhn
noncomputable def ZmR (i j:Nat) (ρ:Ro) (N:Ro->Sto->Prop) (M:Sto) (v w:D):Prop:=N ((ρ.set i (some v)).set j (some w)) M
noncomputable def kPa (i j:Nat) (ρ:Ro) (N:Ro->Sto->Prop) (ds:List D) (M:Sto):Prop:=w2 ds (ZmR i j ρ N M)
theorem Zl3:wS (ZcI k m fs ρ M) N R B C E=wO (fs ρ M) (kPa k m ρ N) E:=Zjq
noncomputable def ZmS (n:Nat) (d:D) (xs:List D) (ρ:Ro) (N:Ro->Sto->Prop) (M:Sto) (j:Nat):Prop:=N ρ (M.set n (.lst (xs.set j d)))
noncomputable def ZmT (n:Nat) (k:Int) (d:D) (ρ:Ro) (N:Ro->Sto->Prop) (M:Sto) (xs:List D):Prop:=wG (ixN xs.length k) (ZmS n d xs ρ N M)
noncomputable def ZmU (n:Nat) (d:D) (ρ:Ro) (N:Ro->Sto->Prop) (M:Sto) (k:Int):Prop:=wL M[n]? (ZmT n k d ρ N M)
noncomputable def ZmV (i:D) (d:D) (ρ:Ro) (N:Ro->Sto->Prop) (M:Sto) (n:Nat):Prop:=wI i (ZmU n d ρ N M)
noncomputable def ZmW (o:D) (d:D) (ρ:Ro) (N:Ro->Sto->Prop) (i:D) (M:Sto):Prop:=wR o (ZmV i d ρ N M)
noncomputable def ZmX (fi:Ev) (d:D) (ρ:Ro) (N:Ro->Sto->Prop) (E:Str->Sto->Prop) (o:D) (M:Sto):Prop:=wO (fi ρ M) (ZmW o d ρ N) E
noncomputable def kPu (fo fi:Ev) (ρ:Ro) (N:Ro->Sto->Prop) (E:Str->Sto->Prop) (d:D) (M:Sto):Prop:=wO (fo ρ M) (ZmX fi d ρ N E) E
theorem Zl4 {fo fi:Ev}:wS (ZhK fo fi f ρ M) N R B C E=wO (f ρ M) (kPu fo fi ρ N E) E:=Zjr
noncomputable def kRa (c:Str) (E:Str->Sto->Prop) (ds:List D) (M:Sto):Prop:=ds.length<=1000/\E c M
theorem ZhC {c:Str}:wS (ZbA c fs ρ M) N R B C E=wO (fs ρ M) (kRa c E) E:=ZfD
noncomputable def ZmY (tg:Tg) (bd:Sv) (ρ:Ro) (N:Ro->Sto->Prop) (R:D->Sto->Prop) (B C:Ro->Sto->Prop) (E:Str->Sto->Prop) (M:Sto) (j:Int):Prop:=(-(2 ^ 62)<=j/\j < 2 ^ 62)/\wS (Zar tg bd (ZaF 0 j.toNat) ρ M) N R B C E
noncomputable def ZmZ (tg:Tg) (bd:Sv) (ρ:Ro) (N:Ro->Sto->Prop) (R:D->Sto->Prop) (B C:Ro->Sto->Prop) (E:Str->Sto->Prop) (M:Sto) (d:D):Prop:=wI d (ZmY tg bd ρ N R B C E M)
noncomputable def kR1 (tg:Tg) (bd:Sv) (ρ:Ro) (N:Ro->Sto->Prop) (R:D->Sto->Prop) (B C:Ro->Sto->Prop) (E:Str->Sto->Prop) (ds:List D) (M:Sto):Prop:=w1 ds (ZmZ tg bd ρ N R B C E M)
theorem Zka:wS (Zcf tg fs bd ρ M) N R B C E=wO (fs ρ M) (kR1 tg bd ρ N R B C E) E:=Zho
noncomputable def Zm0 (tg:Tg) (bd:Sv) (ρ:Ro) (N:Ro->Sto->Prop) (R:D->Sto->Prop) (B C:Ro->Sto->Prop) (E:Str->Sto->Prop) (M:Sto) (i:Int) (j:Int):Prop:=(-(2 ^ 62)<=i/\i < 2 ^ 62/\ -(2 ^ 62)<=j/\j < 2 ^ 62)/\wS (Zar tg bd (ZaF i (j - i).toNat) ρ M) N R B C E
noncomputable def Zm1 (tg:Tg) (bd:Sv) (ρ:Ro) (N:Ro->Sto->Prop) (R:D->Sto->Prop) (B C:Ro->Sto->Prop) (E:Str->Sto->Prop) (M:Sto) (y:D) (i:Int):Prop:=wI y (Zm0 tg bd ρ N R B C E M i)
noncomputable def Zm2 (tg:Tg) (bd:Sv) (ρ:Ro) (N:Ro->Sto->Prop) (R:D->Sto->Prop) (B C:Ro->Sto->Prop) (E:Str->Sto->Prop) (M:Sto) (x y:D):Prop:=wI x (Zm1 tg bd ρ N R B C E M y)
noncomputable def kR2 (tg:Tg) (bd:Sv) (ρ:Ro) (N:Ro->Sto->Prop) (R:D->Sto->Prop) (B C:Ro->Sto->Prop) (E:Str->Sto->Prop) (ds:List D) (M:Sto):Prop:=w2 ds (Zm2 tg bd ρ N R B C E M)
theorem Zkb:wS (Zep tg fs bd ρ M) N R B C E=wO (fs ρ M) (kR2 tg bd ρ N R B C E) E:=ZhB
noncomputable def kFo (tg:Tg) (bd:Sv) (ρ:Ro) (N:Ro->Sto->Prop) (R:D->Sto->Prop) (B C:Ro->Sto->Prop) (E:Str->Sto->Prop) (d:D) (M:Sto):Prop:=wS (Zf8 tg bd d ρ M) N R B C E
theorem Zl5:wS (ZhL tg f bd ρ M) N R B C E=wO (f ρ M) (kFo tg bd ρ N R B C E) E:=Zjt
theorem Zkc:wS (Zf8 tg bd (.tup xs) ρ M) N R B C E=wS (Zar tg bd xs ρ M) N R B C E:=rfl
theorem Zkd:wS (Zf8 tg bd (.rol xs) ρ M) N R B C E=wS (Zar tg bd xs ρ M) N R B C E:=rfl
noncomputable def kFs (tg:Tg) (bd:Sv) (ρ:Ro) (N:Ro->Sto->Prop) (R:D->Sto->Prop) (B C:Ro->Sto->Prop) (E:Str->Sto->Prop) (src:Src) (M:Sto):Prop:=wS (Zdv tg bd src (cnt src M) 0 ρ M) N R B C E
theorem Zke {fi:Ro->Sto->Out Src}:wS (Zft tg fi bd ρ M) N R B C E=wO (fi ρ M) (kFs tg bd ρ N R B C E) E:=Zhq
noncomputable def hT (cs:List Str) (gh:Sv) (i:Nat) (ρ:Ro) (c:Str) (M:Sto):Fl:=if cs.contains c=true then (match gh ((List.replicate ρ.length none).set i (some (.err c []))) M with | .ret d M2=> .ret d M2 | .nx _ M2=> .nx (List.replicate ρ.length none) M2 | _=> .bad) else .bad
noncomputable def kTr (cs:List Str) (gh:Sv) (i:Nat) (ρ:Ro) (N:Ro->Sto->Prop) (R:D->Sto->Prop) (B C:Ro->Sto->Prop) (E:Str->Sto->Prop) (c:Str) (M:Sto):Prop:=cs.contains c=true/\wS (gh ((List.replicate ρ.length none).set i (some (.err c []))) M) (fun _ M2=>N (List.replicate ρ.length none) M2) R (fun _ _=>False) (fun _ _=>False) (fun _ _=>False)
theorem Zl6 {cs:List Str} {gh:Sv}:wS (Zg4 a cs k gh ρ M) N R B C E=wS (a ρ M) N R B C (kTr cs gh k ρ N R B C E):=by
 unfold Zg4
 cases e:a ρ M<;>try rfl
 rename_i c M1
 show wS (if cs.contains c=true then _ else _) N R B C E=kTr cs gh k ρ N R B C E c M1
 unfold kTr
 by_cases h:cs.contains c=true
 ·rw[if_pos h]
  simp only[h,true_and]
  cases gh ((List.replicate ρ.length none).set k (some (.err c []))) M1<;>rfl
 ·rw[if_neg h]
  simp only[h,Bool.false_eq_true,false_and]
  rfl
noncomputable def Zov (Q:D->Sto->Prop) (M1:Sto) (u:Unit) (M:Sto):Prop:=Q (.ref M1.length) M
noncomputable def kCo (tg:Tg) (c:Tv) (f:Ev) (k:Nat) (fr:List Nat) (ρ:Ro) (Q:D->Sto->Prop) (src:Src) (M:Sto):Prop:=wO (ZbY src tg c f M.length (cnt src M) 0 (roB k fr ρ) (M ++ [.lst []])) (Zov Q M) (fun _ _=>False)
theorem Zkf {fi:Ro->Sto->Out Src} {fr:List Nat}:wO (Zdt fi k fr tg t f ρ M) Q E=wO (fi ρ M) (kCo tg t f k fr ρ Q) E:=Zhr
noncomputable def Zm3 (QS:Src->Sto->Prop) (M:Sto) (j:Int):Prop:=(-(2 ^ 62)<=j/\j < 2 ^ 62)/\QS (.pur (ZaF 0 j.toNat)) M
noncomputable def Zm4 (QS:Src->Sto->Prop) (M:Sto) (d:D):Prop:=wI d (Zm3 QS M)
noncomputable def kS1 (QS:Src->Sto->Prop) (ds:List D) (M:Sto):Prop:=w1 ds (Zm4 QS M)
theorem Zow:wO (iR1 fs ρ M) QS E=wO (fs ρ M) (kS1 QS) E:=Zoh
noncomputable def Zm5 (QS:Src->Sto->Prop) (M:Sto) (i:Int) (j:Int):Prop:=(-(2 ^ 62)<=i/\i < 2 ^ 62/\ -(2 ^ 62)<=j/\j < 2 ^ 62)/\QS (.pur (ZaF i (j - i).toNat)) M
noncomputable def Zm6 (QS:Src->Sto->Prop) (M:Sto) (y:D) (i:Int):Prop:=wI y (Zm5 QS M i)
noncomputable def Zm7 (QS:Src->Sto->Prop) (M:Sto) (x y:D):Prop:=wI x (Zm6 QS M y)
noncomputable def kS2 (QS:Src->Sto->Prop) (ds:List D) (M:Sto):Prop:=w2 ds (Zm7 QS M)
theorem Zox:wO (iR2 fs ρ M) QS E=wO (fs ρ M) (kS2 QS) E:=Zoi
noncomputable def oSq (d:D) (M:Sto):Out Src:=match d with | .tup ds=> .ok (.pur ds) M | .rol ds=> .ok (.pur ds) M | .con ds=> .ok (.pur ds) M | .ref n=> .ok (.sto n) M | _=> .bad
theorem Zoy:wO (iSq f ρ M) QS E=wO (f ρ M) (kU oSq QS E) E:=by unfold iSq;exact Zk
theorem Zl7:wO (oSq (.tup xs) M) QS E=QS (.pur xs) M:=rfl
theorem Zl8:wO (oSq (.rol xs) M) QS E=QS (.pur xs) M:=rfl
theorem Zl9:wO (oSq (.ref n) M) QS E=QS (.sto n) M:=rfl
noncomputable def Zm8 (QS:Src->Sto->Prop) (M:Sto) (d:D):Prop:=wR d (kQ QS .enu M)
noncomputable def kEn (QS:Src->Sto->Prop) (ds:List D) (M:Sto):Prop:=w1 ds (Zm8 QS M)
theorem Zoz:wO (iEn fs ρ M) QS E=wO (fs ρ M) (kEn QS) E:=Zoj
noncomputable def Zm9 (QS:Src->Sto->Prop) (M:Sto) (y:D) (n:Nat):Prop:=wR y (kQ QS (.zip n) M)
noncomputable def Zna (QS:Src->Sto->Prop) (M:Sto) (x y:D):Prop:=wR x (Zm9 QS M y)
noncomputable def kZp (QS:Src->Sto->Prop) (ds:List D) (M:Sto):Prop:=w2 ds (Zna QS M)
theorem ZoA:wO (iZp fs ρ M) QS E=wO (fs ρ M) (kZp QS) E:=Zok
noncomputable def Znb (QS:Src->Sto->Prop) (n:Nat) (M:Sto) (xs:List D):Prop:=QS (.rev n xs.length) M
noncomputable def Znc (QS:Src->Sto->Prop) (M:Sto) (n:Nat):Prop:=wL M[n]? (Znb QS n M)
noncomputable def Znd (QS:Src->Sto->Prop) (M:Sto) (d:D):Prop:=wR d (Znc QS M)
noncomputable def kRv (QS:Src->Sto->Prop) (ds:List D) (M:Sto):Prop:=w1 ds (Znd QS M)
theorem ZoB:wO (iRv fs ρ M) QS E=wO (fs ρ M) (kRv QS) E:=Zol
noncomputable def Zkg (xs:List D) (M:Sto) (Q:D->Sto->Prop) (ys:List D):Prop:=xs.length + ys.length<=10000000/\Q (.ref M.length) (M ++ [.lst (xs ++ ys)])
noncomputable def Zne (m:Nat) (M:Sto) (Q:D->Sto->Prop) (xs:List D):Prop:=wL M[m]? (Zkg xs M Q)
theorem Zma:wO (dAdd (.ref n) (.ref m) M) Q E=wL M[n]? (Zne m M Q):=Zlo
noncomputable def ZkE (i:Int) (M:Sto) (Q:D->Sto->Prop) (xs:List D):Prop:=((-9223372036854775808<=i/\i < 9223372036854775808)/\xs.length * i.toNat<=100000)/\Q (.ref M.length) (M ++ [.lst (List.replicate i.toNat xs).flatten])
theorem Zmb:wO (ZnW (.ref n) (.int i) M) Q E=wL M[n]? (ZkE i M Q):=by
 show wO (match M[n]? with | some (.lst xs)=>if (-9223372036854775808<=i/\i < 9223372036854775808)/\xs.length * i.toNat<=100000 then Out.ok (.ref M.length) (M ++ [.lst (List.replicate i.toNat xs).flatten]) else .bad | none=> .bad) Q E=_
 cases e1:M[n]? with
 |none=>rfl
 |some o=>
  cases o with
  |lst xs=>
   show wO (if (-9223372036854775808<=i/\i < 9223372036854775808)/\xs.length * i.toNat<=100000 then Out.ok (.ref M.length) (M ++ [.lst (List.replicate i.toNat xs).flatten]) else .bad) Q E=ZkE i M Q xs
   unfold ZkE
   by_cases h:(-9223372036854775808<=i/\i < 9223372036854775808)/\xs.length * i.toNat<=100000
   ·rw[if_pos h];simp only[eq_true h,true_and];rfl
   ·rw[if_neg h];simp only[eq_false h,false_and];rfl
noncomputable def kEq (Q:D->Sto->Prop) (M:Sto) (b:Bool):Prop:=Q (.bl b) M
noncomputable def kNe (Q:D->Sto->Prop) (M:Sto) (b:Bool):Prop:=Q (.bl (!b)) M
theorem ZoC:wO (dEq x y M) Q E=wG (eqF 12 M x y) (kEq Q M):=Zoa
theorem ZoD:wO (dNe x y M) Q E=wG (eqF 12 M x y) (kNe Q M):=Zob
theorem ZoE:wO (dIs x y M) Q E=wG (isP x y) (kEq Q M):=Zoc
theorem Zmc:wO (Zf3 x y M) Q E=wG (isP x y) (kNe Q M):=Zlp
theorem Zmd:wO (ZmL x y M) Q E=wG (inE x y M) (kEq Q M):=by unfold ZmL;cases inE x y M<;>rfl
theorem ZfO:wO (ZeB x y M) Q E=wG (inE x y M) (kNe Q M):=by unfold ZeB;cases inE x y M<;>rfl
theorem Zme:wO (dIx (.tup xs) (.int i) M) Q E=wG (atI xs i) (kQ Q id M):=Zlq
theorem Zmf:wO (dIx (.rol xs) (.int i) M) Q E=wG (atI xs i) (kQ Q id M):=Zlr
noncomputable def kIx (i:Int) (Q:D->Sto->Prop) (M:Sto) (xs:List D):Prop:=wG (atI xs i) (kQ Q id M)
theorem Zmg:wO (dIx (.ref n) (.int i) M) Q E=wL M[n]? (kIx i Q M):=Zls
noncomputable def Znf (Q:D->Sto->Prop) (M:Sto) (xs:List D):Prop:=Q (.int xs.length) M
theorem Zkh:wO (bLen [.ref n] M) Q E=wL M[n]? (Znf Q M):=Zjx
noncomputable def kLi (Q:D->Sto->Prop) (M:Sto) (xs:List D):Prop:=Q (.ref M.length) (M ++ [.lst xs])
theorem ZhD:wO (ZgR [.ref n] M) Q E=wL M[n]? (kLi Q M):=Zht
noncomputable def Zng (Q:D->Sto->Prop) (M:Sto) (bs:List Bool):Prop:=Q (.bl (bs.all id)) M
noncomputable def kAl (Q:D->Sto->Prop) (M:Sto) (xs:List D):Prop:=wG (Za0 xs) (Zng Q M)
theorem Zmh:wO (ZmI [.ref n] M) Q E=wL M[n]? (kAl Q M):=Zlw
noncomputable def Znh (g:List Int->Option Int) (Q:D->Sto->Prop) (M:Sto) (ns:List Int):Prop:=wG (g ns) (kQ Q .int M)
noncomputable def Zni (g:List Int->Option Int) (Q:D->Sto->Prop) (M:Sto) (xs:List D):Prop:=wG (Zck xs) (Znh g Q M)
theorem Zki {gi:List Int->Option Int}:wO (Zi5 gi [.ref n] M) Q E=wL M[n]? (Zni gi Q M):=ZjC
noncomputable def kMt (g:Me) (fs:Av) (ρ:Ro) (Q:D->Sto->Prop) (E:Str->Sto->Prop) (x:D) (M:Sto):Prop:=Zg6 x M=true/\wO (fs ρ M) (kU (g x) Q E) E
theorem ZoF {me:Me} {fo:Ev}:wO (Zgb me fo fs ρ M) Q E=wO (fo ρ M) (kMt me fs ρ Q E) E:=Zod
noncomputable def Znj (n:Nat) (d:D) (Q:D->Sto->Prop) (M:Sto) (xs:List D):Prop:=xs.length < 10000000/\Q .non (M.set n (.lst (xs ++ [d])))
theorem Zmi:wO (mApp (.ref n) [d] M) Q E=wL M[n]? (Znj n d Q M):=Zlx
noncomputable def Znk (n:Nat) (Q:D->Sto->Prop) (M:Sto) (xs:List D):Prop:=Q .non (M.set n (.lst []))
theorem Zmj:wO (ZmJ (.ref n) [] M) Q E=wL M[n]? (Znk n Q M):=Zly
noncomputable def Zkj (n:Nat) (xs:List D) (Q:D->Sto->Prop) (M:Sto) (ys:List D):Prop:=xs.length + ys.length<=10000000/\Q .non (M.set n (.lst (xs ++ ys)))
noncomputable def Znl (n m:Nat) (Q:D->Sto->Prop) (M:Sto) (xs:List D):Prop:=wL M[m]? (Zkj n xs Q M)
theorem Zmk:wO (ZmK (.ref n) [.ref m] M) Q E=wL M[n]? (Znl n m Q M):=Zlz
noncomputable def ZhE (Q:D->Sto->Prop) (M:Sto) (bs:List Bool):Prop:=wG (bs.findIdx? id) (kQ Q (fun (j:Nat)=> .int j) M)
noncomputable def Znm (d:D) (Q:D->Sto->Prop) (M:Sto) (xs:List D):Prop:=wG (eqs M d xs) (ZhE Q M)
theorem Zml:wO (ZnT (.ref n) [d] M) Q E=wL M[n]? (Znm d Q M):=by
 show wO (match M[n]? with | some (.lst xs)=>(match eqs M d xs with | some bs=>(match bs.findIdx? id with | some j=>Out.ok (.int (j:Nat)) M | none=> .bad) | none=> .bad) | none=> .bad) Q E=_
 cases e1:M[n]? with
 |none=>rfl
 |some o=>
  cases o with
  |lst xs=>
   show wO (match eqs M d xs with | some bs=>(match bs.findIdx? id with | some j=>Out.ok (.int (j:Nat)) M | none=> .bad) | none=> .bad) Q E=wG (eqs M d xs) (ZhE Q M)
   cases eqs M d xs with
   |none=>rfl
   |some bs=>
    show wO (match bs.findIdx? id with | some j=>Out.ok (.int (j:Nat)) M | none=> .bad) Q E=wG (bs.findIdx? id) _
    cases bs.findIdx? id<;>rfl
noncomputable def kCn (Q:D->Sto->Prop) (M:Sto) (bs:List Bool):Prop:=Q (.int (bs.countP id:Nat)) M
noncomputable def Znn (d:D) (Q:D->Sto->Prop) (M:Sto) (xs:List D):Prop:=wG (eqs M d xs) (kCn Q M)
theorem Zkk:wO (ZnU (.ref n) [d] M) Q E=wL M[n]? (Znn d Q M):=by
 show wO (match M[n]? with | some (.lst xs)=>(match eqs M d xs with | some bs=>Out.ok (.int (bs.countP id:Nat)) M | none=> .bad) | none=> .bad) Q E=_
 cases e1:M[n]? with
 |none=>rfl
 |some o=>
  cases o with
  |lst xs=>
   show wO (match eqs M d xs with | some bs=>Out.ok (.int (bs.countP id:Nat)) M | none=> .bad) Q E=wG (eqs M d xs) (kCn Q M)
   cases eqs M d xs<;>rfl
noncomputable def Zno (l u:Option Int) (Q:D->Sto->Prop) (M:Sto) (xs:List D):Prop:=Q (.ref M.length) (M ++ [.lst (ZcK xs l u)])
noncomputable def Znp (x:D) (l:Option Int) (Q:D->Sto->Prop) (E:Str->Sto->Prop) (u:Option Int) (M:Sto):Prop:=wO (slR x l u M) Q E
noncomputable def Znq (x:D) (hi:Ro->Sto->Out (Option Int)) (ρ:Ro) (Q:D->Sto->Prop) (E:Str->Sto->Prop) (l:Option Int) (M:Sto):Prop:=wO (hi ρ M) (Znp x l Q E) E
noncomputable def Znr (lo hi:Ro->Sto->Out (Option Int)) (ρ:Ro) (Q:D->Sto->Prop) (E:Str->Sto->Prop) (x:D) (M:Sto):Prop:=wO (lo ρ M) (Znq x hi ρ Q E) E
theorem ZoG {lo hi:Ro->Sto->Out (Option Int)}:wO (eSl f lo hi ρ M) Q E=wO (f ρ M) (Znr lo hi ρ Q E) E:=ZlA
theorem Zmm {l u':Option Int}:wO (slR (.ref n) l u' M) Q E=wL M[n]? (Zno l u' Q M):=ZlB
theorem Zmn {QI:Option Int->Sto->Prop}:wO (oNo ρ M) QI E=QI none M:=rfl
noncomputable def Zns (Q:Option Int->Sto->Prop) (x:D) (M:Sto):Prop:=wI x (kQ Q some M)
theorem Zmo {QI:Option Int->Sto->Prop}:wO (oSo f ρ M) QI E=wO (f ρ M) (Zns QI) E:=ZlC
noncomputable def oRv (x:D) (M1:Sto):Out D:=match x with | .tup xs=> .ok (.tup xs.reverse) M1 | .ref n=>(match M1[n]? with | some (.lst xs)=> .ok (.ref M1.length) (M1 ++ [.lst xs.reverse]) | none=> .bad) | .rol xs=> .ok (.ref M1.length) (M1 ++ [.lst xs.reverse]) | _=> .bad
theorem ZoH:wO (eRv f ρ M) Q E=wO (f ρ M) (kU oRv Q E) E:=by unfold eRv;exact Zk
noncomputable def Znt (Q:D->Sto->Prop) (M:Sto) (xs:List D):Prop:=Q (.ref M.length) (M ++ [.lst xs.reverse])
theorem Zmp:wO (oRv (.ref n) M) Q E=wL M[n]? (Znt Q M):=by show wO (match M[n]? with | some (.lst xs)=>Out.ok (.ref M.length) (M ++ [.lst xs.reverse]) | none=> .bad) Q E=_;cases M[n]? with | none=>rfl | some o=>cases o with | lst xs=>rfl
theorem Zmq:wO (oRv (.tup xs) M) Q E=Q (.tup xs.reverse) M:=rfl
noncomputable def Znu (tab:List (Str × Bool)) (x:D) (M:Sto):Out D:=match x with | .err c _=>(match tab.lookup c with | some b=> .ok (.bl b) M | none=> .bad) | _=> .bad
theorem Zmr {tab:List (Str × Bool)}:wO (Za4 tab f ρ M) Q E=wO (f ρ M) (kU (Znu tab) Q E) E:=by unfold Za4;exact Zk
theorem Zkl {tab:List (Str × Bool)} {c:Str}:wO (Znu tab (.err c xs) M) Q E=wG (tab.lookup c) (kEq Q M):=by show wO (match tab.lookup c with | some b=>Out.ok (.bl b) M | none=> .bad) Q E=_;cases tab.lookup c<;>rfl
noncomputable def kWh (bd:Sv) (ρ:Ro) (I:Ro->Sto->Prop) (N:Ro->Sto->Prop) (R:D->Sto->Prop) (B C:Ro->Sto->Prop) (E:Str->Sto->Prop) (k:Bool) (M:Sto):Prop:=Br k (wS (bd ρ M) I R N I E) (N ρ M)
theorem Zms {c:Tv} (I:Nat->Ro->Sto->Prop) (st: ∀ n ρ M,I n ρ M->wO (c ρ M) (kWh bd ρ (fun ρ2 M2=> ∃ m,m < n/\I m ρ2 M2) N R B C E) E) (n:Nat) (ρ:Ro) (M:Sto) (h:I n ρ M):wS (sWh c bd ρ M) N R B C E:=ZfE I st n ρ M h
theorem Zmt {I:Ro->Sto->Prop} {p:Prop} [Decidable p] (h1:p->wS (bd ρ M) I R N I E) (h2: ¬ p->N ρ M):kWh bd ρ I N R B C E (decide p) M:=brD h1 h2
end
end DL
end
section
namespace DL
noncomputable abbrev Pt:=Int × Int
noncomputable def X (p q:Pt):Int:=p.1 * q.2 - p.2 * q.1
section
variable {rs:List Pt} {i j:Int} {k n:Nat} {p:Pt}
theorem Zdg {α:Type} {l:List α} {n:Nat} {d:α} (h:n < l.length):l.getD n d=l[n]:=by simp[List.getElem?_eq_getElem h]
theorem ZeN {m:Nat} (h:m≠0):(i % m).toNat < m/\0<=i % m:=by
 have:=Int.emod_lt_of_pos i (show (0:Int) < m by omega)
 have:=Int.emod_nonneg i (show (m:Int)≠0 by omega)
 omega
theorem Zgf {f:Pt->Pt} (h:rs≠[]):cy (rs.map f) i=f (cy rs i):=by
 have hl:rs.length≠0:=by simpa using h
 unfold cy
 rw[List.length_map,Zdg (by rw[List.length_map];exact (ZeN hl).1),Zdg (ZeN hl).1,List.getElem_map]
noncomputable def cc (f:Pt->Pt->Nat):List Pt->Nat
 |a :: b :: r=>f a b + cc f (b :: r)
 |_=>0
noncomputable def cyc (f:Pt->Pt->Nat) (rs:List Pt):Nat:=cc f (rs ++ rs.take 1)
theorem Zgg {f:Pt->Pt->Nat} {g:Pt->Pt}: ∀ (L:List Pt),cc f (L.map g)=cc (fun a b=>f (g a) (g b)) L
 | []=>rfl
 | [_]=>rfl
 |a :: b :: L=>by
  have:=Zgg (f:=f) (g:=g) (b :: L)
  simp only[List.map_cons,cc] at this ⊢
  omega
theorem ZeO {f:Pt->Pt->Nat} {g:Pt->Pt} (L:List Pt):cyc f (L.map g)=cyc (fun a b=>f (g a) (g b)) L:=by
 unfold cyc
 rw[<- List.map_take,<- List.map_append,Zgg]
noncomputable def in1 (w a b:Pt):Nat:=if 0<=X a w/\0 < X w b then 1 else 0
noncomputable def in2 (w a b:Pt):Nat:=if 0 < X a w/\0<=X w b then 1 else 0
noncomputable def Fan (rs:List Pt):Prop:= ∀ w:Pt,w≠(0,0)->cyc (in1 w) rs=1/\cyc (in2 w) rs=1
theorem Zmu {p q:Pt}:X p q=0 - X q p:=by unfold X;grind
theorem Zkm {f:Pt->Pt} {s:Int} (hs:s=1\/s= -1) (hf: ∀ p q,X (f p) (f q)=s * X p q) (w:Pt) (hw:w≠(0,0)): ∃ w':Pt,w'≠(0,0)/\ ∀ a,X (f a) w=s * X a w':=by
 have d:=hf (1,0) (0,1)
 have d1:X (f (1,0)) (f (0,1))=s:=by rw[d];simp[X]
 have lin: ∀ a,(f a).1=a.1 * (f (1,0)).1 + a.2 * (f (0,1)).1/\(f a).2=a.1 * (f (1,0)).2 + a.2 * (f (0,1)).2:=by
  intro a
  have h1:=hf a (1,0)
  have h2:=hf a (0,1)
  generalize f a=u at *
  generalize f (1,0)=e1 at *
  generalize f (0,1)=e2 at *
  unfold X at *
  rcases hs with rfl | rfl<;>constructor<;>grind
 refine ⟨(X w (f (0,1)) * s,X (f (1,0)) w * s),?_,?_⟩
 ·intro z
  apply hw
  have z1:=congrArg Prod.fst z
  have z2:=congrArg Prod.snd z
  simp only at z1 z2
  generalize f (1,0)=e1 at *
  generalize f (0,1)=e2 at *
  unfold X at *
  apply Prod.ext
  ·rcases hs with rfl | rfl<;>simp only[]<;>grind
  ·rcases hs with rfl | rfl<;>simp only[]<;>grind
 ·intro a
  obtain ⟨l1,l2⟩:=lin a
  unfold X
  rw[l1,l2]
  rcases hs with rfl | rfl<;>simp only[]<;>grind
theorem Fan.map (h:Fan rs) {f:Pt->Pt} (hf: ∀ p q,X (f p) (f q)=X p q):Fan (rs.map f):=fun w hw=>by
 obtain ⟨w',hw',e⟩:=Zkm (s:=1) (.inl rfl) (fun p q=>by rw[hf,Int.one_mul]) w hw
 have e2: ∀ a,X w (f a)=X w' a:=fun a=>by rw[Zmu,e,Zmu (p:=w')];omega
 have c1: ∀ a b,in1 w (f a) (f b)=in1 w' a b:=fun a b=>by unfold in1;rw[e,e2,Int.one_mul]
 have c2: ∀ a b,in2 w (f a) (f b)=in2 w' a b:=fun a b=>by unfold in2;rw[e,e2,Int.one_mul]
 rw[ZeO,ZeO,show (fun a b=>in1 w (f a) (f b))=in1 w' from funext fun a=>funext fun b=>c1 a b,show (fun a b=>in2 w (f a) (f b))=in2 w' from funext fun a=>funext fun b=>c2 a b]
 exact h w' hw'
structure Smo (rs:List Pt):Prop where
 len:3<=rs.length
 one: ∀ i:Int,X (cy rs i) (cy rs (i + 1))=1
 fan:Fan rs
theorem Smo.ne (h:Smo rs):rs≠[]:=by
 intro z
 have:=h.len
 rw[z] at this
 simp at this
theorem Smo.map (h:Smo rs) {f:Pt->Pt} (hf: ∀ p q,X (f p) (f q)=X p q):Smo (rs.map f):=by
 refine ⟨by have:=h.len;simp;omega,fun i=> ?_,h.fan.map hf⟩
 rw[Zgf h.ne,Zgf h.ne,hf]
 exact h.one i
end
end DL
end
section
namespace CC
open PySem PySem.Spec L2 DL
noncomputable def Z8:Sv:=(ZaP (e2 dSub (e2 dMul (e2 dIx (Zg 0) (eC (.int 0))) (e2 dIx (Zg 1) (eC (.int 1)))) (e2 dMul (e2 dIx (Zg 0) (eC (.int 1))) (e2 dIx (Zg 1) (eC (.int 0))))))
noncomputable def F_crossed:List D->Sto->Out D:=fnF Z8 2 0
end CC
end
open PySem PySem.Spec L2 DL
set_option hygiene false
set_option compiler.extract_closed false
local macro_rules | `(tactic| simp! [$ls,*]) => `(tactic| simp (implicitDefEqProofs := false) (disch := omega) only [Zom, y_c, y_v, ZjY, ZlM, ZjZ, ZlN, ZlO, ZlP, Zj0, ZlR, Zj1, Zon, Zoo, Zop, ZlS, Zoq, ZlT, Zj2, ZlU, Zj3, Zor, ZlV, Zos, Zj4, ZlW, Zj5, ZlX, Zj6, ZlY, ZlZ, Zl0, Zj7, Zj8, Zot, Zou, Zl1, Zl2, Zj9, Zl3, Zl4, ZhC, Zka, Zkb, Zl5, Zkc, Zkd, Zke, Zl6, Zkf, Zow, Zox, Zoy, Zl7, Zl8, Zl9, Zoz, ZoA, ZoB, Zma, Zmb, ZoC, ZoD, ZoE, Zmc, Zmd, ZfO, Zme, Zmf, Zmg, Zkh, ZhD, Zmh, Zki, ZoF, Zmi, Zmj, Zmk, Zml, Zkk, ZoG, Zmm, Zmn, Zmo, ZoH, Zmp, Zmq, Zmr, Zkl, kU, kQ, kB2, kB1, kA2, kA1, kTu, kLs, kTy, kIf, kTA, kTO, kTN, kSq, kDr, kSi, kAs, kAt, ZmR, kPa, ZmS, ZmT, ZmU, ZmV, ZmW, ZmX, kPu, kRa, ZmY, ZmZ, kR1, Zm0, Zm1, Zm2, kR2, kFo, kFs, kTr, Zm3, Zm4, kS1, Zm5, Zm6, Zm7, kS2, Zm8, kEn, Zm9, Zna, kZp, Znb, Znc, Znd, kRv, Zkg, Zne, ZkE, kEq, kNe, kIx, Znf, kLi, Zng, kAl, Znh, Zni, kMt, Znj, Znk, Zkj, Znl, ZhE, Znm, kCn, Znn, Zno, Znp, Znq, Znr, Zns, Znt, ZfG, ZfH, Zhx, ZfK, ZfL, ZfI, ZfJ, Zhy, ZfN, ZfM, ZhA, Zhz, ZjL, decide_eq_true, decide_eq_false, wF1, wF2, wF3, wF4, Zo, Zji, ZnZ, Zn0, Zn1, Zn2, Zn3, Zn4, ZnX, ZnY, Zli, Zlj, Zlk, Zjv, Zll, Zlm, Zln, Zn6, Zn7, Zn8, Zn9, Zjw, Zjy, Zjz, Zlt, Zlu, Zlv, ZjA, ZjB, Zhu, ZjD, ZjE, ZfF, ZlI, ZlJ, ZlK, ZlL, id, roB, at0, at1, at2, at3, gTp, gCs, gNl, gNm, List.set_cons_zero, List.set_cons_succ, List.getElem?_cons_zero, List.getElem?_cons_succ, List.length_cons, List.length_nil, List.length_append, List.length_map, List.map_cons, List.map_nil, List.cons_append, List.nil_append, List.append_assoc, List.append_nil, List.replicate_succ, List.replicate_zero, Option.join_some, Option.isSome_some, ZlD, Zoe, ZcM, ZjF, ZlE, ZjG, ZjH, Zhv, Zhw, ZlF, Zof, Zog, ZjI, ZlH, ZjJ, ZjK, ZjM, ZjN, ZjO, ZjP, ZjQ, ZjR, ZjS, ZjT, ZjU, ZjV, ZjW, ZjX, true_and, and_true, Bool.not_true, Bool.not_false, decide_true, decide_false, Nat.reduceAdd, Nat.reduceLeDiff, Nat.reduceLT, Nat.add_zero, Nat.zero_add, Int.reducePow, Int.reduceToNat, Int.reduceNeg, Int.reduceMod, Int.reduceDiv, Int.reduceAdd, Int.reduceSub, Int.reduceMul, Int.cast_ofNat_Int, Int.reduceEq, Int.reduceLT, Int.reduceLE, $ls,*])
set_option hygiene true
section
namespace CC
open PySem PySem.Spec L2 DL
section
variable {Q:D->Sto->Prop} {E:Str->Sto->Prop} {M:Sto} {a b c d i:Int} {n:Nat} {rs:List Pt}
end
end CC
end
section
namespace DL
noncomputable def T (rs:List Pt) (i:Int):Int:=0 - X (cy rs (i - 1)) (cy rs (i + 1))
section
variable {rs:List Pt} {k:Nat} {p:Pt} {j:Int}
end
end DL
namespace CC
open PySem PySem.Spec L2 DL
section
variable {Q:D->Sto->Prop} {E:Str->Sto->Prop} {M:Sto} {a b c d i:Int} {n:Nat} {rs:List Pt}
end
end CC
end
section
namespace DL
section
variable {rs:List Pt} {k:Nat} {p:Pt} {j:Int}
theorem Zkn (p q:Pt):X p q=0 - X q p:=by unfold X;grind
end
end DL
end
section
end
section
namespace CE
open PySem PySem.Spec L2 DL
end CE
end
section
namespace CE
open PySem PySem.Spec L2 DL
section
variable {Q:D->Sto->Prop} {E:Str->Sto->Prop} {M:Sto} {a b c d i:Int} {n:Nat} {rs:List Pt}
end
end CE
end
section
namespace CF
open PySem PySem.Spec L2 DL CC
end CF
end
section
namespace CF
open PySem PySem.Spec L2 DL
section
variable {Q:D->Sto->Prop} {E:Str->Sto->Prop} {M:Sto} {a b c d i:Int} {n:Nat} {rs:List Pt}
end
end CF
end
section
namespace DL
open PySem PySem.Spec L2 DL
section
variable {M:Sto}
end
end DL
end
section
namespace CB
open PySem PySem.Spec L2 DL
noncomputable def Z8:Sv:=(ZaP (e2 dSub (e2 dMul (e2 dIx (Zg 0) (eC (.int 0))) (e2 dIx (Zg 1) (eC (.int 1)))) (e2 dMul (e2 dIx (Zg 0) (eC (.int 1))) (e2 dIx (Zg 1) (eC (.int 0))))))
noncomputable def F_crossed:List D->Sto->Out D:=fnF Z8 2 0
noncomputable def Za1:Sv:=(ZS (Zao (gNm 5) (e2 dDiv (Zg 1) (Zg 2)))
 (ZS (ZcI 1 2 (Zc (Zg 2) (Zc (e2 dSub (Zg 1) (e2 dMul (Zg 5) (Zg 2))) aNil)))
 (ZcI 3 4 (Zc (Zg 4) (Zc (ZaO (Zc (e2 dSub (e2 dIx (Zg 3) (eC (.int 0))) (e2 dMul (Zg 5) (e2 dIx (Zg 4) (eC (.int 0))))) (Zc (e2 dSub (e2 dIx (Zg 3) (eC (.int 1))) (e2 dMul (Zg 5) (e2 dIx (Zg 4) (eC (.int 1))))) aNil))) aNil)))))
noncomputable def Zcp:Sv:=(ZS (Zao (gTp (gCs (gNm 1) (gCs (gNm 2) gNl))) (Zg 0))
 (ZS (Zao (gTp (gCs (gNm 3) (gCs (gNm 4) gNl))) (ZaO (Zc (ZaO (Zc (eC (.int 0)) (Zc (eC (.int 1)) aNil))) (Zc (ZaO (Zc (ZhJ (eC (.int 1))) (Zc (eC (.int 0)) aNil))) aNil))))
 (ZS (sWh (tv (e2 dNe (Zg 2) (eC (.int 0)))) Za1)
 (ZaP (ZaO (Zc (e2 dMul (Zg 1) (e2 dIx (Zg 3) (eC (.int 0)))) (Zc (e2 dMul (Zg 1) (e2 dIx (Zg 3) (eC (.int 1)))) aNil)))))))
noncomputable def F_partner:List D->Sto->Out D:=fnF Zcp 1 5
noncomputable def Zas:Sv:=(ZS (Zao (gNm 2) (Zq F_partner (Zc (Zg 0) aNil)))
 (ZS (Zao (gNm 3) (e2 dDiv (Zq F_crossed (Zc (Zg 2) (Zc (Zg 1) aNil))) (Zq F_crossed (Zc (Zg 0) (Zc (Zg 1) aNil)))))
 (ZaP (ZaO (Zc (e2 dSub (e2 dIx (Zg 2) (eC (.int 0))) (e2 dMul (Zg 3) (e2 dIx (Zg 0) (eC (.int 0))))) (Zc (e2 dSub (e2 dIx (Zg 2) (eC (.int 1))) (e2 dMul (Zg 3) (e2 dIx (Zg 0) (eC (.int 1))))) aNil))))))
noncomputable def F_first_behind:List D->Sto->Out D:=fnF Zas 2 2
noncomputable def ZaH:Sv:=(ZS (Zao (gNm 3) (ZhJ (e2 dDiv (ZhJ (Zg 0)) (Zg 1))))
 (ZS (Zcd (Zgb mApp (Zg 2) (Zc (Zg 3) aNil)))
 (ZcI 0 1 (Zc (Zg 1) (Zc (e2 dSub (e2 dMul (Zg 3) (Zg 1)) (Zg 0)) aNil)))))
noncomputable def ZbF:Sv:=(ZS (Zao (gNm 2) (Zdr aNil))
 (ZS (sWh (tv (e2 dNe (Zg 1) (eC (.int 0)))) ZaH)
 (ZaP (Zg 2))))
noncomputable def F_expanded:List D->Sto->Out D:=fnF ZbF 2 2
noncomputable def ZhF:Sv:=(ZS (sIf (tv (e2 dLe (Zq F_crossed (Zc (Zg 0) (Zc (Zg 1) aNil))) (eC (.int 0)))) (ZbA (PySem.Str.ofString "NoWedge") (Zc (eC (.str (PySem.Str.ofString "the two rays of a wedge, crossed, come to more than 0"))) aNil)) sNil)
 (ZaP (Zq F_expanded (Zc (Zq F_crossed (Zc (Zg 0) (Zc (Zg 1) aNil))) (Zc (Zq F_crossed (Zc (Zq F_first_behind (Zc (Zg 0) (Zc (Zg 1) aNil))) (Zc (Zg 1) aNil))) aNil)))))
noncomputable def F_row:List D->Sto->Out D:=fnF ZhF 2 0
noncomputable def Za2:Sv:=(ZS (Zcd (Zgb mApp (Zg 3) (Zc (Zg 5) aNil)))
 (ZcI 4 5 (Zc (Zg 5) (Zc (ZaO (Zc (e2 dSub (e2 dMul (Zg 6) (e2 dIx (Zg 5) (eC (.int 0)))) (e2 dIx (Zg 4) (eC (.int 0)))) (Zc (e2 dSub (e2 dMul (Zg 6) (e2 dIx (Zg 5) (eC (.int 1)))) (e2 dIx (Zg 4) (eC (.int 1)))) aNil))) aNil))))
noncomputable def Zbk:Sv:=(ZS (Zao (gNm 2) (Zq F_row (Zc (Zg 0) (Zc (Zg 1) aNil))))
 (ZS (Zao (gNm 3) (Zdr aNil))
 (ZS (ZcI 4 5 (Zc (Zg 0) (Zc (Zq F_first_behind (Zc (Zg 0) (Zc (Zg 1) aNil))) aNil)))
 (ZS (ZhL (gNm 6) (Zg 2) Za2)
 (ZaP (Zg 3))))))
noncomputable def F_between:List D->Sto->Out D:=fnF Zbk 2 5
noncomputable def ZbG:Sv:=(Zcd (Zgb mApp (Zg 3) (Zc (ZaO (Zc (e2 dSub (e2 dIx (Zg 5) (eC (.int 1))) (e2 dIx (Zg 4) (eC (.int 1)))) (Zc (e2 dSub (e2 dIx (Zg 4) (eC (.int 0))) (e2 dIx (Zg 5) (eC (.int 0)))) aNil))) aNil)))
noncomputable def ZcN:Sv:=(ZS (Zao (gNm 2) (e2 dAdd (Zq F_between (Zc (Zg 0) (Zc (Zg 1) aNil))) (Zdr (Zc (Zg 1) aNil))))
 (ZS (Zao (gNm 3) (Zdr aNil))
 (ZS (Zft (gTp (gCs (gNm 4) (gCs (gNm 5) gNl))) (iZp (Zc (Zg 2) (Zc (eSl (Zg 2) (oSo (eC (.int 1))) oNo) aNil))) ZbG)
 (ZaP (Zg 3)))))
noncomputable def F_shows:List D->Sto->Out D:=fnF ZcN 2 4
noncomputable def Zau:Sv:=(ZS (Zao (gNm 2) (eC (.int 0)))
 (ZS (sIf (tv (e2 dLt (Zg 1) (Zq bLen (Zc (Zg 0) aNil)))) (Zao (gNm 2) (e2 dIx (Zg 0) (Zg 1))) sNil)
 (ZS (Zao (gNm 3) (e2 dMod (Zg 2) (e2 dMul (e2 dPow (eC (.int 10)) (eC (.int 60))) (e2 dPow (eC (.int 10)) (eC (.int 30))))))
 (ZaP (Zdr (Zc (e2 dMul (Zg 3) (Zq bInt (Zc (e2 dGe (Zg 3) (e2 dPow (eC (.int 10)) (eC (.int 18)))) aNil))) (Zc (e2 dAdd (e2 dAdd (e2 dMod (Zg 2) (eC (.int 2147483647))) (e2 dMul (eC (.int 7919)) (Zg 1))) (eC (.int 1))) aNil)))))))
noncomputable def F_law_purse:List D->Sto->Out D:=fnF Zau 2 2
noncomputable def ZaT:Sv:=(ZS (sIf (tv (e2 dGt (e2 dIx (Zg 0) (eC (.int 0))) (eC (.int 0)))) (ZS (Zao (gNm 2) (e2 dMod (e2 dIx (Zg 0) (eC (.int 0))) (Zg 1)))
 (ZS (ZhK (Zg 0) (eC (.int 0)) (e2 dDiv (e2 dIx (Zg 0) (eC (.int 0))) (Zg 1)))
 (ZaP (Zg 2)))) sNil)
 (ZS (ZhK (Zg 0) (eC (.int 1)) (e2 dMod (e2 dAdd (e2 dMul (e2 dIx (Zg 0) (eC (.int 1))) (eC (.int 48271))) (eC (.int 12345))) (eC (.int 2147483647))))
 (ZaP (e2 dMod (e2 dDiv (e2 dMod (e2 dMul (e2 dIx (Zg 0) (eC (.int 1))) (eC (.int 69621))) (eC (.int 2147483629))) (eC (.int 5))) (Zg 1)))))
noncomputable def F_law_take:List D->Sto->Out D:=fnF ZaT 2 1
noncomputable def ZaI:Sv:=(ZaP (e2 dSub (e2 dMul (e2 dIx (Zg 0) (eC (.int 0))) (e2 dIx (Zg 1) (eC (.int 1)))) (e2 dMul (e2 dIx (Zg 0) (eC (.int 1))) (e2 dIx (Zg 1) (eC (.int 0))))))
noncomputable def F_law_crossed:List D->Sto->Out D:=fnF ZaI 2 0
noncomputable def Z5:Sv:=(ZcI 1 2 (Zc (Zg 2) (Zc (e2 dMod (Zg 1) (Zg 2)) aNil)))
noncomputable def Zav:Sv:=(ZS (ZcI 1 2 (Zc (Zq bAbs (Zc (e2 dIx (Zg 0) (eC (.int 0))) aNil)) (Zc (Zq bAbs (Zc (e2 dIx (Zg 0) (eC (.int 1))) aNil)) aNil)))
 (ZS (sWh (tv (e2 dGt (Zg 2) (eC (.int 0)))) Z5)
 (ZS (sIf (tv (e2 dEq (Zg 1) (eC (.int 0)))) (ZaP (ZaO (Zc (eC (.int 1)) (Zc (eC (.int 0)) aNil)))) sNil)
 (ZaP (ZaO (Zc (e2 dDiv (e2 dIx (Zg 0) (eC (.int 0))) (Zg 1)) (Zc (e2 dDiv (e2 dIx (Zg 0) (eC (.int 1))) (Zg 1)) aNil)))))))
noncomputable def F_law_short:List D->Sto->Out D:=fnF Zav 1 2
noncomputable def Zaw:Sv:=(ZS (Zao (gNm 1) (e2 dIx (Zdr (Zc (eC (.int 4)) (Zc (eC (.int 12)) (Zc (eC (.int 30)) (Zc (eC (.int 200)) aNil))))) (Zq F_law_take (Zc (Zg 0) (Zc (eC (.int 4)) aNil)))))
 (ZS (Zao (gNm 2) (Zq F_law_short (Zc (ZaO (Zc (e2 dSub (Zq F_law_take (Zc (Zg 0) (Zc (e2 dAdd (e2 dMul (eC (.int 2)) (Zg 1)) (eC (.int 1))) aNil))) (Zg 1)) (Zc (e2 dSub (Zq F_law_take (Zc (Zg 0) (Zc (e2 dAdd (e2 dMul (eC (.int 2)) (Zg 1)) (eC (.int 1))) aNil))) (Zg 1)) aNil))) aNil)))
 (ZS (Zao (gNm 3) (Zq F_law_short (Zc (ZaO (Zc (e2 dSub (Zq F_law_take (Zc (Zg 0) (Zc (e2 dAdd (e2 dMul (eC (.int 2)) (Zg 1)) (eC (.int 1))) aNil))) (Zg 1)) (Zc (e2 dSub (Zq F_law_take (Zc (Zg 0) (Zc (e2 dAdd (e2 dMul (eC (.int 2)) (Zg 1)) (eC (.int 1))) aNil))) (Zg 1)) aNil))) aNil)))
 (ZS (sIf (tv (e2 dLt (Zq F_law_crossed (Zc (Zg 2) (Zc (Zg 3) aNil))) (eC (.int 0)))) (ZcI 2 3 (Zc (Zg 3) (Zc (Zg 2) aNil))) sNil)
 (ZS (sIf (tv (e2 dEq (Zq F_law_crossed (Zc (Zg 2) (Zc (Zg 3) aNil))) (eC (.int 0)))) (Zao (gNm 3) (ZaO (Zc (e2 dSub (eC (.int 0)) (e2 dIx (Zg 2) (eC (.int 1)))) (Zc (e2 dIx (Zg 2) (eC (.int 0))) aNil)))) sNil)
 (ZaP (ZaO (Zc (Zg 2) (Zc (Zg 3) aNil)))))))))
noncomputable def F_law_wedge:List D->Sto->Out D:=fnF Zaw 1 3
end CB
end
section
namespace DL
noncomputable def hj (t b:Int):List Int:=if h:0 < b then -((-t) / b) :: hj b (-((-t) / b) * b - t) else []
termination_by b.toNat
decreasing_by
 have h1:=Int.emod_nonneg (-t) (show b≠0 by omega)
 have h2:=Int.emod_lt_of_pos (-t) h
 have h3:=Int.emod_add_mul_ediv (-t) b
 rw[Int.neg_mul,Int.mul_comm]
 omega
end DL
namespace CB
open PySem PySem.Spec L2 DL
section
variable {Q:D->Sto->Prop} {E:Str->Sto->Prop} {M:Sto} {a b c d i:Int} {n m:Nat} {u v w:Pt}
noncomputable abbrev Bd (b:Int) (p:Pt):Prop:=(-b<=p.1/\p.1<=b)/\ -b<=p.2/\p.2<=b
theorem Zbl (h:Bd 1000000 u\/Bd 1000000 v):wO (F_crossed [pr u.1 u.2,pr v.1 v.2] M) Q E=Q (.int (X u v)) M:=by
 rcases h with h | h
 ·simp![F_crossed,Z8]
  rfl
 ·simp![F_crossed,Z8]
  rfl
structure Wg (u v:Pt):Prop where
 gu:Int.gcd u.1 u.2=1
 gv:Int.gcd v.1 v.2=1
 bu:Bd 1000 u
 bv:Bd 1000 v
 pos:0 < X u v
end
end CB
end
section
namespace CB
open PySem PySem.Spec L2 DL
section
variable {Q:D->Sto->Prop} {E:Str->Sto->Prop} {M:Sto} {a b c d i:Int} {n m:Nat} {u v w:Pt}
theorem ZeP {ns:List Int} {k:Nat} (hk:k < 1000) (q: ∀ a b:Int,0<=a->Q (.ref M.length) (M ++ [.lst [.int a,.int b]])):wO (F_law_purse [.rol (ns.map D.int),.int k] M) Q E:=by
 have big:ZE 1000000000000000000000000000000000000000000000000000000000000 1000000000000000000000000000000:=Zds 300 300 (by decide +kernel) (by decide +kernel) (by decide) (by decide)
 simp![F_law_purse,Zau]
 refine brS (fun h1=> ?_) (fun h1=> ?_)
 ·have h2:k < ns.length:=by simpa using h1
  simp![ZfB h2,Zdf big]
  obtain ⟨l,hl,l0⟩: ∃ l:Int,ns[k] % 1000000000000000000000000000000000000000000000000000000000000000000000000000000000000000000=l/\0<=l:=⟨_,rfl,by omega⟩
  rw[hl]
  refine q _ _ ?_
  split<;>omega
 ·simp![Zdf big]
  exact q _ _ (by omega)
theorem ZaJ {t:Int} (hb:Bag n M) (ht:0 < t/\t < 18446744073709551616) (q: ∀ r M',0<=r->r < t->Gr n M M'->Q (.int r) M'):wO (F_law_take [.ref n,.int t] M) Q E:=by
 obtain ⟨a,b,ha,e⟩:=hb
 have hl:n < M.length:=ZbE e
 have hs: ∀ x,(M.set n x)[n]?=some x:=fun x=>List.getElem?_set_self hl
 have gr: ∀ a' b',0<=a'->Gr n M (M.set n (.lst [.int a',.int b'])):=fun a' b' h=>⟨by simp,⟨a',b',h,hs _⟩,fun k hk _=>by rw[List.getElem?_set_ne (Ne.symm hk)]⟩
 have m1:=Int.emod_nonneg a (show t≠0 by omega)
 have m2:=Int.emod_lt_of_pos a ht.1
 simp![F_law_take,ZaT,e]
 refine brS (fun h1=> ?_) (fun h1=> ?_)
 ·simp![e,ix0]
  exact q _ _ m1 m2 (gr _ _ (Int.ediv_nonneg ha (by omega)))
 ·simp![e,ix1]
  exact q _ _ (Int.emod_nonneg _ (by omega)) (Int.emod_lt_of_pos _ ht.1) (gr _ _ ha)
theorem ZcO {x y B:Int} (hB:1<=B/\B<=1000) (hx: -B<=x/\x<=B) (hy: -B<=y/\y<=B) (q: ∀ w:Pt,Int.gcd w.1 w.2=1->Bd B w->Q (pr w.1 w.2) M):wO (F_law_short [pr x y] M) Q E:=by
 simp![F_law_short,Zav]
 refine Zms (fun k ρ M'=>M'=M/\ ∃ a b:Nat,ρ=[some (pr x y),some (.int a),some (.int b)]/\k=b/\Nat.gcd a b=Int.gcd x y/\a<=1000/\b<=1000) ?_ y.natAbs _ _ ⟨rfl,x.natAbs,y.natAbs,rfl,rfl,rfl,by omega,by omega⟩
 rintro k ρ M ⟨rfl,a,b,rfl,rfl,g,ha,hk'⟩
 simp![Zo]
 refine Zmt (fun h=> ?_) (fun h=> ?_)
 ·simp![Z5]
  have hb:0 < k:=by omega
  have hm:=Nat.mod_lt a hb
  refine ⟨a % k,hm,k,a % k,by rw[Int.natCast_emod],rfl,?_,?_⟩
  ·rw[<- g,Nat.gcd_comm k,<- Nat.gcd_rec,Nat.gcd_comm]
  ·omega
 ·have k0:k=0:=by omega
  subst k0
  rw[Nat.gcd_zero_right] at g
  simp![Zo]
  refine brS (fun hz=> ?_) (fun hz=> ?_)
  ·simp![Zo]
   exact q (1,0) rfl ⟨by simp;omega,by simp;omega⟩
  ·simp![Zo]
   have b1:=Int.natAbs_ediv_le_natAbs x a
   have b2:=Int.natAbs_ediv_le_natAbs y a
   refine q (x / a,y / a) ?_ ⟨by simp only;omega,by simp only;omega⟩
   rw[g]
   exact Int.gcd_ediv_gcd_ediv_gcd (by omega)
theorem sq0 (x:Int):0<=x * x:=by
 by_cases c:0<=x
 ·exact Int.mul_nonneg c c
 ·have:=Int.mul_nonneg (show 0<= -x by omega) (show 0<= -x by omega)
  rw[Int.neg_mul_neg] at this
  exact this
theorem ZkF (hu:Bd 200 u) (hv:Bd 200 v): -80000<=X u v/\X u v<=80000:=by
 obtain ⟨⟨a1,a2⟩,a3,a4⟩:=hu
 obtain ⟨⟨b1,b2⟩,b3,b4⟩:=hv
 have m: ∀ x y:Int,-200<=x->x<=200-> -200<=y->y<=200->(x * y).natAbs<=200 * 200:=by
  intro x y _ _ _ _
  rw[Int.natAbs_mul]
  exact Nat.mul_le_mul (by omega) (by omega)
 have p1:=m u.1 v.2 a1 a2 b3 b4
 have p2:=m u.2 v.1 a3 a4 b1 b2
 unfold X
 omega
theorem ZaU (h:Bd 1000000 u\/Bd 1000000 v):wO (F_law_crossed [pr u.1 u.2,pr v.1 v.2] M) Q E=Q (.int (X u v)) M:=Zbl h
theorem ZeQ (hb:Bag n M) (q: ∀ u v M',Wg u v->Bd 200 u->Bd 200 v->X u v<=80000->Gr n M M'->Q (.tup [pr u.1 u.2,pr v.1 v.2]) M'):wO (F_law_wedge [.ref n] M) Q E:=by
 simp![F_law_wedge,Zaw]
 refine ZaJ (hb.app _) (by decide) fun r M1 r0 r1 g1=> ?_
 have k1:=Gr.new hb g1
 simp![k1]
 obtain ⟨sz,hs,z0,z1⟩: ∃ f:Int,atI [D.int 4,D.int 12,D.int 30,D.int 200] r=some (.int f)/\1<=f/\f<=200:=by
  have:r=0\/r=1\/r=2\/r=3:=by omega
  rcases this with rfl | rfl | rfl | rfl
  ·exact ⟨4,rfl,by decide,by decide⟩
  ·exact ⟨12,rfl,by decide,by decide⟩
  ·exact ⟨30,rfl,by decide,by decide⟩
  ·exact ⟨200,rfl,by decide,by decide⟩
 simp![hs]
 refine ZaJ g1.bag (by omega) fun x1 M2 a0 a1 g2=> ?_
 simp![Zo]
 refine ZaJ g2.bag (by omega) fun x2 M3 b0 b1 g3=> ?_
 simp![Zo]
 refine ZcO (B:=200) (by decide) (by omega) (by omega) fun u gu bu=> ?_
 simp![Zo]
 refine ZaJ g3.bag (by omega) fun x3 M4 c0 c1 g4=> ?_
 simp![Zo]
 refine ZaJ g4.bag (by omega) fun x4 M5 d0 d1 g5=> ?_
 simp![Zo]
 refine ZcO (B:=200) (by decide) (by omega) (by omega) fun v gv bv=> ?_
 have gr:Gr n M M5:=((((Gr.app hb _).trans g1).trans g2).trans (g3.trans (g4.trans g5)))
 have B6: ∀ {p:Pt},Bd 200 p->Bd 1000000 p:=fun h=>by unfold Bd at *;omega
 have B3: ∀ {p:Pt},Bd 200 p->Bd 1000 p:=fun h=>by unfold Bd at *;omega
 have xl:=ZkF bu bv
 simp![ZaU (u:=u) (v:=v) (.inr (B6 bv))]
 refine ZmQ (fun ρ M'=>M'=M5/\ ∃ (u v:Pt) (x:Option D),ρ=[some (.ref n),x,some (pr u.1 u.2),some (pr v.1 v.2)]/\Int.gcd u.1 u.2=1/\Int.gcd v.1 v.2=1/\Bd 200 u/\Bd 200 v/\0<=X u v) ?_ ?_
 ·refine brS (fun h=> ?_) (fun h=> ?_)
  ·simp![Zo]
   refine ⟨v,u,_,rfl,gv,gu,bv,bu,?_⟩
   have:X v u=0 - X u v:=Zkn v u
   omega
  ·simp![Zo]
   exact ⟨u,v,_,rfl,gu,gv,bu,bv,by omega⟩
 rintro _ M5 ⟨rfl,u,v,x,rfl,gu,gv,bu,bv,hp⟩
 have xl:=ZkF bu bv
 simp![ZaU (u:=u) (v:=v) (.inr (B6 bv))]
 refine ZmQ (fun ρ M'=>M'=M5/\ ∃ (u v:Pt) (x:Option D),ρ=[some (.ref n),x,some (pr u.1 u.2),some (pr v.1 v.2)]/\Wg u v/\Bd 200 u/\Bd 200 v) ?_ ?_
 ·refine brS (fun h=> ?_) (fun h=> ?_)
  ·simp![Zo]
   have bv2:Bd 200 (0 - u.2,u.1):=by unfold Bd at *;simp only;omega
   refine ⟨u,(0 - u.2,u.1),_,rfl,⟨gu,?_,B3 bu,B3 bv2,?_⟩,bu,bv2⟩
   ·show Int.gcd (0 - u.2) u.1=1
    rw[Int.zero_sub,Int.neg_gcd,Int.gcd_comm]
    exact gu
   ·have e:X u (0 - u.2,u.1)=u.1 * u.1 + u.2 * u.2:=by unfold X;simp only;grind
    rw[e]
    have h1:0<=u.1 * u.1:=sq0 _
    have h2:0<=u.2 * u.2:=sq0 _
    apply Classical.byContradiction
    intro c
    have e1:u.1 * u.1=0:=by omega
    have e2:u.2 * u.2=0:=by omega
    have f1:u.1=0:=by rcases Int.mul_eq_zero.mp e1 with z | z<;>exact z
    have f2:u.2=0:=by rcases Int.mul_eq_zero.mp e2 with z | z<;>exact z
    rw[f1,f2] at gu
    simp at gu
  ·simp![Zo]
   exact ⟨u,v,_,rfl,⟨gu,gv,B3 bu,B3 bv,by omega⟩,bu,bv⟩
 rintro _ M5 ⟨rfl,u,v,x,rfl,hw,bu,bv⟩
 have xl:=ZkF bu bv
 simp![Zo]
 exact q u v M5 hw bu bv xl.2 gr
end
section
variable {u v w:Pt}
end
end CB
end
section
end
section
end
section
end
section
end
section
end
section
end
section
end
section
end
section
end
section
end
section
end
section
end
section
end
section
end
section
end
section
end
section
end
section
end
section
end
section
end
section
end
section
end
section
end
section
end
section
end
section
end
section
end
section
end
section
end
section
end
section
end
section
end
section
end
section
end
section
end
section
end
section
end
section
end
section
end
section
end
section
end
section
end
section
end
section
end
section
end
section
end
section
end
section
end
section
end
section
end
section
end
section
end
section
end
section
end
section
end
section
end
section
end
section
end
section
end
section
end
section
end
section
namespace K16
open CC (Z8 F_crossed)
open CB (Za1 Zcp F_partner Zas F_first_behind ZaH ZbF F_expanded ZhF F_row Za2 Zbk F_between ZbG ZcN F_shows Zau F_law_purse ZaT F_law_take ZaI F_law_crossed Z5 Zav F_law_short Zaw F_law_wedge)
open PySem PySem.Spec L2 DL
noncomputable def top (i:Nat):Stmt:=PySem.Challenge.pw_rayround_k16_no_wedges.main.body.getD i (.Pass ⟨0,0,0,0⟩)
structure Txt (K:PySem.W.Frag) (mg:Str->Option Value):Prop where
 gl: ∀ c v,PySem.W.nsIn K mainGlobals c=some (some v)->mg c=some v
 b_zip:mg "zip"=none
 b_len:mg "len"=none
 b_int:mg "int"=none
 b_abs:mg "abs"=none
 b_isinstance:mg "isinstance"=none
 b_ValueError:mg "ValueError"=none
 b_min:mg "min"=none
 b_max:mg "max"=none
 b_range:mg "range"=none
 ex_NoWedge:Zfp K "NoWedge"=true
 it_NoBend:ZG K "NoBend" [(PySem.Str.ofString "NoWedge",false)]=true
 it_NoBody:ZG K "NoBody" [(PySem.Str.ofString "NoWedge",false)]=true
 it_NoFour:ZG K "NoFour" [(PySem.Str.ofString "NoWedge",false)]=true
 it_NoHeight:ZG K "NoHeight" [(PySem.Str.ofString "NoWedge",false)]=true
 it_NoMinus:ZG K "NoMinus" [(PySem.Str.ofString "NoWedge",false)]=true
 it_NoOne:ZG K "NoOne" [(PySem.Str.ofString "NoWedge",false)]=true
 it_NoPlace:ZG K "NoPlace" [(PySem.Str.ofString "NoWedge",false)]=true
 it_NoRatio:ZG K "NoRatio" [(PySem.Str.ofString "NoWedge",false)]=true
 it_NoRound:ZG K "NoRound" [(PySem.Str.ofString "NoWedge",false)]=true
 it_NoRow:ZG K "NoRow" [(PySem.Str.ofString "NoWedge",false)]=true
 it_NoText:ZG K "NoText" [(PySem.Str.ofString "NoWedge",false)]=true
 it_NotSmooth:ZG K "NotSmooth" [(PySem.Str.ofString "NoWedge",false)]=true
 it_NoTurning:ZG K "NoTurning" [(PySem.Str.ofString "NoWedge",false)]=true
 it_NoWedge:ZG K "NoWedge" [(PySem.Str.ofString "NoWedge",true)]=true
 it_Unknown:ZG K "Unknown" [(PySem.Str.ofString "NoWedge",false)]=true
 ib_ValueError:Zev K "ValueError" [(PySem.Str.ofString "NoWedge",true)]=true
 ct_RayError:Zc8 K "RayError" [PySem.Str.ofString "NoWedge"]=true
 fn_between: ∃ f,PySem.W.nsIn K mainGlobals "between"=some (some (.ref f))
 fn_row: ∃ f,PySem.W.nsIn K mainGlobals "row"=some (some (.ref f))
 fn_shows: ∃ f,PySem.W.nsIn K mainGlobals "shows"=some (some (.ref f))
 fn_row_of: ∃ f,PySem.W.nsIn K mainGlobals "row_of"=some (some (.ref f))
section
variable {P:Program} {w:World} {K:PySem.W.Frag} {mg:Str->Option Value} {base:Heap}
noncomputable abbrev Z9:Stmt:=top 18
theorem Zdz:FnScope ["one","other"] ["one","other"] (Zh Z9):=⟨rfl,rfl,rfl,by decide +kernel,rfl,by decide +kernel,by decide +kernel⟩
theorem ZdA {f:Addr} {fd:FuncData} (F:Fun K "crossed" "crossed" Z9 f fd) (T:Txt K mg):FnOk P w K mg base (CXE P w) 1 f fd ["one","other"] (spD K F_crossed):=
 Zai F Zdz rfl rfl fun cdv A outer s H E hr θ=>(Zj (Zx (ZD (Zv (Zs (Zb 0) Zd) (Zs (Zb 1) Zd)) (Zv (Zs (Zb 0) Zd) (Zs (Zb 1) Zd)))))
noncomputable abbrev Zaa:Stmt:=top 20
theorem ZL:FnScope ["ray","high","low","first","second","many"] ["ray"] (Zh Zaa):=⟨rfl,rfl,rfl,by decide +kernel,rfl,by decide +kernel,by decide +kernel⟩
theorem ZdB {f:Addr} {fd:FuncData} (F:Fun K "partner" "partner" Zaa f fd) (T:Txt K mg):FnOk P w K mg base (CXE P w) 101 f fd ["ray"] (spD K F_partner):=
 Zai F ZL rfl rfl fun cdv A outer s H E hr θ=>(Zf (Zc5 (Zb 0) (Zby (Zz hr (by decide)) (ZH (ZF 1 ZL.nd) (ZH (ZF 2 ZL.nd) ZaQ)) (hlen:=(ZV (ZV (fun _ _ _ h=>ZaR h))))))
  (Zf (Zc5 (Zw (Za (Zw (Za Zd (Za Zd Ze))) (Za (Zw (Za (Zeh Zd) (Za Zd Ze))) Ze))) (Zby (Zz hr (by decide)) (ZH (ZF 3 ZL.nd) (ZH (ZF 4 ZL.nd) ZaQ)) (hlen:=(ZV (ZV (fun _ _ _ h=>ZaR h))))))
  (Zf (Za8 θ.own (Zag (Zf2 hr.units) ZiG (Zb 2) Zd) (Zf (Zy 5 ZL.nd (ZaD (Zb 1) (Zb 2)))
  (Zf (ZaE 1 2 (Zz hr (by decide)) ZL.nd (Za (Zb 2) (Za (ZD (Zb 1) (Zv (Zb 5) (Zb 2))) Ze)))
  (Zj (ZaE 3 4 (Zz hr (by decide)) ZL.nd (Za (Zb 4) (Za (Zw (Za (ZD (Zs (Zb 3) Zd) (Zv (Zb 5) (Zs (Zb 4) Zd))) (Za (ZD (Zs (Zb 3) Zd) (Zv (Zb 5) (Zs (Zb 4) Zd))) Ze))) Ze)))))))
  (Zj (Zx (Zw (Za (Zv (Zb 1) (Zs (Zb 3) Zd)) (Za (Zv (Zb 1) (Zs (Zb 3) Zd)) Ze))))))))
noncomputable abbrev Zu:Stmt:=top 21
theorem Z1:FnScope ["u","v","w","many"] ["u","v"] (Zh Zu):=⟨rfl,rfl,rfl,by decide +kernel,rfl,by decide +kernel,by decide +kernel⟩
theorem Zbm {f:Addr} {fd:FuncData} (F:Fun K "first_behind" "first_behind" Zu f fd) (T:Txt K mg) (C_partner:Cal P w K mg base "partner" 101 1 F_partner) (C_crossed:Cal P w K mg base "crossed" 1 2 F_crossed):FnOk P w K mg base (CXE P w) 102 f fd ["u","v"] (spD K F_first_behind):=
 Zai F Z1 rfl rfl fun cdv A outer s H E hr θ=>(Zf (Zy 2 Z1.nd (Zi C_partner θ (hr.mono (by decide)) (Za (Zb 0) Ze)))
  (Zf (Zy 3 Z1.nd (ZaD (Zi C_crossed θ (hr.mono (by decide)) (Za (Zb 2) (Za (Zb 1) Ze))) (Zi C_crossed θ (hr.mono (by decide)) (Za (Zb 0) (Za (Zb 1) Ze)))))
  (Zj (Zx (Zw (Za (ZD (Zs (Zb 2) Zd) (Zv (Zb 3) (Zs (Zb 0) Zd))) (Za (ZD (Zs (Zb 2) Zd) (Zv (Zb 3) (Zs (Zb 0) Zd))) Ze)))))))
noncomputable abbrev ZW:Stmt:=top 22
theorem Zae:FnScope ["top","bottom","numbers","number"] ["top","bottom"] (Zh ZW):=⟨rfl,rfl,rfl,by decide +kernel,rfl,by decide +kernel,by decide +kernel⟩
theorem ZcP {f:Addr} {fd:FuncData} (F:Fun K "expanded" "expanded" ZW f fd) (T:Txt K mg):FnOk P w K mg base (CXE P w) 101 f fd ["top","bottom"] (spD K F_expanded):=
 Zai F Zae rfl rfl fun cdv A outer s H E hr θ=>(Zf (Zy 2 Zae.nd (ZaA Ze))
  (Zf (Za8 θ.own (Zag (Zf2 hr.units) ZiG (Zb 1) Zd) (Zf (Zy 3 Zae.nd (Zeh (ZaD (Zeh (Zb 0)) (Zb 1))))
  (Zf (Zbg (Zbi (Zb 2) (Zb 3)))
  (Zj (ZaE 0 1 (Zz hr (by decide)) Zae.nd (Za (Zb 1) (Za (ZD (Zv (Zb 3) (Zb 1)) (Zb 0)) Ze)))))))
  (Zj (Zx (Zb 2)))))
noncomputable abbrev ZdC:Stmt:=top 23
theorem Zko:FnScope ["u","v"] ["u","v"] (Zh ZdC):=⟨rfl,rfl,rfl,by decide +kernel,rfl,by decide +kernel,by decide +kernel⟩
theorem Zkp {f:Addr} {fd:FuncData} (F:Fun K "row" "row" ZdC f fd) (T:Txt K mg) (C_crossed:Cal P w K mg base "crossed" 1 2 F_crossed) (C_first_behind:Cal P w K mg base "first_behind" 102 2 F_first_behind) (C_expanded:Cal P w K mg base "expanded" 101 2 F_expanded):FnOk P w K mg base (CXE P w) 103 f fd ["u","v"] (spD K F_row):=
 Zai F Zko rfl rfl fun cdv A outer s H E hr θ=>(Zf (Zbh (Zag Zib ZiE (Zi C_crossed θ (hr.mono (by decide)) (Za (Zb 0) (Za (Zb 1) Ze))) Zd) (Zj (Zda θ T.ex_NoWedge T.gl (hr.hd (by decide)) (Za Zef Ze))) Z4)
  (Zj (Zx (Zi C_expanded θ (hr.mono (by decide)) (Za (Zi C_crossed θ (hr.mono (by decide)) (Za (Zb 0) (Za (Zb 1) Ze))) (Za (Zi C_crossed θ (hr.mono (by decide)) (Za (Zi C_first_behind θ (hr.mono (by decide)) (Za (Zb 0) (Za (Zb 1) Ze))) (Za (Zb 1) Ze))) Ze))))))
noncomputable abbrev Zab:Stmt:=top 24
theorem ZX:FnScope ["u","v","numbers","rays","ahead","ray","number"] ["u","v"] (Zh Zab):=⟨rfl,rfl,rfl,by decide +kernel,rfl,by decide +kernel,by decide +kernel⟩
theorem ZdD {f:Addr} {fd:FuncData} (F:Fun K "between" "between" Zab f fd) (T:Txt K mg) (C_row:Cal P w K mg base "row" 103 2 F_row) (C_first_behind:Cal P w K mg base "first_behind" 102 2 F_first_behind):FnOk P w K mg base (CXE P w) 104 f fd ["u","v"] (spD K F_between):=
 Zai F ZX rfl rfl fun cdv A outer s H E hr θ=>(Zf (Zy 2 ZX.nd (Zi C_row θ (hr.mono (by decide)) (Za (Zb 0) (Za (Zb 1) Ze))))
  (Zf (Zy 3 ZX.nd (ZaA Ze))
  (Zf (ZaE 4 5 (Zz hr (by decide)) ZX.nd (Za (Zb 0) (Za (Zi C_first_behind θ (hr.mono (by decide)) (Za (Zb 0) (Za (Zb 1) Ze))) Ze)))
  (Zf (Zer θ.own (Zb 2) (ZF 6 ZX.nd) (Zf (Zbg (Zbi (Zb 3) (Zb 5)))
  (Zj (ZaE 4 5 (Zz hr (by decide)) ZX.nd (Za (Zb 5) (Za (Zw (Za (ZD (Zv (Zb 6) (Zs (Zb 5) Zd)) (Zs (Zb 4) Zd)) (Za (ZD (Zv (Zb 6) (Zs (Zb 5) Zd)) (Zs (Zb 4) Zd)) Ze))) Ze))))))
  (Zj (Zx (Zb 3)))))))
noncomputable abbrev Zap:Stmt:=top 25
noncomputable def Zdh:Sv:=(ZS (Zao (gTp (gCs (gNm 1) (gCs (gNm 2) gNl))) (Zg 0))
 (ZS (sIf (tv (e2 dLe (Zg 1) (Zg 2))) (ZbA (PySem.Str.ofString "NoWedge") (Zc (eC (.str (PySem.Str.ofString "the fraction of a row is above 1"))) aNil)) sNil)
 (ZaP (Zq F_expanded (Zc (Zg 1) (Zc (Zg 2) aNil))))))
noncomputable def F_row_of:List D->Sto->Out D:=fnF Zdh 1 2
theorem Zbn:FnScope ["ratio","top","bottom"] ["ratio"] (Zh Zap):=⟨rfl,rfl,rfl,by decide +kernel,rfl,by decide +kernel,by decide +kernel⟩
theorem ZeR {f:Addr} {fd:FuncData} (F:Fun K "row_of" "row_of" Zap f fd) (T:Txt K mg) (C_expanded:Cal P w K mg base "expanded" 101 2 F_expanded):FnOk P w K mg base (CXE P w) 102 f fd ["ratio"] (spD K F_row_of):=
 Zai F Zbn rfl rfl fun cdv A outer s H E hr θ=>(Zf (Zc5 (Zb 0) (Zby (Zz hr (by decide)) (ZH (ZF 1 Zbn.nd) (ZH (ZF 2 Zbn.nd) ZaQ)) (hlen:=(ZV (ZV (fun _ _ _ h=>ZaR h))))))
  (Zf (Zbh (Zag Zib ZiE (Zb 1) (Zb 2)) (Zj (Zda θ T.ex_NoWedge T.gl (hr.hd (by decide)) (Za Zef Ze))) Z4)
  (Zj (Zx (Zi C_expanded θ (hr.mono (by decide)) (Za (Zb 1) (Za (Zb 2) Ze)))))))
noncomputable abbrev ZaV:Stmt:=top 26
theorem ZaK:FnScope ["u","v","rays","told","ray","behind"] ["u","v"] (Zh ZaV):=⟨rfl,rfl,rfl,by decide +kernel,rfl,by decide +kernel,by decide +kernel⟩
theorem ZfP {f:Addr} {fd:FuncData} (F:Fun K "shows" "shows" ZaV f fd) (T:Txt K mg) (C_between:Cal P w K mg base "between" 104 2 F_between):FnOk P w K mg base (CXE P w) 105 f fd ["u","v"] (spD K F_shows):=
 Zai F ZaK rfl rfl fun cdv A outer s H E hr θ=>(Zf (Zy 2 ZaK.nd (ZaC (Zi C_between θ (hr.mono (by decide)) (Za (Zb 0) (Za (Zb 1) Ze))) (ZaA (Za (Zb 1) Ze))))
  (Zf (Zy 3 ZaK.nd (ZaA Ze))
  (Zf (Zg8 θ.own (Zi4 (hr.hd (by decide)) T.b_zip (Za (Zb 2) (Za (Zlb (Zb 2) (Zla Zd) Zk9) Ze))) (Zby (Zz hr (by decide)) (ZH (ZF 4 ZaK.nd) (ZH (ZF 5 ZaK.nd) ZaQ)) (hlen:=(ZV (ZV (fun _ _ _ h=>ZaR h))))) (Zj (Zbg (Zbi (Zb 3) (Zw (Za (ZD (Zs (Zb 5) Zd) (Zs (Zb 4) Zd)) (Za (ZD (Zs (Zb 4) Zd) (Zs (Zb 5) Zd)) Ze)))))))
  (Zj (Zx (Zb 3))))))
noncomputable abbrev ZO:Stmt:=top 28
theorem Z3:FnScope ["_law_script","_law_k","_law_cell","_law_large"] ["_law_script","_law_k"] (Zh ZO):=⟨rfl,rfl,rfl,by decide +kernel,rfl,by decide +kernel,by decide +kernel⟩
theorem Zcq {f:Addr} {fd:FuncData} (F:Fun K "_law_purse" "_law_purse" ZO f fd) (T:Txt K mg):FnOk P w K mg base (CXE P w) 1 f fd ["_law_script","_law_k"] (spD K F_law_purse):=
 Zai F Z3 rfl rfl fun cdv A outer s H E hr θ=>(Zf (Zy 2 Z3.nd Zd)
  (Zf (Zbh (Zag Zia ZiD (Zb 1) (Zad ZaW Zf4 T.b_len PySem.boot_len (Za (Zb 0) Ze))) (Zj (Zy 2 Z3.nd (Zs (Zb 0) (Zb 1)))) Z4)
  (Zf (Zy 3 Z3.nd (ZaX (Zb 2) (Zv (Zeg Zd Zd) (Zeg Zd Zd))))
  (Zj (Zx (ZaA (Za (Zv (Zb 3) (Zem ZdV ZiM T.b_int ZiQ (Za (Zf1 ZkR Zk4 (Zb 3) (Zeg Zd Zd)) Ze))) (Za (ZaC (ZaC (ZaX (Zb 2) Zd) (Zv Zd (Zb 1))) Zd) Ze))))))))
noncomputable abbrev ZY:Stmt:=top 29
theorem Zbo:FnScope ["_law_purse_here","_law_many","_law_digit"] ["_law_purse_here","_law_many"] (Zh ZY):=⟨rfl,rfl,rfl,by decide +kernel,rfl,by decide +kernel,by decide +kernel⟩
theorem ZcQ {f:Addr} {fd:FuncData} (F:Fun K "_law_take" "_law_take" ZY f fd) (T:Txt K mg):FnOk P w K mg base (CXE P w) 1 f fd ["_law_purse_here","_law_many"] (spD K F_law_take):=
 Zai F Zbo rfl rfl fun cdv A outer s H E hr θ=>(Zf (Zbh (Zag Zgr ZgN (Zs (Zb 0) Zd) Zd) (Zf (Zy 2 Zbo.nd (ZaX (Zs (Zb 0) Zd) (Zb 1)))
  (Zf (Zf7 (Zb 0) Zd (ZaD (Zs (Zb 0) Zd) (Zb 1)))
  (Zj (Zx (Zb 2))))) Z4)
  (Zf (Zf7 (Zb 0) Zd (ZaX (ZaC (Zv (Zs (Zb 0) Zd) Zd) Zd) Zd))
  (Zj (Zx (ZaX (ZaD (ZaX (Zv (Zs (Zb 0) Zd) Zd) Zd) Zd) (Zb 1))))))
noncomputable abbrev ZA:Stmt:=top 30
theorem Zbs:FnScope ["_law_one","_law_other"] ["_law_one","_law_other"] (Zh ZA):=⟨rfl,rfl,rfl,by decide +kernel,rfl,by decide +kernel,by decide +kernel⟩
theorem Zbt {f:Addr} {fd:FuncData} (F:Fun K "_law_crossed" "_law_crossed" ZA f fd) (T:Txt K mg):FnOk P w K mg base (CXE P w) 1 f fd ["_law_one","_law_other"] (spD K F_law_crossed):=
 Zai F Zbs rfl rfl fun cdv A outer s H E hr θ=>(Zj (Zx (ZD (Zv (Zs (Zb 0) Zd) (Zs (Zb 1) Zd)) (Zv (Zs (Zb 0) Zd) (Zs (Zb 1) Zd)))))
noncomputable abbrev ZP:Stmt:=top 31
theorem Zak:FnScope ["_law_pair","_law_one","_law_other"] ["_law_pair"] (Zh ZP):=⟨rfl,rfl,rfl,by decide +kernel,rfl,by decide +kernel,by decide +kernel⟩
theorem Zcr {f:Addr} {fd:FuncData} (F:Fun K "_law_short" "_law_short" ZP f fd) (T:Txt K mg):FnOk P w K mg base (CXE P w) 101 f fd ["_law_pair"] (spD K F_law_short):=
 Zai F Zak rfl rfl fun cdv A outer s H E hr θ=>(Zf (ZaE 1 2 (Zz hr (by decide)) Zak.nd (Za (Zad ZbK Zen T.b_abs Zes (Za (Zs (Zb 0) Zd) Ze)) (Za (Zad ZbK Zen T.b_abs Zes (Za (Zs (Zb 0) Zd) Ze)) Ze)))
  (Zf (Za8 θ.own (Zag Zgr ZgN (Zb 2) Zd) (Zj (ZaE 1 2 (Zz hr (by decide)) Zak.nd (Za (Zb 2) (Za (ZaX (Zb 1) (Zb 2)) Ze)))))
  (Zf (Zbh (Zag (Zek hr.units) ZgP (Zb 1) Zd) (Zj (Zx (Zw (Za Zd (Za Zd Ze))))) Z4)
  (Zj (Zx (Zw (Za (ZaD (Zs (Zb 0) Zd) (Zb 1)) (Za (ZaD (Zs (Zb 0) Zd) (Zb 1)) Ze))))))))
noncomputable abbrev ZQ:Stmt:=top 32
theorem ZM:FnScope ["_law_purse_here","_law_size","_law_u","_law_v"] ["_law_purse_here"] (Zh ZQ):=⟨rfl,rfl,rfl,by decide +kernel,rfl,by decide +kernel,by decide +kernel⟩
theorem Zcs {f:Addr} {fd:FuncData} (F:Fun K "_law_wedge" "_law_wedge" ZQ f fd) (T:Txt K mg) (C_law_take:Cal P w K mg base "_law_take" 1 2 F_law_take) (C_law_short:Cal P w K mg base "_law_short" 101 1 F_law_short) (C_law_crossed:Cal P w K mg base "_law_crossed" 1 2 F_law_crossed):FnOk P w K mg base (CXE P w) 102 f fd ["_law_purse_here"] (spD K F_law_wedge):=
 Zai F ZM rfl rfl fun cdv A outer s H E hr θ=>(Zf (Zy 1 ZM.nd (Zs (ZaA (Za Zd (Za Zd (Za Zd (Za Zd Ze))))) (Zi C_law_take θ (hr.mono (by decide)) (Za (Zb 0) (Za Zd Ze)))))
  (Zf (Zy 2 ZM.nd (Zi C_law_short θ (hr.mono (by decide)) (Za (Zw (Za (ZD (Zi C_law_take θ (hr.mono (by decide)) (Za (Zb 0) (Za (ZaC (Zv Zd (Zb 1)) Zd) Ze))) (Zb 1)) (Za (ZD (Zi C_law_take θ (hr.mono (by decide)) (Za (Zb 0) (Za (ZaC (Zv Zd (Zb 1)) Zd) Ze))) (Zb 1)) Ze))) Ze)))
  (Zf (Zy 3 ZM.nd (Zi C_law_short θ (hr.mono (by decide)) (Za (Zw (Za (ZD (Zi C_law_take θ (hr.mono (by decide)) (Za (Zb 0) (Za (ZaC (Zv Zd (Zb 1)) Zd) Ze))) (Zb 1)) (Za (ZD (Zi C_law_take θ (hr.mono (by decide)) (Za (Zb 0) (Za (ZaC (Zv Zd (Zb 1)) Zd) Ze))) (Zb 1)) Ze))) Ze)))
  (Zf (Zbh (Zag Zia ZiD (Zi C_law_crossed θ (hr.mono (by decide)) (Za (Zb 2) (Za (Zb 3) Ze))) Zd) (Zj (ZaE 2 3 (Zz hr (by decide)) ZM.nd (Za (Zb 3) (Za (Zb 2) Ze)))) Z4)
  (Zf (Zbh (Zag (Zek hr.units) ZgP (Zi C_law_crossed θ (hr.mono (by decide)) (Za (Zb 2) (Za (Zb 3) Ze))) Zd) (Zj (Zy 3 ZM.nd (Zw (Za (ZD Zd (Zs (Zb 2) Zd)) (Za (Zs (Zb 2) Zd) Ze))))) Z4)
  (Zj (Zx (Zw (Za (Zb 2) (Za (Zb 3) Ze))))))))))
noncomputable abbrev ZZ:Stmt:=top 33
noncomputable def ZaL:Sv:=(ZcI 0 1 (Zc (Zg 1) (Zc (e2 dMod (Zg 0) (Zg 1)) aNil)))
noncomputable def ZbH:Sv:=(ZS (Zao (gNm 0) (Zq bAbs (Zc (Zg 0) aNil)))
 (ZS (sWh (tv (e2 dGt (Zg 1) (eC (.int 0)))) ZaL)
 (ZaP (Zg 0))))
noncomputable def F_law_part:List D->Sto->Out D:=fnF ZbH 2 0
theorem Zax:FnScope ["_law_one","_law_other"] ["_law_one","_law_other"] (Zh ZZ):=⟨rfl,rfl,rfl,by decide +kernel,rfl,by decide +kernel,by decide +kernel⟩
theorem ZcR {f:Addr} {fd:FuncData} (F:Fun K "_law_part" "_law_part" ZZ f fd) (T:Txt K mg):FnOk P w K mg base (CXE P w) 101 f fd ["_law_one","_law_other"] (spD K F_law_part):=
 Zai F Zax rfl rfl fun cdv A outer s H E hr θ=>(Zf (Zy 0 Zax.nd (Zad ZbK Zen T.b_abs Zes (Za (Zb 0) Ze)))
  (Zf (Za8 θ.own (Zag Zgr ZgN (Zb 1) Zd) (Zj (ZaE 0 1 (Zz hr (by decide)) Zax.nd (Za (Zb 1) (Za (ZaX (Zb 0) (Zb 1)) Ze)))))
  (Zj (Zx (Zb 0)))))
noncomputable abbrev ZR:Stmt:=top 34
noncomputable def ZbI:Sv:=(ZS (Zao (gNm 2) (Zi8 [(PySem.Str.ofString "bend",(Za4 [(PySem.Str.ofString "NoWedge",false)] (Zg 0))),(PySem.Str.ofString "body",(Za4 [(PySem.Str.ofString "NoWedge",false)] (Zg 0))),(PySem.Str.ofString "four",(Za4 [(PySem.Str.ofString "NoWedge",false)] (Zg 0))),(PySem.Str.ofString "height",(Za4 [(PySem.Str.ofString "NoWedge",false)] (Zg 0))),(PySem.Str.ofString "minus",(Za4 [(PySem.Str.ofString "NoWedge",false)] (Zg 0))),(PySem.Str.ofString "one",(Za4 [(PySem.Str.ofString "NoWedge",false)] (Zg 0))),(PySem.Str.ofString "place",(Za4 [(PySem.Str.ofString "NoWedge",false)] (Zg 0))),(PySem.Str.ofString "ratio",(Za4 [(PySem.Str.ofString "NoWedge",false)] (Zg 0))),(PySem.Str.ofString "round",(Za4 [(PySem.Str.ofString "NoWedge",false)] (Zg 0))),(PySem.Str.ofString "row",(Za4 [(PySem.Str.ofString "NoWedge",false)] (Zg 0))),(PySem.Str.ofString "text",(Za4 [(PySem.Str.ofString "NoWedge",false)] (Zg 0))),(PySem.Str.ofString "smooth",(Za4 [(PySem.Str.ofString "NoWedge",false)] (Zg 0))),(PySem.Str.ofString "turning",(Za4 [(PySem.Str.ofString "NoWedge",false)] (Zg 0))),(PySem.Str.ofString "wedge",(Za4 [(PySem.Str.ofString "NoWedge",true)] (Zg 0))),(PySem.Str.ofString "unknown",(Za4 [(PySem.Str.ofString "NoWedge",false)] (Zg 0)))]))
 (ZaP (Zfg (e2 dEq (Zdt (Zi9 (Zg 2)) 1 [2] (gNm 0) (tv (e2 Zha (Zg 1) (Zg 0))) (Zg 0)) (Zdr (Zc (Zg 1) aNil))) (Za4 [(PySem.Str.ofString "NoWedge",true)] (Zg 0)))))
noncomputable def F_law_only:List D->Sto->Out D:=fnF ZbI 2 1
theorem Zbp:FnScope ["_law_e","_law_kind","_law_kinds"] ["_law_e","_law_kind"] (Zh ZR):=⟨rfl,rfl,rfl,by decide +kernel,rfl,by decide +kernel,by decide +kernel⟩
theorem ZcS {f:Addr} {fd:FuncData} (F:Fun K "_law_only" "_law_only" ZR f fd) (T:Txt K mg):FnOk P w K mg base (CXE P w) 1 f fd ["_law_e","_law_kind"] (spD K F_law_only):=
 Zai F Zbp rfl rfl fun cdv A outer s H E hr θ=>(Zf (Zy 2 Zbp.nd (Zhe (Zt (Z0 T.it_NoBend T.gl T.b_isinstance (Zb 0)) (Zt (Z0 T.it_NoBody T.gl T.b_isinstance (Zb 0)) (Zt (Z0 T.it_NoFour T.gl T.b_isinstance (Zb 0)) (Zt (Z0 T.it_NoHeight T.gl T.b_isinstance (Zb 0)) (Zt (Z0 T.it_NoMinus T.gl T.b_isinstance (Zb 0)) (Zt (Z0 T.it_NoOne T.gl T.b_isinstance (Zb 0)) (Zt (Z0 T.it_NoPlace T.gl T.b_isinstance (Zb 0)) (Zt (Z0 T.it_NoRatio T.gl T.b_isinstance (Zb 0)) (Zt (Z0 T.it_NoRound T.gl T.b_isinstance (Zb 0)) (Zt (Z0 T.it_NoRow T.gl T.b_isinstance (Zb 0)) (Zt (Z0 T.it_NoText T.gl T.b_isinstance (Zb 0)) (Zt (Z0 T.it_NotSmooth T.gl T.b_isinstance (Zb 0)) (Zt (Z0 T.it_NoTurning T.gl T.b_isinstance (Zb 0)) (Zt (Z0 T.it_NoWedge T.gl T.b_isinstance (Zb 0)) (Zt (Z0 T.it_Unknown T.gl T.b_isinstance (Zb 0)) Zhd))))))))))))))) (by decide +kernel) (by decide)))
  (Zj (Zx (Ziw (Zf1 (Zek hr.units) ZgP (ZgW (ZnQ (XN:=["_law_e","_law_kind","_law_kinds"]) (dn:=(Zh ZR).names) (N:=["_law_name","_law_kinds"]) (k:=1) (fr:=[2]) rfl rfl rfl rfl (by decide +kernel)) (ZfA (Zb 2)) (fun _ _ _ _=>(ZF 0 (show List.Nodup (["_law_name","_law_kinds"]:List Str) by decide +kernel))) (fun _ _ _ _=>(Or.inr ⟨_,rfl,(Zb9 (Zhb hr.units (Zb 1) (Zb 0)))⟩)) (fun _ _ _ _=>(Zb 0))) (ZaA (Za (Zb 1) Ze))) (Ziv (ZiV T.ib_ValueError T.b_isinstance T.b_ValueError ZbR (Zb 0)))))))
noncomputable abbrev ZB:Stmt:=top 35
noncomputable def Zaf:Sv:=(ZS (Zg4 (sIf (tv (e2 dIs (Zg 2) (eC .non))) (Zcd (eCV 0 [(PySem.Str.ofString "row_of",F_row_of)] (Zc (Zg 1) aNil))) (Zcd (eCV 0 [(PySem.Str.ofString "shows",F_shows),(PySem.Str.ofString "between",F_between),(PySem.Str.ofString "row",F_row)] (Zc (Zg 1) (Zc (Zg 2) aNil))))) [PySem.Str.ofString "NoWedge"] 3 (ZaP (Zq F_law_only (Zc (Zg 3) (Zc (eC (.str (PySem.Str.ofString "wedge"))) aNil)))))
 (ZaP (eC (.bl false))))
noncomputable def F_law_refused:List D->Sto->Out D:=fnF Zaf 3 1
theorem Zat:FnScope ["_law_make","_law_one","_law_other","_law_e"] ["_law_make","_law_one","_law_other"] (Zh ZB):=⟨rfl,rfl,rfl,by decide +kernel,rfl,by decide +kernel,by decide +kernel⟩
theorem Zbu {f:Addr} {fd:FuncData} (F:Fun K "_law_refused" "_law_refused" ZB f fd) (T:Txt K mg) (C_row_of:Cal P w K mg base "row_of" 102 1 F_row_of) (C_row:Cal P w K mg base "row" 103 2 F_row) (C_between:Cal P w K mg base "between" 104 2 F_between) (C_shows:Cal P w K mg base "shows" 105 2 F_shows) (C_law_only:Cal P w K mg base "_law_only" 1 2 F_law_only):FnOk P w K mg base (CXE P w) 106 f fd ["_law_make","_law_one","_law_other"] (spD K F_law_refused):=
 Zai F Zat rfl rfl fun cdv A outer s H E hr θ=>(Zf (ZiY T.ct_RayError T.gl (hr.hd (by decide)) rfl rfl rfl Zat.nd (fun pn xe ξ' θ'=>(Zj (Zbh (Zag ZiH Zk6 (Zb 2) Zf0) (Zj (Zbg (Zdd (Za9 (hr.mono (by decide)) C_row_of ZeG) T.gl θ' (Za (Zb 1) Ze)))) (Zj (Zbg (Zdd (Za9 (hr.mono (by decide)) C_shows (Za9 (hr.mono (by decide)) C_between (Za9 (hr.mono (by decide)) C_row ZeG))) T.gl θ' (Za (Zb 1) (Za (Zb 2) Ze)))))))) (fun ea=>(Zj (Zx (Zi C_law_only Zg0 (Zey hr (by decide) (by decide)) (Za (Zb 3) (Za Zef Ze)))))))
  (Zj (Zx Zee)))
noncomputable abbrev ZbT:Stmt:=top 36
noncomputable def ZbU:Sv:=(ZS (sIf (ZkA (Zca (tv (Zq F_law_refused (Zc (eC (.fn (PySem.Str.ofString "between"))) (Zc (Zg 5) (Zc (Zg 6) aNil)))))) (Zca (tv (Zq F_law_refused (Zc (eC (.fn (PySem.Str.ofString "row"))) (Zc (Zg 5) (Zc (Zg 6) aNil))))))) (ZaP (eC (.bl false))) sNil)
 (sIf (Zca (tv (Zq F_law_refused (Zc (eC (.fn (PySem.Str.ofString "shows"))) (Zc (Zg 5) (Zc (Zg 6) aNil)))))) (ZaP (eC (.bl false))) sNil))
noncomputable def ZbV:Sv:=(sIf (Zca (tv (Zq F_law_refused (Zc (eC (.fn (PySem.Str.ofString "row_of"))) (Zc (Zg 10) (Zc (eC .non) aNil)))))) (ZaP (eC (.bl false))) sNil)
noncomputable def ZbW:Sv:=(ZS (Zao (gNm 2) (Zq F_law_purse (Zc (Zg 0) (Zc (Zg 1) aNil))))
 (ZS (Zao (gTp (gCs (gNm 3) (gCs (gNm 4) gNl))) (Zq F_law_wedge (Zc (Zg 2) aNil)))
 (ZS (ZhL (gTp (gCs (gNm 5) (gCs (gNm 6) gNl))) (Zdr (Zc (ZaO (Zc (Zg 4) (Zc (Zg 3) aNil))) (Zc (ZaO (Zc (Zg 3) (Zc (Zg 3) aNil))) (Zc (ZaO (Zc (Zg 3) (Zc (ZaO (Zc (e2 dSub (eC (.int 0)) (e2 dIx (Zg 3) (eC (.int 0)))) (Zc (e2 dSub (eC (.int 0)) (e2 dIx (Zg 3) (eC (.int 1)))) aNil))) aNil))) (Zc (ZaO (Zc (Zg 4) (Zc (Zg 4) aNil))) aNil))))) ZbU)
 (ZS (Zao (gNm 7) (e2 dAdd (eC (.int 1)) (Zq F_law_take (Zc (Zg 2) (Zc (eC (.int 30)) aNil)))))
 (ZS (Zao (gNm 8) (e2 dSub (e2 dSub (e2 dMul (Zg 7) (Zq F_law_take (Zc (Zg 2) (Zc (eC (.int 2)) aNil)))) (eC (.int 1))) (Zq F_law_take (Zc (Zg 2) (Zc (eC (.int 30)) aNil)))))
 (ZS (Zao (gNm 9) (Zq F_law_part (Zc (Zg 8) (Zc (Zg 7) aNil))))
 (ZhL (gNm 10) (Zdr (Zc (ZaO (Zc (eC (.int 1)) (Zc (eC (.int 1)) aNil))) (Zc (ZaO (Zc (eC (.int 0)) (Zc (eC (.int 1)) aNil))) (Zc (ZaO (Zc (e2 dSub (eC (.int 0)) (eC (.int 1))) (Zc (Zg 7) aNil))) (Zc (ZaO (Zc (e2 dDiv (Zg 8) (Zg 9)) (Zc (e2 dDiv (Zg 7) (Zg 9)) aNil))) aNil))))) ZbV)))))))
noncomputable def Zkq:Sv:=(ZS (Zcf (gNm 1) (Zc (Zq bMax (Zc (eC (.int 1)) (Zc (Zq bMin (Zc (eC (.int 3)) (Zc (Zq bLen (Zc (Zg 0) aNil)) aNil))) aNil))) aNil) ZbW)
 (ZaP (eC (.bl true))))
noncomputable def ZcT:List D->Sto->Out D:=fnF Zkq 1 10
theorem Zal:FnScope ["_law_script","_law_k","_law_purse_here","_law_u","_law_v","_law_one","_law_other","_law_bottom","_law_top","_law_part_here","_law_told"] ["_law_script"] (Zh ZbT):=⟨rfl,rfl,rfl,by decide +kernel,rfl,by decide +kernel,by decide +kernel⟩
theorem Zkr {f:Addr} {fd:FuncData} (F:Fun K "law" "law" ZbT f fd) (T:Txt K mg) (C_law_purse:Cal P w K mg base "_law_purse" 1 2 F_law_purse) (C_law_wedge:Cal P w K mg base "_law_wedge" 102 1 F_law_wedge) (C_law_refused:Cal P w K mg base "_law_refused" 106 3 F_law_refused) (C_law_take:Cal P w K mg base "_law_take" 1 2 F_law_take) (C_law_part:Cal P w K mg base "_law_part" 101 2 F_law_part):FnOk P w K mg base (CXE P w) 107 f fd ["_law_script"] (spD K ZcT):=
 Zai F Zal rfl rfl fun cdv A outer s H E hr θ=>(Zf (Zfm θ.own T.b_range (Za (Zad (ZdT (Zz hr (by decide))) ZiK T.b_max ZiR (Za Zd (Za (Zad (ZdU (Zz hr (by decide))) ZiL T.b_min ZiS (Za Zd (Za (Zad ZaW Zf4 T.b_len PySem.boot_len (Za (Zb 0) Ze)) Ze))) Ze))) Ze) (ZF 1 Zal.nd) (Zf (Zy 2 Zal.nd (Zi C_law_purse θ (hr.mono (by decide)) (Za (Zb 0) (Za (Zb 1) Ze))))
  (Zf (Zc5 (Zi C_law_wedge θ (hr.mono (by decide)) (Za (Zb 2) Ze)) (Zby (Zz hr (by decide)) (ZH (ZF 3 Zal.nd) (ZH (ZF 4 Zal.nd) ZaQ)) (hlen:=(ZV (ZV (fun _ _ _ h=>ZaR h))))))
  (Zf (Zer θ.own (ZaA (Za (Zw (Za (Zb 4) (Za (Zb 3) Ze))) (Za (Zw (Za (Zb 3) (Za (Zb 3) Ze))) (Za (Zw (Za (Zb 3) (Za (Zw (Za (ZD Zd (Zs (Zb 3) Zd)) (Za (ZD Zd (Zs (Zb 3) Zd)) Ze))) Ze))) (Za (Zw (Za (Zb 4) (Za (Zb 4) Ze))) Ze))))) (Zby (Zz hr (by decide)) (ZH (ZF 5 Zal.nd) (ZH (ZF 6 Zal.nd) ZaQ)) (hlen:=(ZV (ZV (fun _ _ _ h=>ZaR h))))) (Zf (Zbh (ZnL (Zk3 (Zc3 (Zb9 (Zi C_law_refused θ (hr.mono (by decide)) (Za (Zfw T.fn_between T.gl) (Za (Zb 5) (Za (Zb 6) Ze)))))) (Zit (Zc3 (Zb9 (Zi C_law_refused θ (hr.mono (by decide)) (Za (Zfw T.fn_row T.gl) (Za (Zb 5) (Za (Zb 6) Ze))))))))) (Zj (Zx Zee)) Z4)
  (Zj (Zbh (Zc3 (Zb9 (Zi C_law_refused θ (hr.mono (by decide)) (Za (Zfw T.fn_shows T.gl) (Za (Zb 5) (Za (Zb 6) Ze)))))) (Zj (Zx Zee)) Z4))))
  (Zf (Zy 7 Zal.nd (ZaC Zd (Zi C_law_take θ (hr.mono (by decide)) (Za (Zb 2) (Za Zd Ze)))))
  (Zf (Zy 8 Zal.nd (ZD (ZD (Zv (Zb 7) (Zi C_law_take θ (hr.mono (by decide)) (Za (Zb 2) (Za Zd Ze)))) Zd) (Zi C_law_take θ (hr.mono (by decide)) (Za (Zb 2) (Za Zd Ze)))))
  (Zf (Zy 9 Zal.nd (Zi C_law_part θ (hr.mono (by decide)) (Za (Zb 8) (Za (Zb 7) Ze))))
  (Zj (Zer θ.own (ZaA (Za (Zw (Za Zd (Za Zd Ze))) (Za (Zw (Za Zd (Za Zd Ze))) (Za (Zw (Za (ZD Zd Zd) (Za (Zb 7) Ze))) (Za (Zw (Za (ZaD (Zb 8) (Zb 9)) (Za (ZaD (Zb 7) (Zb 9)) Ze))) Ze))))) (ZF 10 Zal.nd) (Zj (Zbh (Zc3 (Zb9 (Zi C_law_refused θ (hr.mono (by decide)) (Za (Zfw T.fn_row_of T.gl) (Za (Zb 10) (Za Zf0 Ze)))))) (Zj (Zx Zee)) Z4)))))))))))
  (Zj (Zx Zee)))
end
theorem ZkG {α:Type} {P:List α->Prop} (h: ∀ x0,P [x0]): ∀ us:List α,us.length=1->P us
 | [x0],_=>h x0
theorem ZeS {α:Type} {P:List α->Prop} (h: ∀ x0 x1,P [x0,x1]): ∀ us:List α,us.length=2->P us
 | [x0,x1],_=>h x0 x1
theorem ZoI {α:Type} {P:List α->Prop} (h: ∀ x0 x1 x2,P [x0,x1,x2]): ∀ us:List α,us.length=3->P us
 | [x0,x1,x2],_=>h x0 x1 x2
theorem Zks {l:PySem.W.OpenLaw} {w:World} {K:PySem.W.Frag} {h:Heap} {mg:Str->Option Value} {fa f1 f2 f3 f4 f5 f6 f7 f8 f9 f10 f11 f12 f13 f14 f15 f16 f17:Addr} (X:K.In h) (G:h.Ns mainGlobals mg) (hfa:mg "law"=some (.ref fa))
  {od1 an1 od2 an2 od3 an3 od4 an4 od5 an5 od6 an6 od7 an7 od8 an8 od9 an9 od10 an10 od11 an11 od12 an12 od13 an13 od14 an14 od15 an15 od16 an16 od17 an17:Option Addr} {sl1 sl2 sl3 sl4 sl5 sl6 sl7 sl8 sl9 sl10 sl11 sl12 sl13 sl14 sl15 sl16 sl17:Array (Option Value)} {oc1 kV1 dc1 pm1 cd1 ct1 oc2 kV2 dc2 pm2 cd2 ct2 oc3 kV3 dc3 pm3 cd3 ct3 oc4 kV4 dc4 pm4 cd4 ct4 oc5 kV5 dc5 pm5 cd5 ct5 oc6 kV6 dc6 pm6 cd6 ct6 oc7 kV7 dc7 pm7 cd7 ct7 oc8 kV8 dc8 pm8 cd8 ct8 oc9 kV9 dc9 pm9 cd9 ct9 oc10 kV10 dc10 pm10 cd10 ct10 oc11 kV11 dc11 pm11 cd11 ct11 oc12 kV12 dc12 pm12 cd12 ct12 oc13 kV13 dc13 pm13 cd13 ct13 oc14 kV14 dc14 pm14 cd14 ct14 oc15 kV15 dc15 pm15 cd15 ct15 oc16 kV16 dc16 pm16 cd16 ct16 oc17 kV17 dc17 pm17 cd17 ct17:Value}
  (a1:PySem.W.nsIn K mainGlobals "crossed"=some (some (.ref f1))) (l1:K.lookup f1=some ⟨oc1,od1,.func (PySem.W.fnOf "crossed" "crossed" (Zp Z9) (Zn Z9) (Zh Z9) .none kV1 dc1 pm1 an1 cd1 ct1),sl1⟩) (c1:PySem.W.codeIn K cd1 "crossed"=true) (k1:PySem.W.keepIn K (.ref f1)=true)
  (a2:PySem.W.nsIn K mainGlobals "partner"=some (some (.ref f2))) (l2:K.lookup f2=some ⟨oc2,od2,.func (PySem.W.fnOf "partner" "partner" (Zp Zaa) (Zn Zaa) (Zh Zaa) .none kV2 dc2 pm2 an2 cd2 ct2),sl2⟩) (c2:PySem.W.codeIn K cd2 "partner"=true) (k2:PySem.W.keepIn K (.ref f2)=true)
  (a3:PySem.W.nsIn K mainGlobals "first_behind"=some (some (.ref f3))) (l3:K.lookup f3=some ⟨oc3,od3,.func (PySem.W.fnOf "first_behind" "first_behind" (Zp Zu) (Zn Zu) (Zh Zu) .none kV3 dc3 pm3 an3 cd3 ct3),sl3⟩) (c3:PySem.W.codeIn K cd3 "first_behind"=true) (k3:PySem.W.keepIn K (.ref f3)=true)
  (a4:PySem.W.nsIn K mainGlobals "expanded"=some (some (.ref f4))) (l4:K.lookup f4=some ⟨oc4,od4,.func (PySem.W.fnOf "expanded" "expanded" (Zp ZW) (Zn ZW) (Zh ZW) .none kV4 dc4 pm4 an4 cd4 ct4),sl4⟩) (c4:PySem.W.codeIn K cd4 "expanded"=true) (k4:PySem.W.keepIn K (.ref f4)=true)
  (a5:PySem.W.nsIn K mainGlobals "row"=some (some (.ref f5))) (l5:K.lookup f5=some ⟨oc5,od5,.func (PySem.W.fnOf "row" "row" (Zp ZdC) (Zn ZdC) (Zh ZdC) .none kV5 dc5 pm5 an5 cd5 ct5),sl5⟩) (c5:PySem.W.codeIn K cd5 "row"=true) (k5:PySem.W.keepIn K (.ref f5)=true)
  (a6:PySem.W.nsIn K mainGlobals "between"=some (some (.ref f6))) (l6:K.lookup f6=some ⟨oc6,od6,.func (PySem.W.fnOf "between" "between" (Zp Zab) (Zn Zab) (Zh Zab) .none kV6 dc6 pm6 an6 cd6 ct6),sl6⟩) (c6:PySem.W.codeIn K cd6 "between"=true) (k6:PySem.W.keepIn K (.ref f6)=true)
  (a7:PySem.W.nsIn K mainGlobals "row_of"=some (some (.ref f7))) (l7:K.lookup f7=some ⟨oc7,od7,.func (PySem.W.fnOf "row_of" "row_of" (Zp Zap) (Zn Zap) (Zh Zap) .none kV7 dc7 pm7 an7 cd7 ct7),sl7⟩) (c7:PySem.W.codeIn K cd7 "row_of"=true) (k7:PySem.W.keepIn K (.ref f7)=true)
  (a8:PySem.W.nsIn K mainGlobals "shows"=some (some (.ref f8))) (l8:K.lookup f8=some ⟨oc8,od8,.func (PySem.W.fnOf "shows" "shows" (Zp ZaV) (Zn ZaV) (Zh ZaV) .none kV8 dc8 pm8 an8 cd8 ct8),sl8⟩) (c8:PySem.W.codeIn K cd8 "shows"=true) (k8:PySem.W.keepIn K (.ref f8)=true)
  (a9:PySem.W.nsIn K mainGlobals "_law_purse"=some (some (.ref f9))) (l9:K.lookup f9=some ⟨oc9,od9,.func (PySem.W.fnOf "_law_purse" "_law_purse" (Zp ZO) (Zn ZO) (Zh ZO) .none kV9 dc9 pm9 an9 cd9 ct9),sl9⟩) (c9:PySem.W.codeIn K cd9 "_law_purse"=true) (k9:PySem.W.keepIn K (.ref f9)=true)
  (a10:PySem.W.nsIn K mainGlobals "_law_take"=some (some (.ref f10))) (l10:K.lookup f10=some ⟨oc10,od10,.func (PySem.W.fnOf "_law_take" "_law_take" (Zp ZY) (Zn ZY) (Zh ZY) .none kV10 dc10 pm10 an10 cd10 ct10),sl10⟩) (c10:PySem.W.codeIn K cd10 "_law_take"=true) (k10:PySem.W.keepIn K (.ref f10)=true)
  (a11:PySem.W.nsIn K mainGlobals "_law_crossed"=some (some (.ref f11))) (l11:K.lookup f11=some ⟨oc11,od11,.func (PySem.W.fnOf "_law_crossed" "_law_crossed" (Zp ZA) (Zn ZA) (Zh ZA) .none kV11 dc11 pm11 an11 cd11 ct11),sl11⟩) (c11:PySem.W.codeIn K cd11 "_law_crossed"=true) (k11:PySem.W.keepIn K (.ref f11)=true)
  (a12:PySem.W.nsIn K mainGlobals "_law_short"=some (some (.ref f12))) (l12:K.lookup f12=some ⟨oc12,od12,.func (PySem.W.fnOf "_law_short" "_law_short" (Zp ZP) (Zn ZP) (Zh ZP) .none kV12 dc12 pm12 an12 cd12 ct12),sl12⟩) (c12:PySem.W.codeIn K cd12 "_law_short"=true) (k12:PySem.W.keepIn K (.ref f12)=true)
  (a13:PySem.W.nsIn K mainGlobals "_law_wedge"=some (some (.ref f13))) (l13:K.lookup f13=some ⟨oc13,od13,.func (PySem.W.fnOf "_law_wedge" "_law_wedge" (Zp ZQ) (Zn ZQ) (Zh ZQ) .none kV13 dc13 pm13 an13 cd13 ct13),sl13⟩) (c13:PySem.W.codeIn K cd13 "_law_wedge"=true) (k13:PySem.W.keepIn K (.ref f13)=true)
  (a14:PySem.W.nsIn K mainGlobals "_law_part"=some (some (.ref f14))) (l14:K.lookup f14=some ⟨oc14,od14,.func (PySem.W.fnOf "_law_part" "_law_part" (Zp ZZ) (Zn ZZ) (Zh ZZ) .none kV14 dc14 pm14 an14 cd14 ct14),sl14⟩) (c14:PySem.W.codeIn K cd14 "_law_part"=true) (k14:PySem.W.keepIn K (.ref f14)=true)
  (a15:PySem.W.nsIn K mainGlobals "_law_only"=some (some (.ref f15))) (l15:K.lookup f15=some ⟨oc15,od15,.func (PySem.W.fnOf "_law_only" "_law_only" (Zp ZR) (Zn ZR) (Zh ZR) .none kV15 dc15 pm15 an15 cd15 ct15),sl15⟩) (c15:PySem.W.codeIn K cd15 "_law_only"=true) (k15:PySem.W.keepIn K (.ref f15)=true)
  (a16:PySem.W.nsIn K mainGlobals "_law_refused"=some (some (.ref f16))) (l16:K.lookup f16=some ⟨oc16,od16,.func (PySem.W.fnOf "_law_refused" "_law_refused" (Zp ZB) (Zn ZB) (Zh ZB) .none kV16 dc16 pm16 an16 cd16 ct16),sl16⟩) (c16:PySem.W.codeIn K cd16 "_law_refused"=true) (k16:PySem.W.keepIn K (.ref f16)=true)
  (a17:PySem.W.nsIn K mainGlobals "law"=some (some (.ref f17))) (l17:K.lookup f17=some ⟨oc17,od17,.func (PySem.W.fnOf "law" "law" (Zp ZbT) (Zn ZbT) (Zh ZbT) .none kV17 dc17 pm17 an17 cd17 ct17),sl17⟩) (c17:PySem.W.codeIn K cd17 "law"=true) (k17:PySem.W.keepIn K (.ref f17)=true)
  (z_zip:PySem.W.nsIn K mainGlobals "zip"=some none)
  (z_len:PySem.W.nsIn K mainGlobals "len"=some none)
  (z_int:PySem.W.nsIn K mainGlobals "int"=some none)
  (z_abs:PySem.W.nsIn K mainGlobals "abs"=some none)
  (z_isinstance:PySem.W.nsIn K mainGlobals "isinstance"=some none)
  (z_ValueError:PySem.W.nsIn K mainGlobals "ValueError"=some none)
  (z_min:PySem.W.nsIn K mainGlobals "min"=some none)
  (z_max:PySem.W.nsIn K mainGlobals "max"=some none)
  (z_range:PySem.W.nsIn K mainGlobals "range"=some none)
  (q_ex_NoWedge:Zfp K "NoWedge"=true)
  (q_it_NoBend:ZG K "NoBend" [(PySem.Str.ofString "NoWedge",false)]=true)
  (q_it_NoBody:ZG K "NoBody" [(PySem.Str.ofString "NoWedge",false)]=true)
  (q_it_NoFour:ZG K "NoFour" [(PySem.Str.ofString "NoWedge",false)]=true)
  (q_it_NoHeight:ZG K "NoHeight" [(PySem.Str.ofString "NoWedge",false)]=true)
  (q_it_NoMinus:ZG K "NoMinus" [(PySem.Str.ofString "NoWedge",false)]=true)
  (q_it_NoOne:ZG K "NoOne" [(PySem.Str.ofString "NoWedge",false)]=true)
  (q_it_NoPlace:ZG K "NoPlace" [(PySem.Str.ofString "NoWedge",false)]=true)
  (q_it_NoRatio:ZG K "NoRatio" [(PySem.Str.ofString "NoWedge",false)]=true)
  (q_it_NoRound:ZG K "NoRound" [(PySem.Str.ofString "NoWedge",false)]=true)
  (q_it_NoRow:ZG K "NoRow" [(PySem.Str.ofString "NoWedge",false)]=true)
  (q_it_NoText:ZG K "NoText" [(PySem.Str.ofString "NoWedge",false)]=true)
  (q_it_NotSmooth:ZG K "NotSmooth" [(PySem.Str.ofString "NoWedge",false)]=true)
  (q_it_NoTurning:ZG K "NoTurning" [(PySem.Str.ofString "NoWedge",false)]=true)
  (q_it_NoWedge:ZG K "NoWedge" [(PySem.Str.ofString "NoWedge",true)]=true)
  (q_it_Unknown:ZG K "Unknown" [(PySem.Str.ofString "NoWedge",false)]=true)
  (q_ib_ValueError:Zev K "ValueError" [(PySem.Str.ofString "NoWedge",true)]=true)
  (q_ct_RayError:Zc8 K "RayError" [PySem.Str.ofString "NoWedge"]=true)
  : ∃ fd:FuncData,(∀ (s:Shared) (v:Value),BindsTo s fd ⟨[v],[]⟩ [("_law_script",v)])/\ ∀ base:Heap,K.In base->base.Ns mainGlobals mg->FnOk l.prog w K mg base (CXE l.prog w) 107 fa fd ["_law_script"] (spD K ZcT):=by
 have e:=hfa.symm.trans (PySem.W.mg_of X G a17)
 cases e
 have T:Txt K mg:=⟨fun c v e=>PySem.W.mg_of X G e,PySem.W.mg_none_of X G z_zip,PySem.W.mg_none_of X G z_len,PySem.W.mg_none_of X G z_int,PySem.W.mg_none_of X G z_abs,PySem.W.mg_none_of X G z_isinstance,PySem.W.mg_none_of X G z_ValueError,PySem.W.mg_none_of X G z_min,PySem.W.mg_none_of X G z_max,PySem.W.mg_none_of X G z_range,q_ex_NoWedge,q_it_NoBend,q_it_NoBody,q_it_NoFour,q_it_NoHeight,q_it_NoMinus,q_it_NoOne,q_it_NoPlace,q_it_NoRatio,q_it_NoRound,q_it_NoRow,q_it_NoText,q_it_NotSmooth,q_it_NoTurning,q_it_NoWedge,q_it_Unknown,q_ib_ValueError,q_ct_RayError,⟨_,a6⟩,⟨_,a5⟩,⟨_,a8⟩,⟨_,a7⟩⟩
 have R1:=ZU (st:=Z9) l1 c1 k1
 have R2:=ZU (st:=Zaa) l2 c2 k2
 have R3:=ZU (st:=Zu) l3 c3 k3
 have R4:=ZU (st:=ZW) l4 c4 k4
 have R5:=ZU (st:=ZdC) l5 c5 k5
 have R6:=ZU (st:=Zab) l6 c6 k6
 have R7:=ZU (st:=Zap) l7 c7 k7
 have R8:=ZU (st:=ZaV) l8 c8 k8
 have R9:=ZU (st:=ZO) l9 c9 k9
 have R10:=ZU (st:=ZY) l10 c10 k10
 have R11:=ZU (st:=ZA) l11 c11 k11
 have R12:=ZU (st:=ZP) l12 c12 k12
 have R13:=ZU (st:=ZQ) l13 c13 k13
 have R14:=ZU (st:=ZZ) l14 c14 k14
 have R15:=ZU (st:=ZR) l15 c15 k15
 have R16:=ZU (st:=ZB) l16 c16 k16
 have R17:=ZU (st:=ZbT) l17 c17 k17
 refine ⟨PySem.W.fnOf "law" "law" (Zp ZbT) (Zn ZbT) (Zh ZbT) .none kV17 dc17 pm17 an17 cd17 ct17,fun s v=> .of_eq rfl,fun base _ _=> ?_⟩
 have C1:Cal l.prog w K mg base "crossed" 1 2 F_crossed:=⟨f1,_,["one","other"],ZdA R1 T,PySem.W.mg_of X G a1,k1,rfl,R1.binds (ps:=["one","other"]) fun _ _ _ _ _ _=>ZeS fun _ _=>rfl⟩
 have C2:Cal l.prog w K mg base "partner" 101 1 F_partner:=⟨f2,_,["ray"],ZdB R2 T,PySem.W.mg_of X G a2,k2,rfl,R2.binds (ps:=["ray"]) fun _ _ _ _ _ _=>ZkG fun _=>rfl⟩
 have C3:Cal l.prog w K mg base "first_behind" 102 2 F_first_behind:=⟨f3,_,["u","v"],Zbm R3 T C2 C1,PySem.W.mg_of X G a3,k3,rfl,R3.binds (ps:=["u","v"]) fun _ _ _ _ _ _=>ZeS fun _ _=>rfl⟩
 have C4:Cal l.prog w K mg base "expanded" 101 2 F_expanded:=⟨f4,_,["top","bottom"],ZcP R4 T,PySem.W.mg_of X G a4,k4,rfl,R4.binds (ps:=["top","bottom"]) fun _ _ _ _ _ _=>ZeS fun _ _=>rfl⟩
 have C5:Cal l.prog w K mg base "row" 103 2 F_row:=⟨f5,_,["u","v"],Zkp R5 T C1 C3 C4,PySem.W.mg_of X G a5,k5,rfl,R5.binds (ps:=["u","v"]) fun _ _ _ _ _ _=>ZeS fun _ _=>rfl⟩
 have C6:Cal l.prog w K mg base "between" 104 2 F_between:=⟨f6,_,["u","v"],ZdD R6 T C5 C3,PySem.W.mg_of X G a6,k6,rfl,R6.binds (ps:=["u","v"]) fun _ _ _ _ _ _=>ZeS fun _ _=>rfl⟩
 have C7:Cal l.prog w K mg base "row_of" 102 1 F_row_of:=⟨f7,_,["ratio"],ZeR R7 T C4,PySem.W.mg_of X G a7,k7,rfl,R7.binds (ps:=["ratio"]) fun _ _ _ _ _ _=>ZkG fun _=>rfl⟩
 have C8:Cal l.prog w K mg base "shows" 105 2 F_shows:=⟨f8,_,["u","v"],ZfP R8 T C6,PySem.W.mg_of X G a8,k8,rfl,R8.binds (ps:=["u","v"]) fun _ _ _ _ _ _=>ZeS fun _ _=>rfl⟩
 have C9:Cal l.prog w K mg base "_law_purse" 1 2 F_law_purse:=⟨f9,_,["_law_script","_law_k"],Zcq R9 T,PySem.W.mg_of X G a9,k9,rfl,R9.binds (ps:=["_law_script","_law_k"]) fun _ _ _ _ _ _=>ZeS fun _ _=>rfl⟩
 have C10:Cal l.prog w K mg base "_law_take" 1 2 F_law_take:=⟨f10,_,["_law_purse_here","_law_many"],ZcQ R10 T,PySem.W.mg_of X G a10,k10,rfl,R10.binds (ps:=["_law_purse_here","_law_many"]) fun _ _ _ _ _ _=>ZeS fun _ _=>rfl⟩
 have C11:Cal l.prog w K mg base "_law_crossed" 1 2 F_law_crossed:=⟨f11,_,["_law_one","_law_other"],Zbt R11 T,PySem.W.mg_of X G a11,k11,rfl,R11.binds (ps:=["_law_one","_law_other"]) fun _ _ _ _ _ _=>ZeS fun _ _=>rfl⟩
 have C12:Cal l.prog w K mg base "_law_short" 101 1 F_law_short:=⟨f12,_,["_law_pair"],Zcr R12 T,PySem.W.mg_of X G a12,k12,rfl,R12.binds (ps:=["_law_pair"]) fun _ _ _ _ _ _=>ZkG fun _=>rfl⟩
 have C13:Cal l.prog w K mg base "_law_wedge" 102 1 F_law_wedge:=⟨f13,_,["_law_purse_here"],Zcs R13 T C10 C12 C11,PySem.W.mg_of X G a13,k13,rfl,R13.binds (ps:=["_law_purse_here"]) fun _ _ _ _ _ _=>ZkG fun _=>rfl⟩
 have C14:Cal l.prog w K mg base "_law_part" 101 2 F_law_part:=⟨f14,_,["_law_one","_law_other"],ZcR R14 T,PySem.W.mg_of X G a14,k14,rfl,R14.binds (ps:=["_law_one","_law_other"]) fun _ _ _ _ _ _=>ZeS fun _ _=>rfl⟩
 have C15:Cal l.prog w K mg base "_law_only" 1 2 F_law_only:=⟨f15,_,["_law_e","_law_kind"],ZcS R15 T,PySem.W.mg_of X G a15,k15,rfl,R15.binds (ps:=["_law_e","_law_kind"]) fun _ _ _ _ _ _=>ZeS fun _ _=>rfl⟩
 have C16:Cal l.prog w K mg base "_law_refused" 106 3 F_law_refused:=⟨f16,_,["_law_make","_law_one","_law_other"],Zbu R16 T C7 C5 C6 C8 C15,PySem.W.mg_of X G a16,k16,rfl,R16.binds (ps:=["_law_make","_law_one","_law_other"]) fun _ _ _ _ _ _=>ZoI fun _ _ _=>rfl⟩
 exact Zkr R17 T C9 C13 C16 C10 C14
end K16
end
section
namespace K16
open PySem PySem.Spec L2 DL
open CB (Bd Wg ZkF ZeP ZaJ ZcO ZaU Zbl ZeQ)
noncomputable abbrev NW:Str:=PySem.Str.ofString "NoWedge"
section
variable {Q:D->Sto->Prop} {E:Str->Sto->Prop} {M:Sto} {n m p d:Nat} {u v:Pt} {N B C:Ro->Sto->Prop} {R:D->Sto->Prop}
theorem Zkt (h:X u v<=0) (hb:Bd 1000000 u\/Bd 1000000 v) (q:E NW M):wO (CB.F_row [pr u.1 u.2,pr v.1 v.2] M) Q E:=by
 simp![CB.F_row,CB.ZhF,Zbl hb]
 exact q
theorem Zct (h:X u v<=0) (hb:Bd 1000000 u\/Bd 1000000 v) (q:E NW M):wO (CB.F_between [pr u.1 u.2,pr v.1 v.2] M) Q E:=by
 simp![CB.F_between,CB.Zbk]
 exact Zkt h hb q
theorem ZhG (h:X u v<=0) (hb:Bd 1000000 u\/Bd 1000000 v) (q:E NW M):wO (CB.F_shows [pr u.1 u.2,pr v.1 v.2] M) Q E:=by
 simp![CB.F_shows,CB.ZcN]
 exact Zct h hb q
theorem ZfQ {t b:Int} (h:t<=b) (q:E NW M):wO (F_row_of [pr t b] M) Q E:=by
 simp![F_row_of,Zdh]
 exact q
noncomputable def nmL:List Str:=[PySem.Str.ofString "bend",PySem.Str.ofString "body",PySem.Str.ofString "four",PySem.Str.ofString "height",PySem.Str.ofString "minus",PySem.Str.ofString "one",PySem.Str.ofString "place",PySem.Str.ofString "ratio",PySem.Str.ofString "round",PySem.Str.ofString "row",PySem.Str.ofString "text",PySem.Str.ofString "smooth",PySem.Str.ofString "turning",PySem.Str.ofString "wedge",PySem.Str.ofString "unknown"]
noncomputable def nm (i:Nat):Str:=nmL.getD i (PySem.Str.ofString "")
noncomputable def ps:List D:=(List.range 15).map fun i=> .tup [.str (nm i),.bl (decide (i=13))]
theorem isE {b:Bool} {ρ:Ro} (h:ρ[0]?=some (some (.err NW []))):Za4 [(NW,b)] (Zg 0) ρ M= .ok (.bl b) M:=by
 simp[Za4,Zg,h,Out.bind]
theorem Zmv {kfs:List (Str × Ev)} {ρ:Ro} {ds:List D} (h:Zi7 kfs ρ (M ++ [.lst []])= .ok ds (M ++ [.lst []])) (q:Q (.dk M.length) (M ++ [.lst ds])):wO (Zi8 kfs ρ M) Q E:=by
 have e1:(M ++ [SO.lst []])[M.length]?=some (.lst []):=by simp
 have e2:(M ++ [SO.lst []]).set M.length (.lst ds)=M ++ [.lst ds]:=by simp
 have e:Zi8 kfs ρ M= .ok (.dk M.length) (M ++ [.lst ds]):=by
  unfold Zi8
  simp only[h,Out.bind,e1,e2]
 rw[e]
 exact q
theorem ZhH {i:Nat} {ρ:Ro} {r:List D} {QS:Src->Sto->Prop} (h:ρ[i]?=some (some (.dk d))) (hm:M[d]?=some (.lst r)) (hn:nfz r=true) (q:QS (.dct d) (M.set d (.lst (.non :: r)))):wO (Zi9 (Zg i) ρ M) QS E:=by
 have e:Zi9 (Zg i) ρ M= .ok (.dct d) (M.set d (.lst (.non :: r))):=by
  unfold Zi9 Zg
  simp only[h,Out.bind,hm,hn,if_true]
 rw[e]
 exact q
theorem dv: ∀ i,i < 15->ZeD kK (.inr (nm i)) (.non :: ps)=some (.bl (decide (i=13))):=by
 intro i hi
 have:i=0\/i=1\/i=2\/i=3\/i=4\/i=5\/i=6\/i=7\/i=8\/i=9\/i=10\/i=11\/i=12\/i=13\/i=14:=by omega
 rcases this with rfl | rfl | rfl | rfl | rfl | rfl | rfl | rfl | rfl | rfl | rfl | rfl | rfl | rfl | rfl<;>rfl
theorem ZoJ {i:Nat} (h:M[d]?=some (.lst (.non :: ps))) (hi:i < 15):wO (Zha (.dk d) (.str (nm i)) M) Q E=Q (.bl (decide (i=13))) M:=by
 have e:Zha (.dk d) (.str (nm i)) M= .ok (.bl (decide (i=13))) M:=by
  have e1:kK (.str (nm i))=some (.inr (nm i)):=rfl
  simp only[Zha,Zdw,e1,h,dv i hi]
 rw[e]
 rfl
theorem Zgh (q: ∀ M',M.length<=M'.length->(∀ j < M.length,M'[j]?=M[j]?)->Q (.bl true) M'):wO (F_law_only [.err NW [],.str (PySem.Str.ofString "wedge")] M) Q E:=by
 have ie: ∀ (b:Bool) (M:Sto),Za4 [(NW,b)] (Zg 0) [some (.err NW []),some (.str (PySem.Str.ofString "wedge")),none] M= .ok (.bl b) M:=fun b M=>isE rfl
 simp![F_law_only,ZbI]
 refine Zmv (ds:=ps) (by simp only[Zi7,ie,Out.bind];rfl) ?_
 simp![Zo]
 have K0:M.length<=(M ++ [SO.lst ps]).length/\ ∀ j < M.length,(M ++ [SO.lst ps])[j]?=M[j]?:=⟨by simp,fun j h=>ZcM h⟩
 have r0:(M ++ [SO.lst ps])[M.length]?=some (.lst ps):=by simp
 obtain ⟨d,hd⟩: ∃ d,M.length=d:=⟨_,rfl⟩
 rw[hd] at r0 ⊢
 generalize M ++ [SO.lst ps]=M0 at *
 refine ZhH rfl r0 rfl ?_
 have r1:(M0.set d (.lst (.non :: ps)))[d]?=some (.lst (.non :: ps)):=List.getElem?_set_self (ZbE r0)
 have K1:M.length<=(M0.set d (.lst (.non :: ps))).length/\ ∀ j < M.length,(M0.set d (.lst (.non :: ps)))[j]?=M[j]?:=⟨by rw[List.length_set];exact K0.1,fun j h=>by rw[List.getElem?_set_ne (by omega)];exact K0.2 j h⟩
 generalize M0.set d (.lst (.non :: ps))=M1 at *
 show wO (ZbY (.dct d) (gNm 0) (tv (e2 Zha (Zg 1) (Zg 0))) (Zg 0) M1.length (cnt (.dct d) M1) 0 [none,some (.dk d)] (M1 ++ [.lst []])) _ _
 have dl:=ZbE r1
 refine Zju (xs:=(List.range 15).map fun i=>D.str (nm i)) (fun i ρ M'=>(∃ a,ρ=[a,some (.dk d)])/\M'=M1 ++ [.lst (if i<=13 then [] else [.str (nm 13)])]) _ 0 _ _ (by simp) (by simp only[cnt,r1];simp[ps]) ⟨⟨_,rfl⟩,rfl⟩ ?_ ?_ ?_
 ·rintro i ρ M' hi ⟨-,rfl⟩
  have r2:(M1 ++ [SO.lst (if i<=13 then [] else [.str (nm 13)])])[d]?=some (.lst (.non :: ps)):=by rw[ZcM dl];exact r1
  have hi:i<=15:=by simpa using hi
  simp only[nxt,r2]
  by_cases c:i < 15
  ·simp[ps,c]
  ·simp[ps,c]
 ·rintro i ρ M' hi ⟨⟨a,rfl⟩,rfl⟩
  have hi:i < 15:=by simpa using hi
  have r2:(M1 ++ [SO.lst (if i<=13 then [] else [.str (nm 13)])])[d]?=some (.lst (.non :: ps)):=by rw[ZcM dl];exact r1
  have e1:((List.range 15).map fun i=>D.str (nm i))[i]'(by simpa using hi)= .str (nm i):=by simp
  rw[e1]
  simp![ZoJ r2 hi]
  by_cases c:i=13
  ·subst c
   rw[decide_eq_true rfl,Zlf]
   have r3:(M1 ++ [SO.lst (if 13<=13 then [] else [.str (nm 13)])])[M1.length]?=some (.lst []):=by simp
   simp![r3]
   simp
  ·rw[decide_eq_false c,Zlg]
   refine ⟨⟨_,rfl⟩,?_⟩
   by_cases c2:i<=12
   ·rw[if_pos (by omega),if_pos c2]
   ·rw[if_neg (by omega),if_neg c2]
 ·rintro ρ M' ⟨-,rfl⟩
  have ei:(if ((List.range 15).map fun i=>D.str (nm i)).length<=13 then [] else [.str (nm 13)])=[D.str (PySem.Str.ofString "wedge")]:=rfl
  rw[ei]
  have r3:(M1 ++ [SO.lst [D.str (PySem.Str.ofString "wedge")]])[M1.length]?=some (.lst [.str (PySem.Str.ofString "wedge")]):=by simp
  have K3:M.length<=(M1 ++ [SO.lst [D.str (PySem.Str.ofString "wedge")]]).length/\ ∀ j < M.length,(M1 ++ [SO.lst [D.str (PySem.Str.ofString "wedge")]])[j]?=M[j]?:=⟨by rw[List.length_append];exact Nat.le_trans K1.1 (Nat.le_add_right _ _),fun j h=>by rw[ZcM (Nat.lt_of_lt_of_le h K1.1)];exact K1.2 j h⟩
  generalize M1 ++ [SO.lst [D.str (PySem.Str.ofString "wedge")]]=M3 at *
  generalize M1.length=o3 at *
  have l3:=ZbE r3
  have ie2: ∀ (b:Bool) (M:Sto),Za4 [(PySem.Str.ofString "NoWedge",b)] (Zg 0) [some (.err NW []),some (.str (PySem.Str.ofString "wedge")),some (.dk d)] M= .ok (.bl b) M:=fun b M=>isE rfl
  simp![Zo]
  have r4:(M3 ++ [SO.lst [D.str (PySem.Str.ofString "wedge")]])[M3.length]?=some (.lst [.str (PySem.Str.ofString "wedge")]):=by simp
  have r5:(M3 ++ [SO.lst [D.str (PySem.Str.ofString "wedge")]])[o3]?=some (.lst [.str (PySem.Str.ofString "wedge")]):=by rw[ZcM l3];exact r3
  have K4:M.length<=(M3 ++ [SO.lst [D.str (PySem.Str.ofString "wedge")]]).length/\ ∀ j < M.length,(M3 ++ [SO.lst [D.str (PySem.Str.ofString "wedge")]])[j]?=M[j]?:=⟨by rw[List.length_append];exact Nat.le_trans K3.1 (Nat.le_add_right _ _),fun j h=>by rw[ZcM (Nat.lt_of_lt_of_le h K3.1)];exact K3.2 j h⟩
  generalize M3 ++ [SO.lst [D.str (PySem.Str.ofString "wedge")]]=M4 at *
  have e5:eqF 12 M4 (.ref o3) (.ref M3.length)=some true:=by
   rw[ZlG r5 r4,if_pos rfl]
   rfl
  simp![e5,ie2]
  exact q _ K4.1 K4.2
noncomputable def Kp (M M':Sto):Prop:=M.length<=M'.length/\ ∀ j < M.length,M'[j]?=M[j]?
theorem Znv {i:Nat} {c:Str} {F:List D->Sto->Out D} {tab:List (Str × (List D->Sto->Out D))} {fs:Av} {ρ:Ro} (h:ρ[i]?=some (some (.fn c))) (ht:tab.lookup c=some F) (q:wO (fs ρ M) (fun ds M1=>wO (F ds M1) Q E) E):wO (eCV i tab fs ρ M) Q E:=by
 have e:eCV i tab fs ρ M=(fs ρ M).bind fun ds M1=>F ds M1:=by
  unfold eCV
  simp only[h,ht]
 rw[e,Zk]
 exact q
theorem ZeT {c:Str} {F:List D->Sto->Out D} (hc:[(PySem.Str.ofString "shows",CB.F_shows),(PySem.Str.ofString "between",CB.F_between),(PySem.Str.ofString "row",CB.F_row)].lookup c=some F) (hF: ∀ {Q:D->Sto->Prop} {E:Str->Sto->Prop},E NW M->wO (F [pr u.1 u.2,pr v.1 v.2] M) Q E) (q: ∀ M',Kp M M'->Q (.bl true) M'):wO (F_law_refused [.fn c,pr u.1 u.2,pr v.1 v.2] M) Q E:=by
 simp![F_law_refused,Zaf]
 refine Znv rfl hc ?_
 simp![Zo]
 refine hF ?_
 simp![Zo]
 refine ⟨by decide +kernel,Zgh fun M' l k=> ?_⟩
 exact q M' ⟨l,k⟩
theorem Zku {t b:Int} (h:t<=b) (q: ∀ M',Kp M M'->Q (.bl true) M'):wO (F_law_refused [.fn (PySem.Str.ofString "row_of"),pr t b,.non] M) Q E:=by
 simp![F_law_refused,Zaf]
 refine Znv rfl rfl ?_
 simp![Zo]
 refine ZfQ h ?_
 simp![Zo]
 refine ⟨by decide +kernel,Zgh fun M' l k=> ?_⟩
 exact q M' ⟨l,k⟩
theorem ZbX {a0 a1 a2 a3 a4 a7 a8 a9 a10:Option D} (h:X u v<=0) (hb:Bd 1000000 u\/Bd 1000000 v) (hN: ∀ M',Kp M M'->N [a0,a1,a2,a3,a4,some (pr u.1 u.2),some (pr v.1 v.2),a7,a8,a9,a10] M'):wS (ZbU [a0,a1,a2,a3,a4,some (pr u.1 u.2),some (pr v.1 v.2),a7,a8,a9,a10] M) N R B C E:=by
 simp![ZbU]
 refine ZeT (F:=CB.F_between) rfl (fun {Q E} e=>Zct h hb e) fun M1 k1=> ?_
 simp![Zo]
 refine ZeT (F:=CB.F_row) rfl (fun {Q E} e=>Zkt h hb e) fun M2 k2=> ?_
 simp![Zo]
 refine ZeT (F:=CB.F_shows) rfl (fun {Q E} e=>ZhG h hb e) fun M3 k3=> ?_
 simp![Zo]
 have tr: ∀ {A B C:Sto},Kp A B->Kp B C->Kp A C:=fun a b=>⟨Nat.le_trans a.1 b.1,fun j h=>(b.2 j (Nat.lt_of_lt_of_le h a.1)).trans (a.2 j h)⟩
 exact hN _ (tr (tr k1 k2) k3)
theorem Zkv {a:Int} {b:Nat} (q:Q (.int (Nat.gcd a.natAbs b:Nat)) M):wO (F_law_part [.int a,.int b] M) Q E:=by
 have e:=Zjd (c:=tv (e2 dGt (Zg 1) (eC (.int 0)))) (i:=0) (j:=1) (M:=M) (by decide) gt0 b a.natAbs [some (.int (a.natAbs:Nat)),some (.int b)] rfl rfl
 have e':sWh (tv (e2 dGt (Zg 1) (eC (.int 0)))) ZaL [some (.int (a.natAbs:Nat)),some (.int b)] M=_:=e
 simp![F_law_part,ZbH]
 rw[e']
 simp![Zo]
 exact q
theorem ZhI {ns:List Int} {i:Nat} {x2 x3 x4 x5 x6 x7 x8 x9 x10:Option D} (hi0:i < 1000) (hN: ∀ x2 x3 x4 x5 x6 x7 x8 x9 x10 M',N [some (.rol (ns.map D.int)),some (.int i),x2,x3,x4,x5,x6,x7,x8,x9,x10] M'):wS (ZbW [some (.rol (ns.map D.int)),some (.int i),x2,x3,x4,x5,x6,x7,x8,x9,x10] M) N R B C E:=by
 simp![ZbW]
 refine ZeP hi0 fun a b ha=> ?_
 have B0:Bag M.length (M ++ [.lst [.int a,.int b]]):=⟨a,b,ha,by simp⟩
 generalize M ++ [SO.lst [.int a,.int b]]=M0 at *
 generalize M.length=n at *
 simp![Zo]
 refine ZeQ B0 fun u v M1 hw bu bv xl G=> ?_
 have B1:Bag n M1:=G.bag
 have n1:n < M1.length:=by obtain ⟨a,b,_,h⟩:=B1;exact ZbE h
 have bu6:Bd 1000000 u:=by unfold Bd at *;omega
 have bv6:Bd 1000000 v:=by unfold Bd at *;omega
 have h0:=hw.pos
 have tr: ∀ {A B C:Sto},Kp A B->Kp B C->Kp A C:=fun a b=>⟨Nat.le_trans a.1 b.1,fun j h=>(b.2 j (Nat.lt_of_lt_of_le h a.1)).trans (a.2 j h)⟩
 have gt: ∀ {A B:Sto} {j:Nat} {o:SO},Kp A B->A[j]?=some o->B[j]?=some o:=fun a h=>(a.2 _ (ZbE h)).trans h
 simp![Zo]
 have r2:(M1 ++ [SO.lst [D.tup [pr v.1 v.2,pr u.1 u.2],D.tup [pr u.1 u.2,pr u.1 u.2],D.tup [pr u.1 u.2,D.tup [D.int (0 - u.1),D.int (0 - u.2)]],D.tup [pr v.1 v.2,pr v.1 v.2]]])[M1.length]?=some (.lst [D.tup [pr v.1 v.2,pr u.1 u.2],D.tup [pr u.1 u.2,pr u.1 u.2],D.tup [pr u.1 u.2,D.tup [D.int (0 - u.1),D.int (0 - u.2)]],D.tup [pr v.1 v.2,pr v.1 v.2]]):=by simp
 have B2:Bag n (M1 ++ [SO.lst [D.tup [pr v.1 v.2,pr u.1 u.2],D.tup [pr u.1 u.2,pr u.1 u.2],D.tup [pr u.1 u.2,D.tup [D.int (0 - u.1),D.int (0 - u.2)]],D.tup [pr v.1 v.2,pr v.1 v.2]]]):=B1.app _
 generalize M1 ++ [SO.lst [D.tup [pr v.1 v.2,pr u.1 u.2],D.tup [pr u.1 u.2,pr u.1 u.2],D.tup [pr u.1 u.2,D.tup [D.int (0 - u.1),D.int (0 - u.2)]],D.tup [pr v.1 v.2,pr v.1 v.2]]]=M2 at *
 refine ZeM (fun t ρ M'=>Kp M2 M'/\ ∃ y5 y6,ρ=[some (.rol (ns.map D.int)),some (.int i),some (.ref n),some (pr u.1 u.2),some (pr v.1 v.2),y5,y6,x7,x8,x9,x10]) r2 ⟨⟨Nat.le_refl _,fun _ _=>rfl⟩,_,_,rfl⟩ (fun t ρ M' hI=>gt hI.1 r2) ?_ ?_
 ·rintro t ρ M' ht ⟨K,y5,y6,rfl⟩
  have:t=0\/t=1\/t=2\/t=3:=by simp at ht;omega
  rcases this with rfl | rfl | rfl | rfl
  ·simp only[List.getElem_cons_zero]
   simp![Zo]
   exact ZbX (u:=v) (v:=u) (by rw[Zmu];omega) (.inl bv6) fun M' K'=>⟨tr K K',_,_,rfl⟩
  ·simp only[List.getElem_cons_succ,List.getElem_cons_zero]
   simp![Zo]
   exact ZbX (u:=u) (v:=u) (by unfold X;grind) (.inl bu6) fun M' K'=>⟨tr K K',_,_,rfl⟩
  ·simp only[List.getElem_cons_succ,List.getElem_cons_zero]
   simp![Zo]
   exact ZbX (u:=u) (v:=(0 - u.1,0 - u.2)) (by unfold X;simp only;grind) (.inl bu6) fun M' K'=>⟨tr K K',_,_,rfl⟩
  ·simp only[List.getElem_cons_succ,List.getElem_cons_zero]
   simp![Zo]
   exact ZbX (u:=v) (v:=v) (by unfold X;grind) (.inl bv6) fun M' K'=>⟨tr K K',_,_,rfl⟩
 ·rintro ρ M3 ⟨K3,y5,y6,rfl⟩
  have B3:Bag n M3:=by
   obtain ⟨a,b,h1,h2⟩:=B2
   exact ⟨a,b,h1,gt K3 h2⟩
  clear B2 r2 K3 B1 G B0
  simp![Zo]
  refine ZaJ B3 (by decide) fun r4 M4 r40 r41 g4=> ?_
  obtain ⟨k4,rfl⟩: ∃ k:Nat,r4=k:=⟨r4.toNat,by omega⟩
  simp![Zo]
  refine ZaJ g4.bag (by decide) fun r5 M5 r50 r51 g5=> ?_
  simp![Zo]
  refine ZaJ g5.bag (by decide) fun r6 M6 r60 r61 g6=> ?_
  have top:(1 + (k4:Int)) * r5 - 1 - r6<=1 + k4:=by
   have:r5=0\/r5=1:=by omega
   rcases this with rfl | rfl<;>omega
  have tb: -100<=(1 + (k4:Int)) * r5 - 1 - r6:=by
   have:r5=0\/r5=1:=by omega
   rcases this with rfl | rfl<;>omega
  simp![Zo]
  generalize (1 + (k4:Int)) * r5 - 1 - r6=tp at *
  obtain ⟨bt,hbt⟩: ∃ bt:Nat,bt=1 + k4:=⟨_,rfl⟩
  rw[show (1 + (k4:Int))=(bt:Int) by omega] at top ⊢
  have b1:1<=bt/\bt<=30:=by omega
  clear hbt
  refine Zkv ?_
  have g0:0 < Nat.gcd tp.natAbs bt:=Nat.gcd_pos_of_pos_right _ (by omega)
  have g1:Nat.gcd tp.natAbs bt<=bt:=Nat.gcd_le_right _ (by omega)
  generalize Nat.gcd tp.natAbs bt=g at *
  have dv4:tp / (g:Int)<=(bt:Int) / g:=Int.ediv_le_ediv (by omega) top
  simp![Zo]
  have r7:(M6 ++ [SO.lst [D.tup [D.int 1,D.int 1],D.tup [D.int 0,D.int 1],D.tup [D.int (-1),D.int bt],D.tup [D.int (tp / g),D.int (bt / g)]]])[M6.length]?=some (.lst [D.tup [D.int 1,D.int 1],D.tup [D.int 0,D.int 1],D.tup [D.int (-1),D.int bt],D.tup [D.int (tp / g),D.int (bt / g)]]):=by simp
  generalize M6 ++ [SO.lst [D.tup [D.int 1,D.int 1],D.tup [D.int 0,D.int 1],D.tup [D.int (-1),D.int bt],D.tup [D.int (tp / g),D.int (bt / g)]]]=M7 at *
  refine ZeM (fun t ρ M'=>Kp M7 M'/\ ∃ y10,ρ=[some (.rol (ns.map D.int)),some (.int i),some (.ref n),some (pr u.1 u.2),some (pr v.1 v.2),y5,y6,some (.int bt),some (.int tp),some (.int g),y10]) r7 ⟨⟨Nat.le_refl _,fun _ _=>rfl⟩,_,rfl⟩ (fun t ρ M' hI=>gt hI.1 r7) ?_ ?_
  ·rintro t ρ M' ht ⟨K,y10,rfl⟩
   have:t=0\/t=1\/t=2\/t=3:=by simp at ht;omega
   have go: ∀ {t b:Int},t<=b->wS (ZbV [some (.rol (ns.map D.int)),some (.int i),some (.ref n),some (pr u.1 u.2),some (pr v.1 v.2),y5,y6,some (.int bt),some (.int tp),some (.int g),some (pr t b)] M') (fun ρ M'=>Kp M7 M'/\ ∃ y10,ρ=[some (.rol (ns.map D.int)),some (.int i),some (.ref n),some (pr u.1 u.2),some (pr v.1 v.2),y5,y6,some (.int bt),some (.int tp),some (.int g),y10]) R N (fun ρ M'=>Kp M7 M'/\ ∃ y10,ρ=[some (.rol (ns.map D.int)),some (.int i),some (.ref n),some (pr u.1 u.2),some (pr v.1 v.2),y5,y6,some (.int bt),some (.int tp),some (.int g),y10]) E:=by
    intro t b hb
    simp![ZbV]
    refine Zku hb fun M8 K8=> ?_
    simp![Zo]
    exact ⟨tr K K8,_,rfl⟩
   rcases this with rfl | rfl | rfl | rfl
   ·simp only[List.getElem_cons_zero]
    simp![Zo]
    exact go (by omega)
   ·simp only[List.getElem_cons_succ,List.getElem_cons_zero]
    simp![Zo]
    exact go (by omega)
   ·simp only[List.getElem_cons_succ,List.getElem_cons_zero]
    simp![Zo]
    exact go (by omega)
   ·simp only[List.getElem_cons_succ,List.getElem_cons_zero]
    simp![Zo]
    exact go dv4
  ·rintro ρ M' ⟨K,y10,rfl⟩
   exact hN _ _ _ _ _ _ _ _ _ _
theorem law_true (ns:List Int) (h:ns.length<=63): ∃ M',ZcT [.rol (ns.map D.int)] []= .ok (.bl true) M':=by
 have w:wO (ZcT [.rol (ns.map D.int)] []) (fun d _=>d= .bl true) (fun _ _=>False):=by
  simp![ZcT,Zkq]
  refine ⟨by omega,?_⟩
  refine Zjs (fun _ ρ _=> ∃ x1 x2 x3 x4 x5 x6 x7 x8 x9 x10,ρ=[some (.rol (ns.map D.int)),x1,x2,x3,x4,x5,x6,x7,x8,x9,x10]) ⟨_,_,_,_,_,_,_,_,_,_,rfl⟩ ?_ ?_
  ·rintro i ρ M hi ⟨x1,x2,x3,x4,x5,x6,x7,x8,x9,x10,rfl⟩
   rw[show (0:Int) + (i:Int)=i by omega]
   simp![Zo]
   exact ZhI (by omega) fun _ _ _ _ _ _ _ _ _ _=>⟨_,_,_,_,_,_,_,_,_,_,rfl⟩
  ·rintro ρ M ⟨x1,x2,x3,x4,x5,x6,x7,x8,x9,x10,rfl⟩
   simp![Zo]
 obtain ⟨d,M',e,rfl⟩:=Zjj w
 exact ⟨M',e⟩
end
end K16
end
namespace K16
open PySem PySem.Spec L2 DL
noncomputable abbrev zz1 (P:Params) (s:String) (n:Nat) (v:Value):DictEntry:={ hash:=PyData.keyHash P (Str.ofString s),key:=Value.str (Str.ofString s) n,val:=v }
noncomputable abbrev zz2 (x:Array Value):Obj:={ cls:=Value.type "code",data:=Data.fields x }
noncomputable abbrev zz3 (s:String) (n:Nat):Value:=Value.str (Str.ofString s) n
noncomputable abbrev zz4 (n:Int):Value:=Value.int n 0
noncomputable def fO (n:Str) (st:Stmt) (cd:Nat) (m:Str) (t:Nat):Obj:=⟨.type "function",none,.func (PySem.W.fnOf n n (Zp st) (Zn st) (Zh st) .none .none .none (.str m t) none (.ref cd) .none),#[]⟩
noncomputable def ZbZ (p:Program) (i:Nat):Stmt:=p.main.body.getD i (.Pass ⟨0,0,0,0⟩)
noncomputable def Kf (p:Program) (P:Params):PySem.W.Frag:=[(3,{ cls:=Value.type "dict",data:=Data.dict #[zz1 P "__name__" 165 (zz3 "law_rayround_k16_no_wedges" 544),zz1 P "__doc__" 166 (Value.none),zz1 P "__package__" 167 (Value.none),zz1 P "__loader__" 168 (Value.builtin "__main__.__loader__#opaque"),zz1 P "__spec__" 169 (Value.none),zz1 P "__annotations__" 170 (Value.ref 6),zz1 P "__builtins__" 171 (Value.ref 4),zz1 P "__file__" 173 (zz3 "/claim/cut.py" 172),zz1 P "__cached__" 174 (Value.none),zz1 P "RayError" 206 (Value.ref 24),zz1 P "NoRatio" 222 (Value.ref 37),zz1 P "NoTurning" 238 (Value.ref 49),zz1 P "NoRound" 265 (Value.ref 68),zz1 P "NotSmooth" 281 (Value.ref 80),zz1 P "NoWedge" 297 (Value.ref 92),zz1 P "NoRow" 313 (Value.ref 104),zz1 P "NoPlace" 329 (Value.ref 116),zz1 P "NoMinus" 345 (Value.ref 128),zz1 P "NoFour" 361 (Value.ref 140),zz1 P "NoHeight" 377 (Value.ref 152),zz1 P "NoBend" 393 (Value.ref 164),zz1 P "NoBody" 409 (Value.ref 176),zz1 P "NoOne" 425 (Value.ref 188),zz1 P "NoText" 441 (Value.ref 200),zz1 P "Unknown" 457 (Value.ref 212),zz1 P "crossed" 467 (Value.ref 221),zz1 P "partner" 481 (Value.ref 228),zz1 P "first_behind" 491 (Value.ref 235),zz1 P "expanded" 501 (Value.ref 242),zz1 P "row" 509 (Value.ref 249),zz1 P "between" 522 (Value.ref 256),zz1 P "row_of" 531 (Value.ref 263),zz1 P "shows" 543 (Value.ref 270),zz1 P "_law_purse" 555 (Value.ref 277),zz1 P "_law_take" 564 (Value.ref 284),zz1 P "_law_crossed" 572 (Value.ref 291),zz1 P "_law_short" 581 (Value.ref 298),zz1 P "_law_wedge" 591 (Value.ref 305),zz1 P "_law_part" 599 (Value.ref 312),zz1 P "_law_only" 605 (Value.ref 317),zz1 P "_law_refused" 615 (Value.ref 324),zz1 P "law" 632 (Value.ref 331)] 42 }),
 (221,fO "crossed" (ZbZ p 18) 220 "rayround.pairs" 458),
 (220,zz2 #[zz3 "crossed" 460,zz3 "crossed" 461,zz3 "/claim/cut.py" 462,zz4 39,zz4 2,zz4 0,zz4 0,zz4 3,Value.ref 215,Value.bool true,zz4 181,Value.ref 216,Value.none,Value.ref 217,Value.ref 218,Value.ref 219,zz4 465,zz4 39,zz3 "/claim/cut.py" 466]),
 (228,fO "partner" (ZbZ p 20) 227 "rayround.wedges" 468),
 (227,zz2 #[zz3 "partner" 470,zz3 "partner" 471,zz3 "/claim/cut.py" 472,zz4 42,zz4 1,zz4 0,zz4 0,zz4 3,Value.ref 222,Value.bool true,zz4 181,Value.ref 223,Value.none,Value.ref 224,Value.ref 225,Value.ref 226,zz4 479,zz4 42,zz3 "/claim/cut.py" 480]),
 (235,fO "first_behind" (ZbZ p 21) 234 "rayround.wedges" 468),
 (234,zz2 #[zz3 "first_behind" 482,zz3 "first_behind" 483,zz3 "/claim/cut.py" 484,zz4 50,zz4 2,zz4 0,zz4 0,zz4 3,Value.ref 229,Value.bool true,zz4 181,Value.ref 230,Value.none,Value.ref 231,Value.ref 232,Value.ref 233,zz4 489,zz4 50,zz3 "/claim/cut.py" 490]),
 (242,fO "expanded" (ZbZ p 22) 241 "rayround.wedges" 468),
 (241,zz2 #[zz3 "expanded" 492,zz3 "expanded" 493,zz3 "/claim/cut.py" 494,zz4 54,zz4 2,zz4 0,zz4 0,zz4 3,Value.ref 236,Value.bool true,zz4 181,Value.ref 237,Value.none,Value.ref 238,Value.ref 239,Value.ref 240,zz4 499,zz4 54,zz3 "/claim/cut.py" 500]),
 (249,fO "row" (ZbZ p 23) 248 "rayround.wedges" 468),
 (248,zz2 #[zz3 "row" 502,zz3 "row" 503,zz3 "/claim/cut.py" 504,zz4 61,zz4 2,zz4 0,zz4 0,zz4 3,Value.ref 243,Value.bool true,zz4 181,Value.ref 244,Value.none,Value.ref 245,Value.ref 246,Value.ref 247,zz4 507,zz4 61,zz3 "/claim/cut.py" 508]),
 (256,fO "between" (ZbZ p 24) 255 "rayround.wedges" 468),
 (255,zz2 #[zz3 "between" 510,zz3 "between" 511,zz3 "/claim/cut.py" 512,zz4 65,zz4 2,zz4 0,zz4 0,zz4 3,Value.ref 250,Value.bool true,zz4 181,Value.ref 251,Value.none,Value.ref 252,Value.ref 253,Value.ref 254,zz4 520,zz4 65,zz3 "/claim/cut.py" 521]),
 (263,fO "row_of" (ZbZ p 25) 262 "rayround.wedges" 468),
 (262,zz2 #[zz3 "row_of" 523,zz3 "row_of" 524,zz3 "/claim/cut.py" 525,zz4 73,zz4 1,zz4 0,zz4 0,zz4 3,Value.ref 257,Value.bool true,zz4 181,Value.ref 258,Value.none,Value.ref 259,Value.ref 260,Value.ref 261,zz4 529,zz4 73,zz3 "/claim/cut.py" 530]),
 (270,fO "shows" (ZbZ p 26) 269 "rayround.wedges" 468),
 (269,zz2 #[zz3 "shows" 532,zz3 "shows" 533,zz3 "/claim/cut.py" 534,zz4 78,zz4 2,zz4 0,zz4 0,zz4 3,Value.ref 264,Value.bool true,zz4 181,Value.ref 265,Value.none,Value.ref 266,Value.ref 267,Value.ref 268,zz4 541,zz4 78,zz3 "/claim/cut.py" 542]),
 (277,fO "_law_purse" (ZbZ p 28) 276 "law_rayround_k16_no_wedges" 544),
 (276,zz2 #[zz3 "_law_purse" 546,zz3 "_law_purse" 547,zz3 "/claim/cut.py" 548,zz4 85,zz4 2,zz4 0,zz4 0,zz4 3,Value.ref 271,Value.bool true,zz4 181,Value.ref 272,Value.none,Value.ref 273,Value.ref 274,Value.ref 275,zz4 553,zz4 85,zz3 "/claim/cut.py" 554]),
 (284,fO "_law_take" (ZbZ p 29) 283 "law_rayround_k16_no_wedges" 544),
 (283,zz2 #[zz3 "_law_take" 556,zz3 "_law_take" 557,zz3 "/claim/cut.py" 558,zz4 91,zz4 2,zz4 0,zz4 0,zz4 3,Value.ref 278,Value.bool true,zz4 181,Value.ref 279,Value.none,Value.ref 280,Value.ref 281,Value.ref 282,zz4 562,zz4 91,zz3 "/claim/cut.py" 563]),
 (291,fO "_law_crossed" (ZbZ p 30) 290 "law_rayround_k16_no_wedges" 544),
 (290,zz2 #[zz3 "_law_crossed" 565,zz3 "_law_crossed" 566,zz3 "/claim/cut.py" 567,zz4 98,zz4 2,zz4 0,zz4 0,zz4 3,Value.ref 285,Value.bool true,zz4 181,Value.ref 286,Value.none,Value.ref 287,Value.ref 288,Value.ref 289,zz4 570,zz4 98,zz3 "/claim/cut.py" 571]),
 (298,fO "_law_short" (ZbZ p 31) 297 "law_rayround_k16_no_wedges" 544),
 (297,zz2 #[zz3 "_law_short" 573,zz3 "_law_short" 574,zz3 "/claim/cut.py" 575,zz4 100,zz4 1,zz4 0,zz4 0,zz4 3,Value.ref 292,Value.bool true,zz4 181,Value.ref 293,Value.none,Value.ref 294,Value.ref 295,Value.ref 296,zz4 579,zz4 100,zz3 "/claim/cut.py" 580]),
 (305,fO "_law_wedge" (ZbZ p 32) 304 "law_rayround_k16_no_wedges" 544),
 (304,zz2 #[zz3 "_law_wedge" 582,zz3 "_law_wedge" 583,zz3 "/claim/cut.py" 584,zz4 107,zz4 1,zz4 0,zz4 0,zz4 3,Value.ref 299,Value.bool true,zz4 181,Value.ref 300,Value.none,Value.ref 301,Value.ref 302,Value.ref 303,zz4 589,zz4 107,zz3 "/claim/cut.py" 590]),
 (312,fO "_law_part" (ZbZ p 33) 311 "law_rayround_k16_no_wedges" 544),
 (311,zz2 #[zz3 "_law_part" 592,zz3 "_law_part" 593,zz3 "/claim/cut.py" 594,zz4 116,zz4 2,zz4 0,zz4 0,zz4 3,Value.ref 306,Value.bool true,zz4 181,Value.ref 307,Value.none,Value.ref 308,Value.ref 309,Value.ref 310,zz4 597,zz4 116,zz3 "/claim/cut.py" 598]),
 (317,fO "_law_only" (ZbZ p 34) 316 "law_rayround_k16_no_wedges" 544),
 (316,zz2 #[zz3 "_law_only" 600,zz3 "_law_only" 601,zz3 "/claim/cut.py" 602,zz4 121,zz4 2,zz4 0,zz4 0,zz4 3,Value.ref 313,Value.bool true,zz4 181,Value.ref 314,Value.none,Value.none,Value.none,Value.ref 315,zz4 603,zz4 121,zz3 "/claim/cut.py" 604]),
 (324,fO "_law_refused" (ZbZ p 35) 323 "law_rayround_k16_no_wedges" 544),
 (323,zz2 #[zz3 "_law_refused" 606,zz3 "_law_refused" 607,zz3 "/claim/cut.py" 608,zz4 124,zz4 3,zz4 0,zz4 0,zz4 3,Value.ref 318,Value.bool true,zz4 181,Value.ref 319,Value.none,Value.ref 320,Value.ref 321,Value.ref 322,zz4 613,zz4 124,zz3 "/claim/cut.py" 614]),
 (331,fO "law" (ZbZ p 36) 330 "law_rayround_k16_no_wedges" 544),
 (330,zz2 #[zz3 "law" 616,zz3 "law" 617,zz3 "/claim/cut.py" 618,zz4 133,zz4 1,zz4 0,zz4 0,zz4 3,Value.ref 325,Value.bool true,zz4 181,Value.ref 326,Value.none,Value.ref 327,Value.ref 328,Value.ref 329,zz4 630,zz4 133,zz3 "/claim/cut.py" 631]),
 (23,{ cls:=Value.type "dict",data:=Data.dict #[zz1 P "__module__" 196 (zz3 "rayround.errors" 187),zz1 P "__firstlineno__" 200 (Value.int 2 199),zz1 P "__static_attributes__" 201 (Value.ref 22),zz1 P "__weakref__" 203 (Value.ref 25),zz1 P "__doc__" 204 (Value.none)] 3 }),
 (24,{ cls:=Value.type "type",data:=Data.cls { name:=Str.ofString "RayError",bases:=[Value.type "ValueError"],mro:=[Value.ref 24,Value.type "ValueError",Value.type "Exception",Value.type "BaseException",Value.type "object"],ns:=23,qualname:=Str.ofString "RayError",subclasses:=[Value.ref 37,Value.ref 49,Value.ref 68,Value.ref 80,Value.ref 92,Value.ref 104,Value.ref 116,Value.ref 128,Value.ref 140,Value.ref 152,Value.ref 164,Value.ref 176,Value.ref 188,Value.ref 200,Value.ref 212] },slots:= #[some (Value.ref 15),none,some (zz3 "RayError" 189),some (zz3 "RayError" 197),some (Value.builtin "ValueError.__new__"),some (Value.bool true)] }),
 (36,{ cls:=Value.type "dict",data:=Data.dict #[zz1 P "__module__" 214 (zz3 "rayround.errors" 187),zz1 P "__firstlineno__" 218 (Value.int 4 217),zz1 P "__static_attributes__" 219 (Value.ref 35),zz1 P "__doc__" 220 (Value.none)] 2 }),
 (37,{ cls:=Value.type "type",data:=Data.cls { name:=Str.ofString "NoRatio",bases:=[Value.ref 24],mro:=[Value.ref 37,Value.ref 24,Value.type "ValueError",Value.type "Exception",Value.type "BaseException",Value.type "object"],ns:=36,qualname:=Str.ofString "NoRatio" },slots:= #[some (Value.ref 28),none,some (zz3 "NoRatio" 207),some (zz3 "NoRatio" 215),some (Value.builtin "ValueError.__new__"),some (Value.bool true)] }),
 (48,{ cls:=Value.type "dict",data:=Data.dict #[zz1 P "__module__" 230 (zz3 "rayround.errors" 187),zz1 P "__firstlineno__" 234 (Value.int 6 233),zz1 P "__static_attributes__" 235 (Value.ref 47),zz1 P "__doc__" 236 (Value.none)] 2 }),
 (49,{ cls:=Value.type "type",data:=Data.cls { name:=Str.ofString "NoTurning",bases:=[Value.ref 24],mro:=[Value.ref 49,Value.ref 24,Value.type "ValueError",Value.type "Exception",Value.type "BaseException",Value.type "object"],ns:=48,qualname:=Str.ofString "NoTurning" },slots:= #[some (Value.ref 40),none,some (zz3 "NoTurning" 223),some (zz3 "NoTurning" 231),some (Value.builtin "ValueError.__new__"),some (Value.bool true)] }),
 (67,{ cls:=Value.type "dict",data:=Data.dict #[zz1 P "__module__" 246 (zz3 "rayround.errors" 187),zz1 P "__firstlineno__" 250 (Value.int 8 249),zz1 P "__init__" 259 (Value.ref 65),zz1 P "__static_attributes__" 262 (Value.ref 66),zz1 P "__doc__" 263 (Value.none)] 2 }),
 (68,{ cls:=Value.type "type",data:=Data.cls { name:=Str.ofString "NoRound",bases:=[Value.ref 24],mro:=[Value.ref 68,Value.ref 24,Value.type "ValueError",Value.type "Exception",Value.type "BaseException",Value.type "object"],ns:=67,qualname:=Str.ofString "NoRound" },slots:= #[some (Value.ref 52),none,some (zz3 "NoRound" 239),some (zz3 "NoRound" 247),some (Value.builtin "ValueError.__new__"),some (Value.bool true)] }),
 (79,{ cls:=Value.type "dict",data:=Data.dict #[zz1 P "__module__" 273 (zz3 "rayround.errors" 187),zz1 P "__firstlineno__" 277 (Value.int 14 276),zz1 P "__static_attributes__" 278 (Value.ref 78),zz1 P "__doc__" 279 (Value.none)] 2 }),
 (80,{ cls:=Value.type "type",data:=Data.cls { name:=Str.ofString "NotSmooth",bases:=[Value.ref 24],mro:=[Value.ref 80,Value.ref 24,Value.type "ValueError",Value.type "Exception",Value.type "BaseException",Value.type "object"],ns:=79,qualname:=Str.ofString "NotSmooth" },slots:= #[some (Value.ref 71),none,some (zz3 "NotSmooth" 266),some (zz3 "NotSmooth" 274),some (Value.builtin "ValueError.__new__"),some (Value.bool true)] }),
 (91,{ cls:=Value.type "dict",data:=Data.dict #[zz1 P "__module__" 289 (zz3 "rayround.errors" 187),zz1 P "__firstlineno__" 293 (Value.int 16 292),zz1 P "__static_attributes__" 294 (Value.ref 90),zz1 P "__doc__" 295 (Value.none)] 2 }),
 (92,{ cls:=Value.type "type",data:=Data.cls { name:=Str.ofString "NoWedge",bases:=[Value.ref 24],mro:=[Value.ref 92,Value.ref 24,Value.type "ValueError",Value.type "Exception",Value.type "BaseException",Value.type "object"],ns:=91,qualname:=Str.ofString "NoWedge" },slots:= #[some (Value.ref 83),none,some (zz3 "NoWedge" 282),some (zz3 "NoWedge" 290),some (Value.builtin "ValueError.__new__"),some (Value.bool true)] }),
 (103,{ cls:=Value.type "dict",data:=Data.dict #[zz1 P "__module__" 305 (zz3 "rayround.errors" 187),zz1 P "__firstlineno__" 309 (Value.int 18 308),zz1 P "__static_attributes__" 310 (Value.ref 102),zz1 P "__doc__" 311 (Value.none)] 2 }),
 (104,{ cls:=Value.type "type",data:=Data.cls { name:=Str.ofString "NoRow",bases:=[Value.ref 24],mro:=[Value.ref 104,Value.ref 24,Value.type "ValueError",Value.type "Exception",Value.type "BaseException",Value.type "object"],ns:=103,qualname:=Str.ofString "NoRow" },slots:= #[some (Value.ref 95),none,some (zz3 "NoRow" 298),some (zz3 "NoRow" 306),some (Value.builtin "ValueError.__new__"),some (Value.bool true)] }),
 (115,{ cls:=Value.type "dict",data:=Data.dict #[zz1 P "__module__" 321 (zz3 "rayround.errors" 187),zz1 P "__firstlineno__" 325 (Value.int 20 324),zz1 P "__static_attributes__" 326 (Value.ref 114),zz1 P "__doc__" 327 (Value.none)] 2 }),
 (116,{ cls:=Value.type "type",data:=Data.cls { name:=Str.ofString "NoPlace",bases:=[Value.ref 24],mro:=[Value.ref 116,Value.ref 24,Value.type "ValueError",Value.type "Exception",Value.type "BaseException",Value.type "object"],ns:=115,qualname:=Str.ofString "NoPlace" },slots:= #[some (Value.ref 107),none,some (zz3 "NoPlace" 314),some (zz3 "NoPlace" 322),some (Value.builtin "ValueError.__new__"),some (Value.bool true)] }),
 (127,{ cls:=Value.type "dict",data:=Data.dict #[zz1 P "__module__" 337 (zz3 "rayround.errors" 187),zz1 P "__firstlineno__" 341 (Value.int 22 340),zz1 P "__static_attributes__" 342 (Value.ref 126),zz1 P "__doc__" 343 (Value.none)] 2 }),
 (128,{ cls:=Value.type "type",data:=Data.cls { name:=Str.ofString "NoMinus",bases:=[Value.ref 24],mro:=[Value.ref 128,Value.ref 24,Value.type "ValueError",Value.type "Exception",Value.type "BaseException",Value.type "object"],ns:=127,qualname:=Str.ofString "NoMinus" },slots:= #[some (Value.ref 119),none,some (zz3 "NoMinus" 330),some (zz3 "NoMinus" 338),some (Value.builtin "ValueError.__new__"),some (Value.bool true)] }),
 (139,{ cls:=Value.type "dict",data:=Data.dict #[zz1 P "__module__" 353 (zz3 "rayround.errors" 187),zz1 P "__firstlineno__" 357 (Value.int 24 356),zz1 P "__static_attributes__" 358 (Value.ref 138),zz1 P "__doc__" 359 (Value.none)] 2 }),
 (140,{ cls:=Value.type "type",data:=Data.cls { name:=Str.ofString "NoFour",bases:=[Value.ref 24],mro:=[Value.ref 140,Value.ref 24,Value.type "ValueError",Value.type "Exception",Value.type "BaseException",Value.type "object"],ns:=139,qualname:=Str.ofString "NoFour" },slots:= #[some (Value.ref 131),none,some (zz3 "NoFour" 346),some (zz3 "NoFour" 354),some (Value.builtin "ValueError.__new__"),some (Value.bool true)] }),
 (151,{ cls:=Value.type "dict",data:=Data.dict #[zz1 P "__module__" 369 (zz3 "rayround.errors" 187),zz1 P "__firstlineno__" 373 (Value.int 26 372),zz1 P "__static_attributes__" 374 (Value.ref 150),zz1 P "__doc__" 375 (Value.none)] 2 }),
 (152,{ cls:=Value.type "type",data:=Data.cls { name:=Str.ofString "NoHeight",bases:=[Value.ref 24],mro:=[Value.ref 152,Value.ref 24,Value.type "ValueError",Value.type "Exception",Value.type "BaseException",Value.type "object"],ns:=151,qualname:=Str.ofString "NoHeight" },slots:= #[some (Value.ref 143),none,some (zz3 "NoHeight" 362),some (zz3 "NoHeight" 370),some (Value.builtin "ValueError.__new__"),some (Value.bool true)] }),
 (163,{ cls:=Value.type "dict",data:=Data.dict #[zz1 P "__module__" 385 (zz3 "rayround.errors" 187),zz1 P "__firstlineno__" 389 (Value.int 28 388),zz1 P "__static_attributes__" 390 (Value.ref 162),zz1 P "__doc__" 391 (Value.none)] 2 }),
 (164,{ cls:=Value.type "type",data:=Data.cls { name:=Str.ofString "NoBend",bases:=[Value.ref 24],mro:=[Value.ref 164,Value.ref 24,Value.type "ValueError",Value.type "Exception",Value.type "BaseException",Value.type "object"],ns:=163,qualname:=Str.ofString "NoBend" },slots:= #[some (Value.ref 155),none,some (zz3 "NoBend" 378),some (zz3 "NoBend" 386),some (Value.builtin "ValueError.__new__"),some (Value.bool true)] }),
 (175,{ cls:=Value.type "dict",data:=Data.dict #[zz1 P "__module__" 401 (zz3 "rayround.errors" 187),zz1 P "__firstlineno__" 405 (Value.int 30 404),zz1 P "__static_attributes__" 406 (Value.ref 174),zz1 P "__doc__" 407 (Value.none)] 2 }),
 (176,{ cls:=Value.type "type",data:=Data.cls { name:=Str.ofString "NoBody",bases:=[Value.ref 24],mro:=[Value.ref 176,Value.ref 24,Value.type "ValueError",Value.type "Exception",Value.type "BaseException",Value.type "object"],ns:=175,qualname:=Str.ofString "NoBody" },slots:= #[some (Value.ref 167),none,some (zz3 "NoBody" 394),some (zz3 "NoBody" 402),some (Value.builtin "ValueError.__new__"),some (Value.bool true)] }),
 (187,{ cls:=Value.type "dict",data:=Data.dict #[zz1 P "__module__" 417 (zz3 "rayround.errors" 187),zz1 P "__firstlineno__" 421 (Value.int 32 420),zz1 P "__static_attributes__" 422 (Value.ref 186),zz1 P "__doc__" 423 (Value.none)] 2 }),
 (188,{ cls:=Value.type "type",data:=Data.cls { name:=Str.ofString "NoOne",bases:=[Value.ref 24],mro:=[Value.ref 188,Value.ref 24,Value.type "ValueError",Value.type "Exception",Value.type "BaseException",Value.type "object"],ns:=187,qualname:=Str.ofString "NoOne" },slots:= #[some (Value.ref 179),none,some (zz3 "NoOne" 410),some (zz3 "NoOne" 418),some (Value.builtin "ValueError.__new__"),some (Value.bool true)] }),
 (199,{ cls:=Value.type "dict",data:=Data.dict #[zz1 P "__module__" 433 (zz3 "rayround.errors" 187),zz1 P "__firstlineno__" 437 (Value.int 34 436),zz1 P "__static_attributes__" 438 (Value.ref 198),zz1 P "__doc__" 439 (Value.none)] 2 }),
 (200,{ cls:=Value.type "type",data:=Data.cls { name:=Str.ofString "NoText",bases:=[Value.ref 24],mro:=[Value.ref 200,Value.ref 24,Value.type "ValueError",Value.type "Exception",Value.type "BaseException",Value.type "object"],ns:=199,qualname:=Str.ofString "NoText" },slots:= #[some (Value.ref 191),none,some (zz3 "NoText" 426),some (zz3 "NoText" 434),some (Value.builtin "ValueError.__new__"),some (Value.bool true)] }),
 (211,{ cls:=Value.type "dict",data:=Data.dict #[zz1 P "__module__" 449 (zz3 "rayround.errors" 187),zz1 P "__firstlineno__" 453 (Value.int 36 452),zz1 P "__static_attributes__" 454 (Value.ref 210),zz1 P "__doc__" 455 (Value.none)] 2 }),
 (212,{ cls:=Value.type "type",data:=Data.cls { name:=Str.ofString "Unknown",bases:=[Value.ref 24],mro:=[Value.ref 212,Value.ref 24,Value.type "ValueError",Value.type "Exception",Value.type "BaseException",Value.type "object"],ns:=211,qualname:=Str.ofString "Unknown" },slots:= #[some (Value.ref 203),none,some (zz3 "Unknown" 442),some (zz3 "Unknown" 450),some (Value.builtin "ValueError.__new__"),some (Value.bool true)] })]
noncomputable def asK:List Addr:=[3,221,220,228,227,235,234,242,241,249,248,256,255,263,262,270,269,277,276,284,283,291,290,298,297,305,304,312,311,317,316,324,323,331,330,23,24,36,37,48,49,67,68,79,80,91,92,103,104,115,116,127,128,139,140,151,152,163,164,175,176,187,188,199,200,211,212]
theorem Zkw (p:Program) (P:Params):asK=(Kf p P).map (·.1):=rfl
noncomputable def qf (p:Program):Program:={ p with main:={ p.main with body:=[ZbZ p 36] } }
noncomputable def lo:List Str:=[("__name__":Str),("RayError":Str),("NoRatio":Str),("NoTurning":Str),("NoRound":Str),("NotSmooth":Str),("NoWedge":Str),("NoRow":Str),("NoPlace":Str),("NoMinus":Str),("NoFour":Str),("NoHeight":Str),("NoBend":Str),("NoBody":Str),("NoOne":Str),("NoText":Str),("Unknown":Str),("crossed":Str),("partner":Str),("first_behind":Str),("expanded":Str),("row":Str),("between":Str),("row_of":Str),("shows":Str),("_law_purse":Str),("_law_take":Str),("_law_crossed":Str),("_law_short":Str),("_law_wedge":Str),("_law_part":Str),("_law_only":Str),("_law_refused":Str)]
theorem ZoK {l:PySem.W.OpenLaw} {q:Program} {loose:List Str} {XP:(Str->Option Value)->Heap->Prop} {YP:World->Heap->Prop} {d:DefRec} {K:Params->PySem.W.Frag} (hn:l.most=some 63) (hdf:d.params.defaults=[])
  (hY: ∀ (w:World) (h:Heap),YP w h->(K w.params).In h)
  (F: ∀ (w:World) (mg:Str->Option Value) (fa:Addr) (h:Heap),(K w.params).In h->h.Ns mainGlobals mg->mg d.name=some (.ref fa)->
   ∃ fd:FuncData,(∀ (s:Shared) (u:Value),BindsTo s fd ⟨[u],[]⟩ [("_law_script",u)])/\ ∀ base:Heap,(K w.params).In base->base.Ns mainGlobals mg->FnOk l.prog w (K w.params) mg base (CXE l.prog w) 107 fa fd ["_law_script"] (spD (K w.params) ZcT)):
  PySem.W.WalkO q loose XP YP l.row.toRowW d [] (fun f vs=>PySem.call f vs):=
 L2.ZgD (n:=63) (k:=107) (x:="_law_script") (CX:=fun w=>CXE l.prog w) (sp:=fun w=>spD (K w.params) ZcT) hn (by decide) hdf ⟨fun _=>rfl,by decide,by decide⟩ hY F (fun _ _ a ns hl hO hS=>DL.ZiT hl hO hS (law_true ns hl)) fun _ _ _ _ _ ⟨_,_,_,_,_,_,_,_,_,_,_,_,_,q⟩=>q
end K16
open PySem PySem.W PyProof.Rows
lay_quick PySem.Challenge.pw_rayround_k16_no_wedges
namespace K16
noncomputable abbrev Hk:Hook:=kHook (Kf PySem.Challenge.pw_rayround_k16_no_wedges) asK (Zkw PySem.Challenge.pw_rayround_k16_no_wedges)
noncomputable def Xs (s:Shared):Bool:=xlAt (qf PySem.Challenge.pw_rayround_k16_no_wedges) [] s && recOk (RowW.records (OpenRow.toRowW (OpenLaw.row PySem.Challenge.rw_rayround_k16_no_wedges))) s
set_option maxRecDepth 1000000 in
set_option maxHeartbeats 0 in
theorem Zld (w:World) (os:OsState):(HD.ZkD through (HD.ZfC (stepOk 11 (some (.ref 6))) (stepT (denote treeTable) PySem.Challenge.pw_rayround_k16_no_wedges w)) 4035 (HD.T0 w os) (topStub PySem.Challenge.pw_rayround_k16_no_wedges)).map (fun s=>((staticsOk (importedModules PySem.Challenge.pw_rayround_k16_no_wedges.main.body) (boot_heap w.params) s.abs.heap && namesBound PySem.Challenge.pw_rayround_k16_no_wedges s.abs.heap && gensDone s.abs && laidKept (boot_heap w.params) s.abs.heap),
  openSeen (qf PySem.Challenge.pw_rayround_k16_no_wedges) lo (importedModules PySem.Challenge.pw_rayround_k16_no_wedges.main.body) (fun s=>xlAt (qf PySem.Challenge.pw_rayround_k16_no_wedges) [] s && recOk [] s) true s.abs,asK.map s.abs.heap.get?))=some (true,openGood (qf PySem.Challenge.pw_rayround_k16_no_wedges) lo,(Kf PySem.Challenge.pw_rayround_k16_no_wedges w.params).map fun x=>some x.2):=by
 rw[HD.Zle,HD.Zhi,HD.Zjf,HD.Zjg,HD.Zhj,HD.Zjh,PySem.W.Fast.te15088711528069550783]
 kernel_rfl
end K16
set_option maxRecDepth 1000000 in
set_option maxHeartbeats 0 in
theorem PySem.Challenge.cw_rayround_k16_no_wedges_holds : PySem.Challenge.rw_rayround_k16_no_wedges.Holds := by
 w_on;o_law
 refine holds_open (q:=K16.qf PySem.Challenge.pw_rayround_k16_no_wedges) (loose:=K16.lo) (Xt:=fun s=>xlAt (K16.qf PySem.Challenge.pw_rayround_k16_no_wedges) [] s && recOk [] s) (XP:=XL (K16.qf PySem.Challenge.pw_rayround_k16_no_wedges) []) (Yf:=Hook.obs K16.Hk) (Ya:=Hook.val K16.Hk) (YP:=Hook.says K16.Hk) (N:=4635) ?hl (Hook.of K16.Hk) (Hook.keeps K16.Hk) (fun s e=>xl_of s (Bool.and_eq_true_iff.mp e).1) XL.keeps (by rfl) (by rfl) (by rfl) (fun s e=>recFacts_of (Bool.and_eq_true_iff.mp e).2) (by rfl) (by first | assumption | decide +kernel) (by decide +kernel) ⟨rfl,rfl,rfl,rfl,rfl,by decide +kernel⟩ ?hw ?hc
 case hl=>exact HD.ZeJ rfl (by decide) (fun s=>rfl) (by decide) K16.Zld
 case hw=>w_witness2
 case hc=>
  refine K16.ZoK (l:=PySem.Challenge.rw_rayround_k16_no_wedges) rfl rfl (fun w h Y=>PySem.W.kIn_of Y) ?F
  intro w mg fa h KX G hmg
  refine K16.Zks (f1:=221) (od1:=none) (an1:=none) (sl1:= #[]) (oc1:= .type "function") (kV1:= .none) (dc1:= .none) (pm1:= .str "rayround.pairs" 458) (cd1:= .ref 220) (ct1:= .none) (f2:=228) (od2:=none) (an2:=none) (sl2:= #[]) (oc2:= .type "function") (kV2:= .none) (dc2:= .none) (pm2:= .str "rayround.wedges" 468) (cd2:= .ref 227) (ct2:= .none) (f3:=235) (od3:=none) (an3:=none) (sl3:= #[]) (oc3:= .type "function") (kV3:= .none) (dc3:= .none) (pm3:= .str "rayround.wedges" 468) (cd3:= .ref 234) (ct3:= .none) (f4:=242) (od4:=none) (an4:=none) (sl4:= #[]) (oc4:= .type "function") (kV4:= .none) (dc4:= .none) (pm4:= .str "rayround.wedges" 468) (cd4:= .ref 241) (ct4:= .none) (f5:=249) (od5:=none) (an5:=none) (sl5:= #[]) (oc5:= .type "function") (kV5:= .none) (dc5:= .none) (pm5:= .str "rayround.wedges" 468) (cd5:= .ref 248) (ct5:= .none) (f6:=256) (od6:=none) (an6:=none) (sl6:= #[]) (oc6:= .type "function") (kV6:= .none) (dc6:= .none) (pm6:= .str "rayround.wedges" 468) (cd6:= .ref 255) (ct6:= .none) (f7:=263) (od7:=none) (an7:=none) (sl7:= #[]) (oc7:= .type "function") (kV7:= .none) (dc7:= .none) (pm7:= .str "rayround.wedges" 468) (cd7:= .ref 262) (ct7:= .none) (f8:=270) (od8:=none) (an8:=none) (sl8:= #[]) (oc8:= .type "function") (kV8:= .none) (dc8:= .none) (pm8:= .str "rayround.wedges" 468) (cd8:= .ref 269) (ct8:= .none) (f9:=277) (od9:=none) (an9:=none) (sl9:= #[]) (oc9:= .type "function") (kV9:= .none) (dc9:= .none) (pm9:= .str "law_rayround_k16_no_wedges" 544) (cd9:= .ref 276) (ct9:= .none) (f10:=284) (od10:=none) (an10:=none) (sl10:= #[]) (oc10:= .type "function") (kV10:= .none) (dc10:= .none) (pm10:= .str "law_rayround_k16_no_wedges" 544) (cd10:= .ref 283) (ct10:= .none) (f11:=291) (od11:=none) (an11:=none) (sl11:= #[]) (oc11:= .type "function") (kV11:= .none) (dc11:= .none) (pm11:= .str "law_rayround_k16_no_wedges" 544) (cd11:= .ref 290) (ct11:= .none) (f12:=298) (od12:=none) (an12:=none) (sl12:= #[]) (oc12:= .type "function") (kV12:= .none) (dc12:= .none) (pm12:= .str "law_rayround_k16_no_wedges" 544) (cd12:= .ref 297) (ct12:= .none) (f13:=305) (od13:=none) (an13:=none) (sl13:= #[]) (oc13:= .type "function") (kV13:= .none) (dc13:= .none) (pm13:= .str "law_rayround_k16_no_wedges" 544) (cd13:= .ref 304) (ct13:= .none) (f14:=312) (od14:=none) (an14:=none) (sl14:= #[]) (oc14:= .type "function") (kV14:= .none) (dc14:= .none) (pm14:= .str "law_rayround_k16_no_wedges" 544) (cd14:= .ref 311) (ct14:= .none) (f15:=317) (od15:=none) (an15:=none) (sl15:= #[]) (oc15:= .type "function") (kV15:= .none) (dc15:= .none) (pm15:= .str "law_rayround_k16_no_wedges" 544) (cd15:= .ref 316) (ct15:= .none) (f16:=324) (od16:=none) (an16:=none) (sl16:= #[]) (oc16:= .type "function") (kV16:= .none) (dc16:= .none) (pm16:= .str "law_rayround_k16_no_wedges" 544) (cd16:= .ref 323) (ct16:= .none) (f17:=331) (od17:=none) (an17:=none) (sl17:= #[]) (oc17:= .type "function") (kV17:= .none) (dc17:= .none) (pm17:= .str "law_rayround_k16_no_wedges" 544) (cd17:= .ref 330) (ct17:= .none) KX G hmg ?a1 ?l1 ?c1 ?k1 ?a2 ?l2 ?c2 ?k2 ?a3 ?l3 ?c3 ?k3 ?a4 ?l4 ?c4 ?k4 ?a5 ?l5 ?c5 ?k5 ?a6 ?l6 ?c6 ?k6 ?a7 ?l7 ?c7 ?k7 ?a8 ?l8 ?c8 ?k8 ?a9 ?l9 ?c9 ?k9 ?a10 ?l10 ?c10 ?k10 ?a11 ?l11 ?c11 ?k11 ?a12 ?l12 ?c12 ?k12 ?a13 ?l13 ?c13 ?k13 ?a14 ?l14 ?c14 ?k14 ?a15 ?l15 ?c15 ?k15 ?a16 ?l16 ?c16 ?k16 ?a17 ?l17 ?c17 ?k17 ?z_zip ?z_len ?z_int ?z_abs ?z_isinstance ?z_ValueError ?z_min ?z_max ?z_range ?q_ex_NoWedge ?q_it_NoBend ?q_it_NoBody ?q_it_NoFour ?q_it_NoHeight ?q_it_NoMinus ?q_it_NoOne ?q_it_NoPlace ?q_it_NoRatio ?q_it_NoRound ?q_it_NoRow ?q_it_NoText ?q_it_NotSmooth ?q_it_NoTurning ?q_it_NoWedge ?q_it_Unknown ?q_ib_ValueError ?q_ct_RayError
  all_goals kernel_rfl
