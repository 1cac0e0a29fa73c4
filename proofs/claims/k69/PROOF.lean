import PyProof.Rows.All
import Wide.All
import OpenK.AllK
import Wide.FinOn
import Lean
import PyProof.EqAt
import PyProof.EqKinds
import PyProof.TupleCall
import PySem.Challenge.RW_rayround_k69_papers_of_wedges
set_option maxRecDepth 100000
set_option linter.all false
set_option Elab.async false
set_option maxHeartbeats 4000000
noncomputable section
set_option bootstrap.genMatcherCode false
set_option genSizeOf false
set_option genSizeOfSpec false
set_option compiler.extract_closed false
section
namespace DQ
open PySem PySem.Spec PyProof.Rows
noncomputable def Zcl (A:Around) (h:Heap):Prop:=A.handled=none\/ ∃ ea oe vs,A.handled=some (.ref ea)/\h.get? ea=some oe/\oe.data= .fields vs/\vs[2]?=some .none
theorem Zcl.keeps {A:Around} {h h':Heap} (q:Zcl A h) (k: ∀ b o,h.get? b=some o->h'.get? b=some o):Zcl A h':=by
 rcases q with q | ⟨ea,oe,vs,e1,e2,e3,e4⟩
 ·exact .inl q
 ·exact .inr ⟨ea,oe,vs,e1,k _ _ e2,e3,e4⟩
theorem Zep:entryFor table "proto.unchain"=some Builtin.«proto.unchain» :=entryFor_of_fast (by kernel_rfl)
section
variable {prog:Program} {w:World} {A:Around} {E:Value->Shared->Prop} {s:Shared}
theorem Zf2 {α:Type} {Q:α->Shared->Prop} {e:Addr} {oe:Obj} {vs:Array Value} (q:Zcl A s.heap) (he:s.heap.get? e=some oe) (hd:oe.data= .fields vs) (hz:2 < vs.size)
  (h: ∀ h',(∀ b o,b≠e->s.heap.get? b=some o->h'.get? b=some o)->(∃ o,h'.get? e=some o/\o.cls=oe.cls)->E (.ref e) { s with heap:=h' }):wpAny (model prog w) A (raiseNew (.ref e):Sem α) Q E s:=by
 have same:E (.ref e) s:=h s.heap (fun _ _ _ x=>x) ⟨oe,he,rfl⟩
 unfold raiseNew
 refine wpAny_bind (wpAny_handled ?_)
 rcases q with q | ⟨ea,oa,ws,q1,q2,q3,q4⟩
 ·rw[q]
  exact wpAny_bind (wpAny_pure (wpAny_throw same))
 ·rw[q1]
  dsimp only
  by_cases c:(Value.ref ea != Value.ref e)=true
  ·rw[if_pos c]
   refine wpAny_bind (wpAny_holding (wpAny_runValue (codeAny_builtin Zep ?_)))
   unfold Builtin.«proto.unchain»
   refine wpAny_bind (wpAny_field q2 q3 q4 ?_)
   refine wpAny_bind (wpAny_pure ?_)
   have sf:wpAny (model prog w) A (setField (.ref e) 2 (.ref ea)) (fun _ s'=>wpAny (model prog w) A (throw (Value.ref e):Sem α) Q E s') E s:=by
    refine wpAny_setField he hd hz (wpAny_throw (h _ (fun b o hb x=> ?_) ⟨_,Heap.get?_update_self _ he (Obj.isFreed_of_fields (Obj.data_mapFields hd _)),Obj.cls_mapFields _ _⟩))
    rw[Heap.get?_update_other _ _ (Ne.symm hb)]
    exact x
   exact wpAny_pure (wpAny_bind sf)
  ·rw[if_neg c]
   exact wpAny_throw same
theorem ZcU {α:Type} {Q:α->Shared->Prop} (q:Zcl A s.heap)
  (h: ∀ h' e,(∀ b o,s.heap.get? b=some o->h'.get? b=some o)->(∃ o,h'.get? e=some o/\o.cls= .type "StopIteration")->E (.ref e) { s with heap:=h' }):
  wpAny (model prog w) A (newExc (.type "StopIteration") [] >>= fun x=>(raiseNew x:Sem α)) Q E s:=by
 refine wpAny_bind ?_
 simp only[newExc,newTuple]
 refine wpAny_bind (wpAny_newObj_type ?_ (by size_fits))
 refine wpAny_bind (m:=firstArgMember _ _) (wpAny_of_eq (a:=Value.none) (by first | rfl | (simp only[firstArgMember];rfl)) ?_)
 refine wpAny_newObj_type ?_ (by size_fits)
 refine Zf2 (q.keeps fun b o x=>Heap.get?_push_of_some _ (Heap.get?_push_of_some _ x)) (Heap.get?_push_size _ rfl) rfl (by rw[Array.size_append];exact Nat.lt_of_lt_of_le (by decide:2 < 6) (Nat.le_add_right _ _)) fun h' k he=> ?_
 exact h h' _ (fun b o x=>k b o (Nat.ne_of_lt (Nat.lt_of_lt_of_le (Heap.lt_size x) (by rw[Heap.size_push];exact Nat.le_succ _))) (Heap.get?_push_of_some _ (Heap.get?_push_of_some _ x))) he
theorem Zk9 {e:Addr} {Q:Bool->Shared->Prop} (he: ∃ o,s.heap.get? e=some o/\o.cls= .type "StopIteration") (h:Q true s):wpAny (model prog w) A (isInstance (.ref e) (.type "StopIteration")) Q E s:=
 let ⟨o,e1,e2⟩:=he
 wpAny_isInstance (T:="StopIteration") (b:=true) ⟨o,e1,e2⟩ isSubtype_stop h
theorem Zcl.in1 {h:Heap} (q:Zcl A h):Zcl A.in1 h:=q
noncomputable def Zhz (it:Addr) (s:Shared) (e:Value) (s':Shared):Prop:= ∃ a,e= .ref a/\(∃ o,s'.heap.get? a=some o/\o.cls= .type "StopIteration")/\ ∃ h',Heap.ExtBut it s.heap h'/\s'={ s with heap:=h' }
theorem ZhA {it:Addr} {T id:String} {b:Builtin} {Q:Option Value->Shared->Prop} (hT:s.TypeIs (.ref it) T) (sl:Slot T (Str.ofString "__next__") id) (hb:entryFor table id=some b) (ha:argsOk id ⟨[.ref it],[]⟩)
  (h:wpAny (model prog w) A.in1 (b ⟨[.ref it],[]⟩) (fun _ _=>False) (Zhz it s) s) (hQ: ∀ h',Heap.ExtBut it s.heap h'->Q none { s with heap:=h' }):wpAny (model prog w) A (pyNext (.ref it)) Q E s:=by
 unfold pyNext
 refine wpAny_bind (wpAny_attempt (wpAny_callSpecial?_slot (name:=Str.ofString "__next__") hT sl (wpAny_call_entry sl hT hb (wpAny_mono h (fun _ _ z=>z.elim) fun e s' z=> ?_) ha)))
 obtain ⟨a,rfl,ho,h',eb,rfl⟩:=z
 exact wpAny_bind (Zk9 ho (wpAny_pure (hQ h' eb)))
theorem Ze4 {it:Addr} {x left step:Int} {Q:Option Value->Shared->Prop} (q:Zcl A s.heap) (hit:IsRangeIter s.heap it x left step) (hl:left<=0)
  (hQ: ∀ h',Heap.ExtBut it s.heap h'->Q none { s with heap:=h' }):wpAny (model prog w) A (pyNext (.ref it)) Q E s:=by
 refine ZhA ⟨_,hit,rfl⟩ F.slot_range_iterator_next F.entry_range_iterator_next (F.args_range_iterator_next_1 _) ?_ hQ
 refine wpAny_bind (m:=field (.ref it) 0) (wpAny_field hit rfl (x:=rawInt x) rfl ?_)
 refine wpAny_bind (m:=field (.ref it) 1) (wpAny_field hit rfl (x:=rawInt left) rfl ?_)
 refine wpAny_bind (m:=field (.ref it) 2) (wpAny_field hit rfl (x:=rawInt step) rfl ?_)
 dsimp only[rawInt]
 rw[if_pos hl]
 refine wpAny_bind (wpAny_rule (wpAny_bind ?_))
 exact ZcU q.in1 fun h' e k ho=>⟨e,rfl,ho,h',fun b o _ z=>k b o z,rfl⟩
theorem ZmH {it l:Addr} {i:Nat} {o ol:Obj} {items:Array Value} {n:Nat} (q:Zcl A s.heap) (ho:s.heap.get? it=some o) (hd:o.data= .fields #[.ref l,.int i 0]) (hol:s.heap.get? l=some ol) (hdl:ol.data= .seq items n) (hx:items[i]?=none):
  wpAny (model prog w) A.in1 (Builtin.«list_iterator.__next__» ⟨[.ref it],[]⟩) (fun _ _=>False) (Zhz it s) s:=by
 refine wpAny_bind (m:=field (.ref it) 0) (wpAny_field ho hd (x:= .ref l) rfl ?_)
 dsimp only
 rw[if_neg (show ¬ ((Value.ref l == Value.none)=true) from Bool.false_ne_true)]
 refine wpAny_bind (m:=field (.ref it) 1) (wpAny_field ho hd (x:= .int i 0) rfl ?_)
 refine wpAny_bind (m:=seqItems? (.ref l)) (wpAny_seqItems hol hdl ?_)
 simp only[Int.toNat_natCast,hx]
 refine wpAny_bind (wpAny_rule (wpAny_bind (wpAny_setField ho hd (by simp) ?_)))
 have q2:Zcl A.in1 (s.heap.update it (Obj.mapFields (·.setIfInBounds 0 Value.none))):=by
  rcases q with q | ⟨ea,oe,vs,e1,e2,e3,e4⟩
  ·exact .inl q
  ·refine .inr ⟨ea,oe,vs,e1,?_,e3,e4⟩
   rw[Heap.get?_update_other _ _ (fun z=> ?_)]
   ·exact e2
   ·rw[<- z,ho] at e2
    cases e2
    rw[hd] at e3
    cases e3
    simp at e4
 refine ZcU q2 fun h' e k ho=>⟨e,rfl,ho,h',fun b o hb z=>k b o ?_,rfl⟩
 rw[Heap.get?_update_other _ _ (Ne.symm hb)]
 exact z
theorem ZmI {it l:Addr} {i:Nat} {o ol:Obj} {items:Array Value} {n:Nat} (q:Zcl A s.heap) (ho:s.heap.get? it=some o) (hd:o.data= .fields #[.ref l,.int i 0]) (hol:s.heap.get? l=some ol) (hdl:ol.data= .seq items n) (hx:items[i]?=none):
  wpAny (model prog w) A.in1 (Builtin.«tuple_iterator.__next__» ⟨[.ref it],[]⟩) (fun _ _=>False) (Zhz it s) s:=by
 refine wpAny_bind (m:=field (.ref it) 0) (wpAny_field ho hd (x:= .ref l) rfl ?_)
 dsimp only
 rw[if_neg (show ¬ ((Value.ref l == Value.none)=true) from Bool.false_ne_true)]
 refine wpAny_bind (m:=field (.ref it) 1) (wpAny_field ho hd (x:= .int i 0) rfl ?_)
 refine wpAny_bind (m:=seqItems? (.ref l)) (wpAny_seqItems hol hdl ?_)
 simp only[Int.toNat_natCast,hx]
 refine wpAny_bind (wpAny_rule (wpAny_bind (wpAny_setField ho hd (by simp) ?_)))
 have q2:Zcl A.in1 (s.heap.update it (Obj.mapFields (·.setIfInBounds 0 Value.none))):=by
  rcases q with q | ⟨ea,oe,vs,e1,e2,e3,e4⟩
  ·exact .inl q
  ·refine .inr ⟨ea,oe,vs,e1,?_,e3,e4⟩
   rw[Heap.get?_update_other _ _ (fun z=> ?_)]
   ·exact e2
   ·rw[<- z,ho] at e2
    cases e2
    rw[hd] at e3
    cases e3
    simp at e4
 refine ZcU q2 fun h' e k ho=>⟨e,rfl,ho,h',fun b o hb z=>k b o ?_,rfl⟩
 rw[Heap.get?_update_other _ _ (Ne.symm hb)]
 exact z
theorem Zjk {it l:Addr} {i:Nat} {items} {Q:Option Value->Shared->Prop} (q:Zcl A s.heap) (hit:s.heap.IsListIter it l i) (hl:s.heap.IsList l items) (hx:items[i]?=none)
  (hQ: ∀ h',Heap.ExtBut it s.heap h'->Q none { s with heap:=h' }):wpAny (model prog w) A (pyNext (.ref it)) Q E s:=by
 obtain ⟨o,ho,hc,hd⟩:=id hit
 obtain ⟨ol,hol,_,nl,hdl⟩:=hl
 exact ZhA hit.typeIs slot_listiter_next entry_listiter_next (args_listiter_next _) (ZmH q ho hd hol hdl hx) hQ
theorem ZhB {it l:Addr} {i:Nat} {items} {Q:Option Value->Shared->Prop} (q:Zcl A s.heap) (hit:s.heap.IsTupleIter it l i) (hl:s.heap.IsTuple l items) (hx:items[i]?=none)
  (hQ: ∀ h',Heap.ExtBut it s.heap h'->Q none { s with heap:=h' }):wpAny (model prog w) A (pyNext (.ref it)) Q E s:=by
 obtain ⟨o,ho,hc,hd⟩:=id hit
 obtain ⟨ol,hol,_,nl,hdl⟩:=hl
 exact ZhA hit.typeIs F.slot_tuple_iterator_next F.entry_tuple_iterator_next (F.args_tuple_iterator_next_1 _) (ZmI q ho hd hol hdl hx) hQ
end
end DQ
end
section
namespace L2
open PySem PySem.Spec PyProof.Rows
noncomputable abbrev Key:=Sum Int Str
noncomputable def ZmJ:Key->Value->Bool
 | .inl k,v=>Value.isInt k v
 | .inr x,v=>Value.isStrOf x v
noncomputable def ZsV (w:World):Key->Int
 | .inl k=>hashInt k
 | .inr x=>hashStr w x
theorem Z9: ∀ {k:Key} {v:Value},ZmJ k v=true->(∃ i t,k=Sum.inl i/\v=Value.int i t)\/(∃ x t,k=Sum.inr x/\v=Value.str x t)
 | .inl i,v,h=>by
  obtain ⟨t,e⟩:=Value.isInt_shape (k:=i) (v:=v) h
  exact .inl ⟨i,t,rfl,e⟩
 | .inr x,v,h=>by
  obtain ⟨t,e⟩:=Value.isStrOf_shape (x:=x) (v:=v) h
  exact .inr ⟨x,t,rfl,e⟩
theorem ZmK (a b:Int):decide ((Sum.inl a:Key)=Sum.inl b)=(a == b):=by
 by_cases e:a=b
 ·subst e;simp
 ·have h: ¬ (Sum.inl a:Key)=Sum.inl b:=fun q=>e (Sum.inl.inj q)
  rw[decide_eq_false h]
  exact (beq_eq_false_iff_ne.mpr e).symm
theorem ZmL (a b:Str):decide ((Sum.inr a:Key)=Sum.inr b)=decide (a=b):=by
 by_cases e:a=b
 ·subst e;simp
 ·have h: ¬ (Sum.inr a:Key)=Sum.inr b:=fun q=>e (Sum.inr.inj q)
  rw[decide_eq_false h,decide_eq_false e]
theorem ZmM (a:Int) (b:Str):decide ((Sum.inl a:Key)=Sum.inr b)=false:=decide_eq_false (fun q=>nomatch q)
theorem ZmN (a:Str) (b:Int):decide ((Sum.inr a:Key)=Sum.inl b)=false:=decide_eq_false (fun q=>nomatch q)
noncomputable def ZhC (prog:Program) (w:World):PySem.KeyKind prog w Key where
 is:=ZmJ
 hash:=ZsV w
 inj:=fun v a b ha hb=>by
  rcases Z9 ha with ⟨i,t,rfl,rfl⟩ | ⟨x,t,rfl,rfl⟩
  ·rcases Z9 hb with ⟨j,u,rfl,e⟩ | ⟨y,u,rfl,e⟩
   ·injection e with e1 _;rw[e1]
   ·exact nomatch e
  ·rcases Z9 hb with ⟨j,u,rfl,e⟩ | ⟨y,u,rfl,e⟩
   ·exact nomatch e
   ·injection e with e1 _;rw[e1]
 byValue:=fun k v h=>by
  rcases Z9 h with ⟨i,t,rfl,rfl⟩ | ⟨x,t,rfl,rfl⟩<;>rfl
 pyHash:=fun hv h=>by
  rcases Z9 hv with ⟨i,t,rfl,rfl⟩ | ⟨x,t,rfl,rfl⟩
  ·exact wpAny_pyHash_int h
  ·exact wpAny_pyHash_str h
 eqBool:=fun hu hv h=>by
  rcases Z9 hu with ⟨i,t,rfl,rfl⟩ | ⟨x,t,rfl,rfl⟩
  ·rcases Z9 hv with ⟨j,u,rfl,rfl⟩ | ⟨y,u,rfl,rfl⟩
   ·rw[ZmK] at h;exact wpAny_eqBool_int h
   ·rw[ZmM] at h;exact SeqAt.EqAt.int_str i t y u _ _ _ _ h
  ·rcases Z9 hv with ⟨j,u,rfl,rfl⟩ | ⟨y,u,rfl,rfl⟩
   ·rw[ZmN] at h;exact SeqAt.EqAt.str_int x t j u _ _ _ _ h
   ·rw[ZmL] at h;exact wpAny_eqBool_str h
 «strs» :=fun k x t v h=>by
  rcases Z9 h with ⟨i,u,rfl,e⟩ | ⟨y,u,rfl,e⟩
  ·exact nomatch e
  ·injection e with e1 _
   subst e1
   cases v<;>rfl
end L2
namespace L2
open PySem PySem.Spec PyProof.Rows
inductive V where
 |non | bl (b:Bool) | int (i:Int) | str (x:Str) | byt (b:Array UInt8) | flt (b:UInt64) | ref (a:Addr) | ty (n:String)
 deriving DecidableEq
noncomputable def Zax:V->Value->Prop
 | .non,u=>u=Value.none
 | .bl b,u=>u=Value.bool b
 | .int i,u=> ∃ t,u=Value.int i t
 | .str x,u=> ∃ t,u=Value.str x t
 | .byt b,u=> ∃ t,u=Value.bytes b t
 | .flt b,u=> ∃ t,u=Value.float b t
 | .ref a,u=>u=Value.ref a
 | .ty n,u=>u=Value.type n
noncomputable abbrev Zam:List V->List Value->Prop:=Paired Zax
theorem Zam.length {xs:List V} {us:List Value} (r:Zam xs us):xs.length=us.length:=Paired.length r
theorem Zam.get: ∀ {xs:List V} {us:List Value} {i:Nat} {x:V},Zam xs us->xs[i]?=some x-> ∃ u,us[i]?=some u/\Zax x u
 |_,_,_,_,.nil,e=>by simp at e
 |_,_,0,_,.cons r _,e=>by simp at e;subst e;exact ⟨_,rfl,r⟩
 |_,_,i + 1,x,.cons _ t,e=>by
  obtain ⟨u,h1,h2⟩:=Zam.get (i:=i) (x:=x) t (by simpa using e)
  exact ⟨u,by simpa using h1,h2⟩
theorem Zam.append: ∀ {xs ys:List V} {us ws:List Value},Zam xs us->Zam ys ws->Zam (xs ++ ys) (us ++ ws)
 |_,_,_,_,.nil,s=>s
 |_,_,_,_,.cons r t,s=> .cons r (Zam.append t s)
theorem Zam.take: ∀ {xs:List V} {us:List Value} (n:Nat),Zam xs us->Zam (xs.take n) (us.take n)
 |_,_,0,_=> .nil
 |_,_,_ + 1,.nil=> .nil
 |_,_,n + 1,.cons r t=> .cons r (Zam.take n t)
theorem Zam.drop: ∀ {xs:List V} {us:List Value} (n:Nat),Zam xs us->Zam (xs.drop n) (us.drop n)
 |_,_,0,r=>r
 |_,_,_ + 1,.nil=> .nil
 |_,_,n + 1,.cons _ t=>Zam.drop n t
noncomputable def ZmE:Option V->Option Value->Prop
 |some v,some u=>Zax v u
 |none,none=>True
 |_,_=>False
noncomputable def KV {κ:Type}:List (κ × V)->List (κ × Value)->Prop:=Paired fun (p:κ × V) (q:κ × Value)=>p.1=q.1/\Zax p.2 q.2
noncomputable def kV:Key->V
 | .inl i=> .int i
 | .inr x=> .str x
inductive HO where
 |lst (xs:List V)
 |tup (xs:List V)
 |dK (kvs:List (Key × V)) | dT (kvs:List (List Key × V))
 |set (S:Int->Bool) (n:Nat)
 |ins (C dx:Addr) (fs:List (Str × V))
 |own (x:Addr)
 |xd (fs:List (Str × V))
 |met (f x:Addr)
 |rng (lo hi:Int)
 |frz (o:Obj) (u:HO)
 |tbl (ps:Array Value)
 |ext (φ:Heap->Prop)
noncomputable abbrev Hp:=Addr->Option HO
noncomputable def upd (H:Hp) (a:Addr) (o:HO):Hp:=fun b=>if b=a then some o else H b
theorem ZJ {H:Hp} {a:Addr} {o:HO}:upd H a o a=some o:=by unfold upd;rw[if_pos rfl]
theorem Z1 {H:Hp} {a b:Addr} {o:HO} (h:b≠a):upd H a o b=H b:=by unfold upd;rw[if_neg h]
theorem ZaC {H:Hp} {a b:Addr} {o:HO} (h:H a=some o) (h':H b=none):a≠b:=by
 intro e;subst e;rw[h] at h';cases h'
section
variable (P:Program) (w:World)
noncomputable def Zcy (H:Hp) (h:Heap) (a:Addr):HO->Prop
 | .lst xs=>xs.length<=sizeLine/\ ∃ (its:List Value) (n:Nat),Zam xs its/\h.get? a=some { cls:= .type "list",data:= .seq its.toArray n }
 | .tup xs=>xs.length<=sizeLine/\ ∃ its:List Value,Zam xs its/\IsTup h a its.toArray
 | .dK kvs=>kvs.length<=sizeLine/\(a == sysModules)=false/\ ∃ vs,KV kvs vs/\h.DictOf (ZhC P w) a vs
 | .dT kvs=>kvs.length<=sizeLine/\(a == sysModules)=false/\ ∃ xs:List (List Key × Addr × Value),
   Paired (fun (p:List Key × V) (q:List Key × Addr × Value)=>p.1=q.1/\H q.2.1=some (.tup (p.1.map kV))/\Zax p.2 q.2.2) kvs xs/\
   ∃ o es ep,h.get? a=some o/\o.ExactDict/\o.data= .dict es ep/\es.toList=xs.map (entryOfKey (tupleKind (ZhC P w)))/\(xs.map (·.1)).Nodup
 | .set S n=>h.SetOf (intKind P w) a S n
 | .ins C dx fs=>H dx=some (.own a)/\fs.length<=1000/\dx≠a/\h.get? a=some (PySem.W.instObj C dx)/\
   ∃ mA,h.Ns1 dx mA/\(∀ f,ZmE (fs.lookup f) (mA f))/\PySem.Within mA (fs.map (·.1))
 | .own _=> ∃ o,h.get? a=some o
 | .xd fs=> ∃ mA,h.Ns1 a mA/\ ∀ f,ZmE (fs.lookup f) (mA f)
 | .rng lo hi=> ∃ t u v,h.get? a=some { cls:= .type "range",data:= .fields #[.int lo t,.int hi u,.int 1 v] }
 | .frz o u=>h.get? a=some o/\Zcy H h a u
 | .tbl ps=>h.get? a=some { cls:= .none,data:= .fields ps }
 | .met f x=>h.get? a=some (PySem.W.methodObj (.ref f) (.ref x))
 | .ext φ=>φ h/\(∃ o,h.get? a=some o)/\ ∀ h1 h2:Heap,φ h1->(∀ o,h1.get? a=some o->h2.get? a=some o)->φ h2
noncomputable def HOk (H:Hp) (h:Heap):Prop:= ∀ a o,H a=some o->Zcy P w H h a o
end
section
variable {P:Program} {w:World} {H H':Hp} {h h':Heap} {a:Addr} {o:HO}
theorem Zcy.lt (x:Zcy P w H h a o):a < h.objs.size:=by
 cases o with
 |lst xs=>obtain ⟨_,_,_,_,e⟩:=x;exact Heap.lt_size e
 |tup xs=>obtain ⟨_,_,_,p⟩:=x;exact p.lt
 |dK kvs=>obtain ⟨_,_,_,_,o,_,_,e,_⟩:=x;exact Heap.lt_size e
 |dT kvs=>obtain ⟨_,_,_,_,o,_,_,e,_⟩:=x;exact Heap.lt_size e
 |set S n=>obtain ⟨o,_,_,_,e,_⟩:=x;exact Heap.lt_size e
 |ins C dx fs=>obtain ⟨_,_,_,e,_⟩:=x;exact Heap.lt_size e
 |own y=>obtain ⟨_,e⟩:=x;exact Heap.lt_size e
 |xd fs=>obtain ⟨_,⟨_,_,_,e,_⟩,_⟩:=x;exact Heap.lt_size e
 |rng lo hi=>obtain ⟨_,_,_,e⟩:=x;exact Heap.lt_size e
 |frz ob u=>obtain ⟨e,_⟩:=x;exact Heap.lt_size e
 |tbl ps=>exact Heap.lt_size (show h.get? a=some _ from x)
 |met f y=>exact Heap.lt_size (show h.get? a=some _ from x)
 |ext φ=>obtain ⟨_,⟨_,e⟩,_⟩:=x;exact Heap.lt_size e
theorem Paired.mapP {α β:Type} {F G:α->β->Prop}: ∀ {l₁:List α} {l₂:List β},Paired F l₁ l₂->(∀ a b,F a b->G a b)->Paired G l₁ l₂
 |_,_,.nil,_=> .nil
 |_,_,.cons r t,f=> .cons (f _ _ r) (Paired.mapP t f)
theorem Zcy.stay (x:Zcy P w H h a o) (k: ∀ b u,(b=a\/H b=some (.own a))->h.get? b=some u->h'.get? b=some u)
  (ho: ∀ b,H b=some (.own a)->H' b=some (.own a)) (ht: ∀ b xs,H b=some (.tup xs)->H' b=some (.tup xs)):Zcy P w H' h' a o:=by
 induction o with
 |lst xs=>obtain ⟨z,its,n,r,e⟩:=x;exact ⟨z,its,n,r,k _ _ (.inl rfl) e⟩
 |tup xs=>obtain ⟨z,its,r,ob,e,c⟩:=x;exact ⟨z,its,r,ob,k _ _ (.inl rfl) e,c⟩
 |dK kvs=>obtain ⟨z,y,vs,r,ob,es,ep,e,c⟩:=x;exact ⟨z,y,vs,r,ob,es,ep,k _ _ (.inl rfl) e,c⟩
 |dT kvs=>
  obtain ⟨z,y,xs,r,ob,es,ep,e,c⟩:=x
  exact ⟨z,y,xs,Paired.mapP r fun p q z=>⟨z.1,ht _ _ z.2.1,z.2.2⟩,ob,es,ep,k _ _ (.inl rfl) e,c⟩
 |set S n=>obtain ⟨ob,es,ep,t,e,c⟩:=x;exact ⟨ob,es,ep,t,k _ _ (.inl rfl) e,c⟩
 |ins C dx fs=>
  obtain ⟨d,z,ne,e,mA,⟨od,es,ep,e2,c⟩,r⟩:=x
  exact ⟨ho _ d,z,ne,k _ _ (.inl rfl) e,mA,⟨od,es,ep,k _ _ (.inr d) e2,c⟩,r⟩
 |own y=>obtain ⟨ob,e⟩:=x;exact ⟨ob,k _ _ (.inl rfl) e⟩
 |xd fs=>obtain ⟨mA,⟨od,es,ep,e,c⟩,r⟩:=x;exact ⟨mA,⟨od,es,ep,k _ _ (.inl rfl) e,c⟩,r⟩
 |rng lo hi=>obtain ⟨t,u,v,e⟩:=x;exact ⟨t,u,v,k _ _ (.inl rfl) e⟩
 |frz ob u ih=>obtain ⟨e,q⟩:=x;exact ⟨k _ _ (.inl rfl) e,ih q⟩
 |tbl ps=>
  have e:h.get? a=some { cls:= .none,data:= .fields ps }:=x
  show h'.get? a=some { cls:= .none,data:= .fields ps }
  exact k a _ (.inl rfl) e
 |met f y=>
  have e:h.get? a=some (PySem.W.methodObj (.ref f) (.ref y)):=x
  show h'.get? a=some (PySem.W.methodObj (.ref f) (.ref y))
  exact k a _ (.inl rfl) e
 |ext φ=>obtain ⟨p,⟨o,e⟩,st⟩:=x;exact ⟨st _ _ p fun o q=>k _ _ (.inl rfl) q,⟨o,k _ _ (.inl rfl) e⟩,st⟩
theorem HOk.lt (x:HOk P w H h) (e:H a=some o):a < h.objs.size:=(x a o e).lt
theorem HOk.fresh (x:HOk P w H h) (e:h.objs.size<=a):H a=none:=by
 cases q:H a with
 |none=>rfl
 |some u=>exact absurd (Nat.lt_of_lt_of_le (x.lt q) e) (Nat.lt_irrefl _)
theorem HOk.kept (x:HOk P w H h) (k: ∀ b u,h.get? b=some u->h'.get? b=some u):HOk P w H h':=fun a o e=>
 (x a o e).stay (fun b u _ q=>k b u q) (fun _ q=>q) fun _ _ q=>q
theorem HOk.laid (x:HOk P w H h) (k: ∀ b u,h.get? b=some u->h'.get? b=some u) (hp:h.objs.size<=a) (new:Zcy P w (upd H a o) h' a o):HOk P w (upd H a o) h':=fun b u e=>by
 have hn:=x.fresh hp
 by_cases hb:b=a
 ·subst hb;rw[ZJ] at e;cases e;exact new
 ·rw[Z1 hb] at e
  exact (x b u e).stay (fun c v _ q=>k c v q) (fun c q=>by rw[Z1 (ZaC q hn)];exact q) fun c xs q=>by rw[Z1 (ZaC q hn)];exact q
end
noncomputable def Rd (H:Hp) (a:Addr) (u:HO):Prop:=H a=some u\/ ∃ o,H a=some (.frz o u)
theorem Rd.ok {P:Program} {w:World} {H:Hp} {h:Heap} {a:Addr} {u:HO} (r:Rd H a u) (x:HOk P w H h):Zcy P w H h a u:=by
 rcases r with r | ⟨o,r⟩
 ·exact x a u r
 ·obtain ⟨_,q⟩:=x a _ r
  exact q
noncomputable def Mut:Option HO->Prop
 |some (.lst _)=>True
 |some (.dK _)=>True
 |some (.dT _)=>True
 |some (.set _ _)=>True
 |some (.ins _ _ _)=>True
 |some (.ext _)=>True
 |_=>False
section
variable {P:Program} {w:World} {H:Hp} {h h':Heap} {x e:Addr} {o':HO}
theorem HOk.write (ok:HOk P w H h) (mu:Mut (H x)) (he:e=x\/H e=some (.own x)) (k: ∀ b u,b≠e->h.get? b=some u->h'.get? b=some u) (heo: ∃ u,h'.get? e=some u)
  (new:Zcy P w (upd H x o') h' x o'):HOk P w (upd H x o') h':=fun b u q=>by
 have nown: ∀ c y,H c=some (.own y)->c≠x:=fun c y r z=>by subst z;rw[r] at mu;exact mu
 have ntup: ∀ c xs,H c=some (.tup xs)->c≠x:=fun c xs r z=>by subst z;rw[r] at mu;exact mu
 by_cases hb:b=x
 ·subst hb;rw[ZJ] at q;cases q;exact new
 ·rw[Z1 hb] at q
  by_cases hbe:b=e
  ·have q':H b=some (.own x):=by
    rcases he with z | z
    ·exact absurd (hbe.trans z) hb
    ·rw[hbe];exact z
   rw[q] at q';cases q'
   obtain ⟨v,hv⟩:=heo
   exact ⟨v,by rw[hbe];exact hv⟩
  ·refine (ok b u q).stay (fun c v hc r=>k c v ?_ r) (fun c r=>by rw[Z1 (nown c b r)];exact r) fun c xs r=>by rw[Z1 (ntup c xs r)];exact r
   rcases hc with rfl | hc
   ·exact hbe
   ·rintro rfl
    rcases he with z | z
    ·exact nown c b hc z
    ·rw[hc] at z;cases z;exact hb rfl
end
structure Un (fs ex:List Addr) (H H':Hp) (h h':Heap):Prop where
 keep: ∀ b o,h.get? b=some o->H b=none->b ∉ fs->b ∉ ex->h'.get? b=some o
 slot: ∀ b o,h.get? b=some o->H b=none->b∈fs->b ∉ ex-> ∃ sl,h'.get? b=some { o with slots:=sl }
 free: ∀ b o,h.get? b=some o->H b=none->b ∉ ex->H' b=none
 there: ∀ b o,h.get? b=some o->b ∉ ex-> ∃ o',h'.get? b=some o'
 tups: ∀ b xs,H b=some (.tup xs)->H' b=some (.tup xs)
 frzs: ∀ b o u,H b=some (.frz o u)->H' b=some (.frz o u)
 tbls: ∀ b ps,H b=some (.tbl ps)-> ∃ more,H' b=some (.tbl (ps ++ more))
section
variable {fs fs' ex ex':List Addr} {H H1 H2:Hp} {h h1 h2 h':Heap} {a x e:Addr} {o:HO}
theorem Un.any (u:Un fs ex H H1 h h1) {b:Addr} {ob:Obj} (q:h.get? b=some ob) (n:H b=none) (hx:b ∉ ex): ∃ sl,h1.get? b=some { ob with slots:=sl }:=by
 by_cases hb:b∈fs
 ·exact u.slot b ob q n hb hx
 ·exact ⟨ob.slots,u.keep b ob q n hb hx⟩
theorem Un.kept (k: ∀ b u,h.get? b=some u->h'.get? b=some u):Un fs ex H H h h':=
 ⟨fun b ob q _ _ _=>k b ob q,fun b ob q _ _ _=>⟨ob.slots,k b ob q⟩,fun _ _ _ n _=>n,fun b ob q _=>⟨ob,k b ob q⟩,fun _ _ q=>q,fun _ _ _ q=>q,fun _ ps q=>⟨#[],by rw[q];simp⟩⟩
theorem Un.refl:Un fs ex H H h h:=Un.kept fun _ _ q=>q
theorem Un.laid (k: ∀ b u,h.get? b=some u->h'.get? b=some u) (hp:h.objs.size<=a) (hn:H a=none):Un fs ex H (upd H a o) h h' where
 keep:=fun b u q _ _ _=>k b u q
 slot:=fun b u q _ _ _=>⟨u.slots,k b u q⟩
 free:=fun b u q n _=>by rw[Z1 (Nat.ne_of_lt (Nat.lt_of_lt_of_le (Heap.lt_size q) hp))];exact n
 there:=fun b u q _=>⟨u,k b u q⟩
 tups:=fun b xs q=>by rw[Z1 (ZaC q hn)];exact q
 frzs:=fun b u xs q=>by rw[Z1 (ZaC q hn)];exact q
 tbls:=fun b ps q=>⟨#[],by rw[Z1 (ZaC q hn),q];simp⟩
theorem Un.write (mu:Mut (H x)) (he:e=x\/H e=some (.own x)) (k: ∀ b u,b≠e->h.get? b=some u->h'.get? b=some u) (heo: ∃ u,h'.get? e=some u):Un fs ex H (upd H x o) h h':=by
 have hx: ∀ b,H b=none->b≠x:=fun b n z=>by subst z;rw[n] at mu;exact mu
 have hb: ∀ b,H b=none->b≠e:=fun b n z=>by
  subst z
  rcases he with r | r
  ·exact hx b n r
  ·rw[n] at r;cases r
 have hm: ∀ b u,H b=some u-> ¬ Mut (some u)->b≠x:=fun b u q nm z=>by subst z;rw[q] at mu;exact nm mu
 refine ⟨fun b u q n _ _=>k b u (hb b n) q,fun b u q n _ _=>⟨u.slots,k b u (hb b n) q⟩,fun b u q n _=>by rw[Z1 (hx b n)];exact n,fun b u q _=> ?_,
  fun b xs q=>by rw[Z1 (hm b _ q fun z=>z)];exact q,fun b u xs q=>by rw[Z1 (hm b _ q fun z=>z)];exact q,fun b ps q=>⟨#[],by rw[Z1 (hm b _ q fun z=>z),q];simp⟩⟩
 by_cases hbe:b=e
 ·subst hbe;exact heo
 ·exact ⟨u,k b u hbe q⟩
end
noncomputable def trk (h:Heap) (H:Hp):List Addr:=(List.range h.objs.size).filter fun a=>(H a).isSome
noncomputable def Zji (h:Heap) (H:Hp):Heap:=PySem.W.hideAll h (trk h H)
theorem ZhD (h:Heap) (H:Hp):(Zji h H).objs.size=h.objs.size:=PySem.W.hideAll_size _ _
theorem Zgu {h:Heap} {H:Hp} {b:Addr} {o:Obj} (e:h.get? b=some o) (n:H b=none):(Zji h H).get? b=some o:=
 PySem.W.hideAll_get _ e fun hm=>by
  have q:(H b).isSome=true:=(List.mem_filter.mp hm).2
  rw[n] at q;simp at q
theorem ZhE {h:Heap} {H:Hp} {b:Addr} {o:Obj} (e:(Zji h H).get? b=some o):h.get? b=some o/\H b=none:=by
 have e':h.get? b=some o:=PySem.W.of_hideAll (trk h H) e
 refine ⟨e',?_⟩
 cases q:H b with
 |none=>rfl
 |some x=>
  have hm:b∈trk h H:=List.mem_filter.mpr ⟨List.mem_range.mpr (Heap.lt_size e'),by simp[q]⟩
  have z:(Zji h H).get? b=none:=PySem.W.hideAll_none (trk h H) hm
  rw[z] at e;cases e
noncomputable def Zla (g h:Heap) (L:Addr):List (Addr × Obj):=(List.range h.objs.size).filterMap fun a=>if a=L\/(g.get? a).isSome=true then none else (h.get? a).map fun o=>(a,o)
noncomputable def Zdc (g h:Heap) (L d:Addr):List (Addr × Obj):=(Zla g h L).filter fun p=>decide (p.1≠d)
end L2
namespace L2
open PySem PySem.Spec PyProof.Rows
structure Mod (K:PySem.W.Frag) (mg:Str->Option Value) (base:Heap):Prop where
 kin:K.In base
 glob:base.Ns mainGlobals mg
 blt: ∃ mb,base.Ns builtinsNs mb/\ ∀ x:Str,x≠"__name__"->mb x=bootBuiltins x
 nolimit:base.NoLimit
structure Cx where
 prog:Program
 w:World
 K:PySem.W.Frag
 mg:Str->Option Value
 base:Heap
 A:Around
 N:List Str
 s₀:Shared
 H₀:Hp
 env:Env
 outer:List Env
 stack:List Env
 ex:List Addr
 fn:Str->Bool
 calm:Bool
 pn:List (Addr × Obj)
 xe:Value->Shared->Prop
 fxs:Option (List Bool × List (Option V))
noncomputable def frs (l:List Env):List Addr:=l.filterMap (·.frame)
noncomputable abbrev Cx.fs (X:Cx):List Addr:=frs X.outer
noncomputable def Vis (sc:Scope) (x:Str):Prop:=sc.names.lookup x=some .local\/sc.names.lookup x=some .cell\/sc.names.lookup x=some .free
noncomputable def Loc (sc:Scope) (x:Str):Prop:=sc.names.lookup x=some .local\/sc.names.lookup x=some .cell
noncomputable def ZsW (env:Env) (h:Heap) (m:Str->Option Value) (x:Str) (u:Value):Prop:=
 (env.kindOf x=some .local/\m x=some u)\/((env.kindOf x=some .cell\/env.kindOf x=some .free)/\ ∃ c,env.cells.lookup x=some c/\h.IsCell c (some u))
structure Cx.Ok (X:Cx):Prop where
 mod:Mod X.K X.mg X.base
 kind:X.env.scope.kind= .function
 glob:X.env.globals=mainGlobals
 blt:X.env.builtins=builtinsNs
 above:X.s₀.heap.objs.size<=X.env.locals
 inj: ∀ x y c,X.env.cells.lookup x=some c->X.env.cells.lookup y=some c->x=y
 has: ∀ x,(X.env.kindOf x=some .cell\/X.env.kindOf x=some .free)-> ∃ c,X.env.cells.lookup x=some c
 cab: ∀ x c,X.fn x=true->X.env.cells.lookup x=some c->X.s₀.heap.objs.size<=c
 hd:X.calm=true->X.A.handled=none
 frames:X.A.frames=some X.stack
 stk:X.stack=X.outer\/(X.stack=X.env :: X.outer/\X.env.frame=some X.env.locals)
 exf: ∀ b∈X.ex,b≠X.env.locals/\ ∀ x c,X.env.cells.lookup x=some c->c≠b
 bs: ∀ b o,X.base.get? b=some o->X.s₀.heap.get? b=some o/\X.H₀ b=none
 bsz:X.base.objs.size<=X.s₀.heap.objs.size
 noex: ∀ b o,X.base.get? b=some o->b ∉ X.ex
 exfs: ∀ b∈X.ex,b ∉ X.fs
 funs:X.s₀.heap.FunFrames X.base X.outer
 frf: ∀ b∈X.fs,X.H₀ b=none
noncomputable def Qd (A:Around) (H:Hp):Prop:=A.handled=none\/ ∃ ea oe u vs,A.handled=some (.ref ea)/\H ea=some (.frz oe u)/\oe.data= .fields vs/\vs[2]?=some .none
theorem Qd.mono {A:Around} {H H':Hp} (q:Qd A H) (k: ∀ b o u,H b=some (.frz o u)->H' b=some (.frz o u)):Qd A H':=by
 rcases q with q | ⟨ea,oe,u,vs,e1,e2,e3,e4⟩
 ·exact .inl q
 ·exact .inr ⟨ea,oe,u,vs,e1,k _ _ _ e2,e3,e4⟩
noncomputable def Cx.may (X:Cx) (i:Nat):Bool:=match X.fxs with | none=>true | some (W,_)=>W[i]? == some true
noncomputable def Cx.Fx (X:Cx) (σ:List (Option V)):Prop:= ∀ W σ0,X.fxs=some (W,σ0)-> ∀ j:Nat,W[j]?=some false->σ[j]?=σ0[j]?
theorem Cx.Fx.free {X:Cx} {σ:List (Option V)} (h:X.fxs=none):X.Fx σ:=fun W σ0 e=>by rw[h] at e;cases e
theorem Cx.Fx.set {X:Cx} {σ:List (Option V)} {i:Nat} {v:Option V} (h:X.Fx σ) (m:X.may i=true):X.Fx (σ.set i v):=fun W σ0 e j hj=>by
 have ne:i≠j:=fun z=>by
  unfold Cx.may at m
  rw[e,z] at m
  have m':(W[j]? == some true)=true:=m
  rw[hj] at m'
  cases m'
 rw[List.getElem?_set_ne ne]
 exact h W σ0 e j hj
structure Inv (X:Cx) (pins:List (Addr × Obj)) (σ:List (Option V)) (H:Hp) (s:Shared):Prop where
 ok:X.Ok
 os:s.os=X.s₀.os
 bare:AllBare s.gens
 base:Un X.fs X.ex X.H₀ H X.s₀.heap s.heap
 loc: ∃ m,s.heap.Ns X.env.locals m/\ ∀ (i:Nat) (x:Str) (v:V),X.N[i]?=some x->σ[i]?=some (some v)->Vis X.env.scope x-> ∃ u,Zax v u/\ZsW X.env s.heap m x u
 cell: ∀ x c,X.env.cells.lookup x=some c-> ∃ v,s.heap.IsCell c v
 free:H X.env.locals=none
 freeC: ∀ x c,X.env.cells.lookup x=some c->H c=none
 pin: ∀ p∈X.pn ++ pins,s.heap.get? p.1=some p.2/\H p.1=none/\p.1≠X.env.locals/\p.1 ∉ X.fs/\ ∀ v,p.2.data≠ .cell v
 hok:HOk X.prog X.w H s.heap
 len:σ.length=X.N.length
 qd:Qd X.A H
 fx:X.Fx σ
section
variable {X:Cx} {pins:List (Addr × Obj)} {σ:List (Option V)} {H H':Hp} {s:Shared} {h':Heap}
theorem Cx.Ok.nofr (ok:X.Ok) {b:Addr} {o:Obj} (e:X.base.get? b=some o):b ∉ X.fs:=fun hb=>by
 have:=(ok.funs.mem hb).1
 rw[e] at this;cases this
theorem Inv.bs (I:Inv X pins σ H s): ∀ b o,X.base.get? b=some o->s.heap.get? b=some o/\H b=none:=fun b o e=>
 ⟨I.base.keep b o (I.ok.bs b o e).1 (I.ok.bs b o e).2 (I.ok.nofr e) (I.ok.noex b o e),I.base.free b o (I.ok.bs b o e).1 (I.ok.bs b o e).2 (I.ok.noex b o e)⟩
theorem Inv.qh (I:Inv X pins σ H s):DQ.Zcl X.A s.heap:=by
 rcases I.qd with q | ⟨ea,oe,u,vs,e1,e2,e3,e4⟩
 ·exact .inl q
 ·exact .inr ⟨ea,oe,vs,e1,(I.hok _ _ e2).1,e3,e4⟩
theorem Inv.bk (I:Inv X pins σ H s): ∀ b o,X.base.get? b=some o->s.heap.get? b=some o:=fun b o e=>(I.bs b o e).1
theorem Inv.mod (I:Inv X pins σ H s):Mod X.K X.mg X.base:=I.ok.mod
theorem Inv.kIn (I:Inv X pins σ H s):X.K.In s.heap:=I.ok.mod.kin.keeps I.bk
theorem Inv.fr (I:Inv X pins σ H s): ∃ m,Fr X.base X.env.locals s.heap m:=
 let ⟨m,hn,_⟩:=I.loc
 ⟨m,hn,I.bk,Nat.le_trans I.ok.bsz I.ok.above⟩
theorem Inv.lt (I:Inv X pins σ H s):X.env.locals < s.heap.objs.size:=let ⟨_,hn,_⟩:=I.loc;hn.lt
theorem Inv.sz (I:Inv X pins σ H s):X.s₀.heap.objs.size<=s.heap.objs.size:=Nat.le_trans I.ok.above (Nat.le_of_lt I.lt)
theorem Inv.nofs (I:Inv X pins σ H s) {a:Addr} (h:s.heap.objs.size<=a):a ∉ X.fs:=fun hb=>by
 obtain ⟨_,o,ho,_⟩:=I.ok.funs.mem hb
 exact absurd (Nat.lt_of_lt_of_le (Heap.lt_size ho) (Nat.le_trans I.sz h)) (Nat.lt_irrefl _)
theorem Inv.cne (I:Inv X pins σ H s): ∀ x c,X.env.cells.lookup x=some c->c≠X.env.locals:=fun x c e z=>by
 obtain ⟨v,o,ho,hd⟩:=I.cell x c e
 obtain ⟨m,⟨o',es,ep,ho',hd',_⟩,_⟩:=I.loc
 rw[z,ho'] at ho;cases ho;rw[hd'] at hd;cases hd
theorem Inv.funs (I:Inv X pins σ H s):s.heap.FunFrames X.base X.outer:=by
 have all: ∀ (l:List Env),(∀ b∈frs l,b∈X.fs)->X.s₀.heap.FunFrames X.base l->s.heap.FunFrames X.base l:=by
  intro l
  induction l with
  |nil=>intro _ _;trivial
  |cons env r ih=>
   intro hs hl
   obtain ⟨hk,⟨L,o,hf,hn,ho,hd⟩,hr⟩:=hl
   have hL:L∈X.fs:=hs L (by unfold frs;rw[List.filterMap_cons,hf];exact List.mem_cons_self)
   obtain ⟨sl,e⟩:=I.base.slot L o ho (I.ok.frf L hL) hL fun z=>I.ok.exfs L z hL
   exact ⟨hk,⟨L,_,hf,hn,e,hd⟩,ih (fun b hb=>hs b (by unfold frs;rw[List.filterMap_cons,hf];exact List.mem_cons_of_mem _ hb)) hr⟩
 exact all X.outer (fun _ hb=>hb) I.ok.funs
theorem Inv.stack (I:Inv X pins σ H s):s.heap.FunFrames X.base X.stack:=by
 rcases I.ok.stk with e | ⟨e,hf⟩
 ·rw[e];exact I.funs
 ·rw[e]
  obtain ⟨m,hn,_⟩:=I.loc
  refine .cons (by rw[I.ok.kind];decide) hf hn ?_ I.funs
  exact Heap.get?_none_of_le (Nat.le_trans I.ok.bsz I.ok.above)
theorem Inv.stkSub (I:Inv X pins σ H s): ∀ b∈frs X.stack,b∈X.env.locals :: X.fs:=fun b hb=>by
 rcases I.ok.stk with e | ⟨e,hf⟩
 ·rw[e] at hb;exact List.mem_cons_of_mem _ hb
 ·rw[e] at hb
  unfold frs at hb
  rw[List.filterMap_cons,hf] at hb
  exact hb
theorem Inv.stkFree (I:Inv X pins σ H s): ∀ b∈frs X.stack,H b=none:=fun b hb=>by
 rcases List.mem_cons.mp (I.stkSub b hb) with e | hb
 ·rw[e];exact I.free
 ·obtain ⟨_,o,ho,_⟩:=I.ok.funs.mem hb
  exact I.base.free b o ho (I.ok.frf b hb) fun z=>I.ok.exfs b z hb
theorem Inv.step {g':Array GenState} {t':Nat} {d':Drawn} {ch:List Addr} (I:Inv X pins σ H s)
  (hch: ∀ b∈ch,(b∈X.ex\/X.s₀.heap.objs.size<=b)/\b≠X.env.locals/\(∀ x c,X.env.cells.lookup x=some c->c≠b)/\ ∀ p∈X.pn ++ pins,p.1≠b)
  (keep: ∀ b o,b≠X.env.locals->b ∉ X.fs->b ∉ ch->s.heap.get? b=some o->H b=none->h'.get? b=some o)
  (slot: ∀ b o,b≠X.env.locals->b∈X.fs->b ∉ ch->s.heap.get? b=some o->H b=none-> ∃ sl,h'.get? b=some { o with slots:=sl }) (free: ∀ b o,b ∉ ch->s.heap.get? b=some o->H b=none->H' b=none)
  (there: ∀ b o,b ∉ ch->s.heap.get? b=some o-> ∃ o',h'.get? b=some o')
  (tups: ∀ b xs,H b=some (.tup xs)->H' b=some (.tup xs)) (frzs: ∀ b o u,H b=some (.frz o u)->H' b=some (.frz o u)) (tbls: ∀ b ps,H b=some (.tbl ps)-> ∃ more,H' b=some (.tbl (ps ++ more)))
  (ns: ∀ m,s.heap.Ns X.env.locals m->h'.Ns X.env.locals m) (hok:HOk X.prog X.w H' h') (hg:AllBare g'):
  Inv X pins σ H' { s with heap:=h',gens:=g',drawn:=d',toks:=t' }:=by
 have neL: ∀ b o,X.s₀.heap.get? b=some o->b≠X.env.locals:=fun b o e=>Nat.ne_of_lt (Nat.lt_of_lt_of_le (Heap.lt_size e) I.ok.above)
 have neC: ∀ b o,X.s₀.heap.get? b=some o->b ∉ X.ex->b ∉ ch:=fun b o e hx hb=>by
  rcases (hch b hb).1 with z | z
  ·exact hx z
  ·exact absurd (Nat.lt_of_lt_of_le (Heap.lt_size e) z) (Nat.lt_irrefl _)
 have cellK: ∀ x c,X.env.cells.lookup x=some c-> ∀ v,s.heap.IsCell c v->h'.IsCell c v:=fun x c e v ⟨o,ho,hd⟩=>by
  have nch:c ∉ ch:=fun z=>(hch c z).2.2.1 x c e rfl
  by_cases hc:c∈X.fs
  ·obtain ⟨sl,q⟩:=slot c o (I.cne x c e) hc nch ho (I.freeC x c e)
   exact ⟨_,q,hd⟩
  ·exact ⟨o,keep c o (I.cne x c e) hc nch ho (I.freeC x c e),hd⟩
 refine ⟨I.ok,I.os,hg,⟨fun b o e n hb hx=> ?_,fun b o e n hb hx=> ?_,fun b o e n hx=> ?_,fun b o e hx=> ?_,fun b xs e=>tups b xs (I.base.tups b xs e),fun b o xs e=>frzs b o xs (I.base.frzs b o xs e),fun b ps e=> ?_⟩,?_,fun x c e=> ?_,?_,fun x c e=> ?_,fun p hp=> ?_,hok,I.len,I.qd.mono frzs,I.fx⟩
 ·exact keep b o (neL b o e) hb (neC b o e hx) (I.base.keep b o e n hb hx) (I.base.free b o e n hx)
 ·obtain ⟨sl,e1⟩:=I.base.slot b o e n hb hx
  obtain ⟨sl',e2⟩:=slot b _ (neL b o e) hb (neC b o e hx) e1 (I.base.free b o e n hx)
  exact ⟨sl',e2⟩
 ·obtain ⟨o',e1⟩:=I.base.there b o e hx
  exact free b o' (neC b o e hx) e1 (I.base.free b o e n hx)
 ·obtain ⟨o',e1⟩:=I.base.there b o e hx
  exact there b o' (neC b o e hx) e1
 ·obtain ⟨m1,e1⟩:=I.base.tbls b ps e
  obtain ⟨m2,e2⟩:=tbls b _ e1
  exact ⟨m1 ++ m2,by rw[e2,Array.append_assoc]⟩
 ·obtain ⟨m,hn,hl⟩:=I.loc
  refine ⟨m,ns m hn,fun i x v e1 e2 e3=> ?_⟩
  obtain ⟨u,r,l⟩:=hl i x v e1 e2 e3
  refine ⟨u,r,?_⟩
  rcases l with l | ⟨k,c,e,z⟩
  ·exact .inl l
  ·exact .inr ⟨k,c,e,cellK x c e _ z⟩
 ·obtain ⟨v,z⟩:=I.cell x c e
  exact ⟨v,cellK x c e v z⟩
 ·obtain ⟨m,⟨o,_,_,ho,_⟩,_⟩:=I.loc
  exact free _ o (fun z=>(hch _ z).2.1 rfl) ho I.free
 ·obtain ⟨v,o,ho,hd⟩:=I.cell x c e
  exact free c o (fun z=>(hch c z).2.2.1 x c e rfl) ho (I.freeC x c e)
 ·obtain ⟨e,n,ne,nf,d⟩:=I.pin p hp
  have nch:p.1 ∉ ch:=fun z=>(hch p.1 z).2.2.2 p hp rfl
  exact ⟨keep p.1 p.2 ne nf nch e n,free p.1 p.2 nch e n,ne,nf,d⟩
theorem Inv.un {t':Nat} (I:Inv X pins σ H s) (u:Un X.fs [] H H' s.heap h') (hok:HOk X.prog X.w H' h'):Inv X pins σ H' { s with heap:=h',toks:=t' }:=by
 obtain ⟨m,⟨o,es,ep,ho,r⟩,_⟩:=id I.loc
 obtain ⟨sl,hL⟩:=u.any ho I.free (by simp)
 exact I.step (g':=s.gens) (d':=s.drawn) (ch:=[]) (fun _ z=>nomatch z) (fun b o _ hb _ e n=>u.keep b o e n hb (by simp)) (fun b o _ hb _ e n=>u.slot b o e n hb (by simp)) (fun b o _ e n=>u.free b o e n (by simp)) (fun b o _ e=>u.there b o e (by simp)) u.tups u.frzs u.tbls (fun m' hm=>by
  obtain ⟨o',es',ep',ho',r'⟩:=hm
  rw[ho] at ho';cases ho'
  exact ⟨_,es',ep',hL,r'⟩) hok I.bare
theorem Inv.call {g':Array GenState} {t':Nat} {d':Drawn} {ch:List Addr} (I:Inv X pins σ H s) (u:Un (frs X.stack) ch H H' s.heap h') (hok:HOk X.prog X.w H' h') (hg:AllBare g')
  (hch: ∀ b∈ch,(b∈X.ex\/X.s₀.heap.objs.size<=b)/\b≠X.env.locals/\(∀ x c,X.env.cells.lookup x=some c->c≠b)/\ ∀ p∈X.pn ++ pins,p.1≠b):
  Inv X pins σ H' { s with heap:=h',gens:=g',drawn:=d',toks:=t' }:=by
 obtain ⟨m,⟨o,es,ep,ho,r⟩,_⟩:=id I.loc
 obtain ⟨sl,hL⟩:=u.any ho I.free fun z=>(hch _ z).2.1 rfl
 exact I.step (ch:=ch) hch (fun b o hL hb hc e n=>u.keep b o e n (fun z=>(List.mem_cons.mp (I.stkSub b z)).elim hL hb) hc) (fun b o _ _ hc e n=>u.any e n hc) (fun b o hc e n=>u.free b o e n hc) (fun b o hc e=>u.there b o e hc) u.tups u.frzs u.tbls (fun m' hm=>by
  obtain ⟨o',es',ep',ho',r'⟩:=hm
  rw[ho] at ho';cases ho'
  exact ⟨_,es',ep',hL,r'⟩) hok hg
theorem Inv.turned {t':Nat} {it:Addr} (I:Inv X pins σ H s) (k: ∀ b o,b≠it->s.heap.get? b=some o->h'.get? b=some o) (hn:H it=none) (hL:it≠X.env.locals)
  (h1:it∈X.ex\/X.s₀.heap.objs.size<=it) (h2: ∀ x c,X.env.cells.lookup x=some c->c≠it) (h3: ∀ p∈X.pn ++ pins,p.1≠it):Inv X pins σ H { s with heap:=h',toks:=t' }:=by
 have nit: ∀ b u,H b=some u->b≠it:=fun b u e z=>by rw[z,hn] at e;cases e
 refine I.step (g':=s.gens) (d':=s.drawn) (ch:=[it]) (fun b hb=> ?_) (fun b o _ _ hc e _=>k b o (fun z=>hc (by simp[z])) e) (fun b o _ _ hc e _=>⟨o.slots,k b o (fun z=>hc (by simp[z])) e⟩) (fun _ _ _ _ n=>n)
  (fun b o hc e=>⟨o,k b o (fun z=>hc (by simp[z])) e⟩) (fun _ _ e=>e) (fun _ _ _ e=>e) (fun b ps e=>⟨#[],by rw[e];simp⟩) (fun m hm=> ?_) (fun b u e=> ?_) I.bare
 ·have e:b=it:=by simpa using hb
  subst e
  exact ⟨h1,hL,h2,h3⟩
 ·obtain ⟨o,es,ep,ho,r⟩:=hm
  exact ⟨o,es,ep,k _ o (Ne.symm hL) ho,r⟩
 ·refine (I.hok b u e).stay (fun c v hc q=>k c v ?_ q) (fun _ q=>q) fun _ _ q=>q
  rcases hc with z | z
  ·rw[z];exact nit b u e
  ·exact nit c _ z
theorem Inv.tok (I:Inv X pins σ H s) (t:Nat):Inv X pins σ H { s with toks:=t }:=I.un (h':=s.heap) (t':=t) Un.refl I.hok
theorem Inv.kept {t':Nat} (I:Inv X pins σ H s) (k: ∀ b u,s.heap.get? b=some u->h'.get? b=some u):Inv X pins σ H { s with heap:=h',toks:=t' }:=I.un (Un.kept k) (I.hok.kept k)
theorem Inv.laid {a:Addr} {o:HO} {t':Nat} (I:Inv X pins σ H s) (k: ∀ b u,s.heap.get? b=some u->h'.get? b=some u) (hp:s.heap.objs.size<=a) (new:Zcy X.prog X.w (upd H a o) h' a o):
  Inv X pins σ (upd H a o) { s with heap:=h',toks:=t' }:=I.un (Un.laid k hp (I.hok.fresh hp)) (I.hok.laid k hp new)
theorem Inv.write {x e:Addr} {o:HO} {t':Nat} (I:Inv X pins σ H s) (mu:Mut (H x)) (he:e=x\/H e=some (.own x)) (k: ∀ b u,b≠e->s.heap.get? b=some u->h'.get? b=some u) (heo: ∃ u,h'.get? e=some u)
  (new:Zcy X.prog X.w (upd H x o) h' x o):Inv X pins σ (upd H x o) { s with heap:=h',toks:=t' }:=I.un (Un.write mu he k heo) (I.hok.write mu he k heo new)
theorem Inv.pins_of {pins':List (Addr × Obj)} (I:Inv X pins σ H s) (h: ∀ p∈pins',s.heap.get? p.1=some p.2/\H p.1=none/\p.1≠X.env.locals/\p.1 ∉ X.fs/\ ∀ v,p.2.data≠ .cell v):Inv X pins' σ H s:=
 ⟨I.ok,I.os,I.bare,I.base,I.loc,I.cell,I.free,I.freeC,fun p hp=>(List.mem_append.mp hp).elim (fun z=>I.pin p (List.mem_append_left _ z)) (h p),I.hok,I.len,I.qd,I.fx⟩
theorem Zgv {N:List Str} (hN:N.Nodup) {i j:Nat} {x:Str} (a:N[i]?=some x) (b:N[j]?=some x):i=j:=by
 obtain ⟨h1,e1⟩:=List.getElem?_eq_some_iff.mp a
 obtain ⟨h2,e2⟩:=List.getElem?_eq_some_iff.mp b
 exact (List.getElem_inj hN).mp (e1.trans e2.symm)
theorem Ze5 {M:Model} {A:Around} {E:Value->Shared->Prop} {i:Nat} {x:Str} {v:V} {u:Value} {Q:Unit->Shared->Prop} (I:Inv X pins σ H s) (hN:X.N.Nodup) (hi:X.N[i]?=some x) (hx:Loc X.env.scope x) (hm:X.may i=true) (r:Zax v u)
  (h: ∀ s',Inv X pins (σ.set i (some v)) H s'->(∃ a,Heap.SameBut a s.heap s'.heap/\(a=X.env.locals\/X.env.cells.lookup x=some a))->Q () s') (hf:X.fn x=true\/X.env.scope.names.lookup x=some .local:=by first | exact .inl rfl | exact .inr rfl | assumption):wpAny M A (storeName X.env x u) Q E s:=by
 obtain ⟨m,hn,hl⟩:=id I.loc
 have hcls:(X.env.scope.kind == .class || (X.env.scope.kind == .module && X.env.locals != X.env.globals))=false:=by rw[I.ok.kind];rfl
 have hiσ:i < σ.length:=by rw[I.len];exact (List.getElem?_eq_some_iff.mp hi).1
 have cne:=I.cne
 have tracked: ∀ {a:Addr} {h':Heap},(∃ o,s.heap.get? a=some o/\H a=none)->Heap.SameBut a s.heap h'->HOk X.prog X.w H h':=fun {a h'} ha hs b ob e=>by
  obtain ⟨_,_,hfree⟩:=ha
  refine (I.hok b ob e).stay (fun c w' hc q=>(hs.2 c ?_).trans q) (fun _ q=>q) fun _ _ q=>q
  rintro rfl
  rcases hc with rfl | hc
  ·rw[hfree] at e;cases e
  ·rw[hfree] at hc;cases hc
 rcases hx with hk | hk
 ·refine wpAny_storeName_local hk hn (fun h' hn' hs=> ?_) hcls
  obtain ⟨oL,_,_,hoL,_⟩:=id hn
  refine h _ ⟨I.ok,I.os,I.bare,⟨fun b o e n hb hx=> ?_,fun b o e n hb hx=> ?_,I.base.free,fun b o e hx=> ?_,I.base.tups,I.base.frzs,I.base.tbls⟩,⟨_,hn',fun j y v' e1 e2 e3=> ?_⟩,fun y c e=> ?_,I.free,I.freeC,fun p hp=> ?_,tracked ⟨oL,hoL,I.free⟩ hs,by simpa using I.len,I.qd,I.fx.set hm⟩ ⟨_,hs,.inl rfl⟩
  ·exact (hs.2 b (Nat.ne_of_lt (Nat.lt_of_lt_of_le (Heap.lt_size e) I.ok.above))).trans (I.base.keep b o e n hb hx)
  ·obtain ⟨sl,e1⟩:=I.base.slot b o e n hb hx
   exact ⟨sl,(hs.2 b (Nat.ne_of_lt (Nat.lt_of_lt_of_le (Heap.lt_size e) I.ok.above))).trans e1⟩
  ·obtain ⟨o',e1⟩:=I.base.there b o e hx
   exact ⟨o',(hs.2 b (Nat.ne_of_lt (Nat.lt_of_lt_of_le (Heap.lt_size e) I.ok.above))).trans e1⟩
  ·by_cases hj:j=i
   ·subst hj
    rw[hi] at e1;cases e1
    rw[List.getElem?_set_self hiσ] at e2
    cases e2
    exact ⟨u,r,.inl ⟨hk,by simp⟩⟩
   ·rw[List.getElem?_set_ne (Ne.symm hj)] at e2
    obtain ⟨u',r',q⟩:=hl j y v' e1 e2 e3
    refine ⟨u',r',?_⟩
    rcases q with ⟨k,e⟩ | ⟨k,c,e,z⟩
    ·refine .inl ⟨k,?_⟩
     have:y≠x:=fun e=>hj (Zgv hN e1 (e ▸ hi))
     simp[this,e]
    ·exact .inr ⟨k,c,e,z.sameBut hs (cne y c e)⟩
  ·obtain ⟨w',z⟩:=I.cell y c e
   exact ⟨w',z.sameBut hs (cne y c e)⟩
  ·obtain ⟨e,n,ne,nf,d⟩:=I.pin p hp
   exact ⟨(hs.2 p.1 ne).trans e,n,ne,nf,d⟩
 ·have hfn:X.fn x=true:=by
   rcases hf with z | z
   ·exact z
   ·rw[z] at hk;cases hk
  obtain ⟨c,hc⟩:=I.ok.has x (.inl hk)
  obtain ⟨w',z⟩:=I.cell x c hc
  refine wpAny_storeName_cell I.ok.kind hk hc z (fun h' hc' hs=> ?_)
  obtain ⟨oc,hoc,hocd⟩:=id z
  refine h { s with heap:=h' } ⟨I.ok,I.os,I.bare,⟨fun b o e n hb hx=> ?_,fun b o e n hb hx=> ?_,I.base.free,fun b o e hx=> ?_,I.base.tups,I.base.frzs,I.base.tbls⟩,⟨m,hn.sameBut hs (Ne.symm (cne x c hc)),fun j y v' e1 e2 e3=> ?_⟩,fun y c' e=> ?_,I.free,I.freeC,fun p hp=> ?_,tracked ⟨oc,hoc,I.freeC x c hc⟩ hs,by simpa using I.len,I.qd,I.fx.set hm⟩ ⟨c,hs,.inr hc⟩
  ·exact (hs.2 b (Nat.ne_of_lt (Nat.lt_of_lt_of_le (Heap.lt_size e) (I.ok.cab x c hfn hc)))).trans (I.base.keep b o e n hb hx)
  ·obtain ⟨sl,e1⟩:=I.base.slot b o e n hb hx
   exact ⟨sl,(hs.2 b (Nat.ne_of_lt (Nat.lt_of_lt_of_le (Heap.lt_size e) (I.ok.cab x c hfn hc)))).trans e1⟩
  ·obtain ⟨o',e1⟩:=I.base.there b o e hx
   exact ⟨o',(hs.2 b (Nat.ne_of_lt (Nat.lt_of_lt_of_le (Heap.lt_size e) (I.ok.cab x c hfn hc)))).trans e1⟩
  ·by_cases hj:j=i
   ·subst hj
    rw[hi] at e1;cases e1
    rw[List.getElem?_set_self hiσ] at e2
    cases e2
    exact ⟨u,r,.inr ⟨.inl hk,c,hc,hc'⟩⟩
   ·rw[List.getElem?_set_ne (Ne.symm hj)] at e2
    obtain ⟨u',r',q⟩:=hl j y v' e1 e2 e3
    refine ⟨u',r',?_⟩
    rcases q with q | ⟨k,c',e,z'⟩
    ·exact .inl q
    ·refine .inr ⟨k,c',e,z'.sameBut hs ?_⟩
     rintro rfl
     exact hj (Zgv hN e1 (I.ok.inj _ _ _ e hc ▸ hi))
  ·by_cases hcc:c'=c
   ·subst hcc;exact ⟨_,hc'⟩
   ·obtain ⟨w2,z2⟩:=I.cell y c' e
    exact ⟨w2,z2.sameBut hs hcc⟩
  ·obtain ⟨e,n,ne,nf,d⟩:=I.pin p hp
   refine ⟨(hs.2 p.1 ?_).trans e,n,ne,nf,d⟩
   intro q
   rw[q,hoc] at e
   have q':oc=p.2:=Option.some.inj e
   exact d w' (by rw[<- q'];exact hocd)
theorem ZdB {M:Model} {A:Around} {E:Value->Shared->Prop} {i:Nat} {x:Str} {v:V} {u:Value} {Q:Unit->Shared->Prop} (I:Inv X pins σ H s) (hN:X.N.Nodup) (hi:X.N[i]?=some x) (hx:Loc X.env.scope x) (hm:X.may i=true) (r:Zax v u)
  (h: ∀ s',Inv X pins (σ.set i (some v)) H s'->Q () s') (hf:X.fn x=true\/X.env.scope.names.lookup x=some .local:=by first | exact .inl rfl | exact .inr rfl | assumption):wpAny M A (storeName X.env x u) Q E s:=
 Ze5 I hN hi hx hm r (fun s' I' _=>h s' I') hf
theorem Inv.call' {s':Shared} {ch:List Addr} (I:Inv X pins σ H s) (ho:s'.os=s.os) (u:Un (frs X.stack) ch H H' s.heap s'.heap) (hok:HOk X.prog X.w H' s'.heap) (hg:AllBare s'.gens)
  (hch: ∀ b∈ch,(b∈X.ex\/X.s₀.heap.objs.size<=b)/\b≠X.env.locals/\(∀ x c,X.env.cells.lookup x=some c->c≠b)/\ ∀ p∈X.pn ++ pins,p.1≠b):Inv X pins σ H' s':=by
 obtain ⟨h',g',d',t',o'⟩:=s'
 have e:o'=s.os:=ho
 subst e
 exact I.call (g':=g') (t':=t') (d':=d') u hok hg hch
end
noncomputable abbrev XK:=Value->Option Addr->Hp->Prop
noncomputable abbrev St:=List (Option V)
noncomputable abbrev VK:=V->Hp->Prop
noncomputable abbrev TE:=St->Hp->VK->Prop
noncomputable abbrev TT:=St->Hp->(Bool->Hp->Prop)->Prop
noncomputable abbrev TA:=St->Hp->(List V->Hp->Prop)->Prop
structure Ends where
 nx:St->Hp->Prop
 rt:VK
 bk:St->Hp->Prop:=fun _ _=>False
 ct:St->Hp->Prop:=fun _ _=>False
noncomputable abbrev TS:=Ends->St->Hp->Prop
noncomputable def EP (X:Cx) (pins:List (Addr × Obj)) (σ:St) (Q:VK) (u:Value) (s':Shared):Prop:= ∃ v H',Inv X pins σ H' s'/\Zax v u/\Q v H'
noncomputable def TP (X:Cx) (pins:List (Addr × Obj)) (σ:St) (Q:Bool->Hp->Prop) (b:Bool) (s':Shared):Prop:= ∃ H',Inv X pins σ H' s'/\Q b H'
noncomputable def AP (X:Cx) (pins:List (Addr × Obj)) (σ:St) (Q:List V->Hp->Prop) (us:List Value) (s':Shared):Prop:= ∃ vs H',Inv X pins σ H' s'/\Zam vs us/\Q vs H'
noncomputable def SP (X:Cx) (pins:List (Addr × Obj)) (D:Ends) (f:Flow) (s':Shared):Prop:=
 match f with
 | .next=> ∃ σ' H',Inv X pins σ' H' s'/\D.nx σ' H'
 | .brk=> ∃ σ' H',Inv X pins σ' H' s'/\D.bk σ' H'
 | .cont=> ∃ σ' H',Inv X pins σ' H' s'/\D.ct σ' H'
 | .ret u=> ∃ v σ' H',Inv X pins σ' H' s'/\Zax v u/\D.rt v H'
noncomputable def PE (X:Cx) (e:Expr) (t:TE):Prop:=
 ∀ (pins:List (Addr × Obj)) (s:Shared) (σ:St) (H:Hp) (Q:VK),Inv X pins σ H s->t σ H Q->wpAny (model X.prog X.w) X.A (eval e X.env) (EP X pins σ Q) X.xe s
noncomputable def PT (X:Cx) (e:Expr) (t:TT):Prop:=
 ∀ (pins:List (Addr × Obj)) (s:Shared) (σ:St) (H:Hp) (Q:Bool->Hp->Prop),Inv X pins σ H s->t σ H Q->wpAny (model X.prog X.w) X.A (isTrue e X.env (eval e X.env)) (TP X pins σ Q) X.xe s
noncomputable def PW (X:Cx) (e:Expr) (t:TT):Prop:=
 ∀ (whole:Sem Value) (pins:List (Addr × Obj)) (s:Shared) (σ:St) (H:Hp) (Q:Bool->Hp->Prop),Inv X pins σ H s->t σ H Q->wpAny (model X.prog X.w) X.A (isTrue e X.env whole) (TP X pins σ Q) X.xe s
theorem PW.pt {X:Cx} {e:Expr} {t:TT} (h:PW X e t):PT X e t:=h _
noncomputable def PA (X:Cx) (es:List Expr) (t:TA):Prop:=
 ∀ (pos:Pos) (pins:List (Addr × Obj)) (s:Shared) (σ:St) (H:Hp) (Q:List V->Hp->Prop),Inv X pins σ H s->t σ H Q->wpAny (model X.prog X.w) X.A (spliced (backTo pos (starEach es X.env))) (AP X pins σ Q) X.xe s
noncomputable def PS (X:Cx) (st:Stmt) (t:TS):Prop:=
 ∀ (pins:List (Addr × Obj)) (s:Shared) (σ:St) (H:Hp) (D:Ends),Inv X pins σ H s->t D σ H->wpAny (model X.prog X.w) X.A (exec st X.env) (SP X pins D) X.xe s
noncomputable def PSs (X:Cx) (st:List Stmt) (t:TS):Prop:=
 ∀ (pins:List (Addr × Obj)) (s:Shared) (σ:St) (H:Hp) (D:Ends),Inv X pins σ H s->t D σ H->wpAny (model X.prog X.w) X.A (execs st X.env) (SP X pins D) X.xe s
theorem thn {α:Type} {t:Sem α} {Q Q':α->Shared->Prop} {M:Model} {A:Around} {E:Value->Shared->Prop} {s:Shared} (h:wpAny M A t Q E s) (hQ: ∀ a s,Q a s->Q' a s):wpAny M A t Q' E s:=wpAny_mono h hQ fun _ _ x=>x
end L2
namespace L2
open PySem PySem.Spec PyProof.Rows
section
variable {X:Cx}
theorem bin {a b:Expr} {ta tb:TE} (ha:PE X a ta) (hb:PE X b tb) {pins:List (Addr × Obj)} {s:Shared} {σ:St} {H:Hp} {R:V->V->Hp->Prop} (I:Inv X pins σ H s) (h:ta σ H fun x H1=>tb σ H1 fun y H2=>R x y H2)
  {α:Type} {Q:α->Shared->Prop} {f:Value->Value->Sem α}
  (hf: ∀ v u s2 x y H2,Inv X pins σ H2 s2->Zax x v->Zax y u->R x y H2->wpAny (model X.prog X.w) X.A (f v u) Q X.xe s2):
  wpAny (model X.prog X.w) X.A (eval a X.env) (fun v s₁=>wpAny (model X.prog X.w) X.A (eval b X.env) (fun u s₂=>wpAny (model X.prog X.w) X.A (f v u) Q X.xe s₂) X.xe s₁) X.xe s:=by
 refine thn (ha pins s σ H _ I h) fun v s1 ⟨x,H1,I1,r1,q1⟩=> ?_
 refine thn (hb pins s1 σ H1 _ I1 q1) fun u s2 ⟨y,H2,I2,r2,q2⟩=> ?_
 exact hf v u s2 x y H2 I2 r1 r2 q2
noncomputable def ZsX (i:Nat):TE:=fun σ H Q=> ∃ v,σ[i]?=some (some v)/\Q v H
noncomputable def tC (v:V):TE:=fun _ H Q=>Q v H
theorem ZmO {i:Nat} {x:Str} {pos:Pos} (hN:X.N[i]?=some x) (hv:Vis X.env.scope x) (hd:(x == ("__debug__":Str))=false:=by decide) (hcd:(x == ("__classdict__":Str))=false:=by decide):PE X (.Name x pos) (ZsX i):=by
 intro pins s σ H Q I h
 obtain ⟨v,e,h⟩:=h
 obtain ⟨m,hn,hl⟩:=I.loc
 obtain ⟨u,r,l⟩:=hl i x v hN e hv
 have fin:EP X pins σ Q u s:=⟨v,H,I,r,h⟩
 rcases l with ⟨hk,hm⟩ | ⟨hk,c,hc,hcell⟩
 ·exact wpAny_Name (wpAny_loadName_local I.ok.kind hk hn hm fin) hd
 ·rcases hk with hk | hk
  ·exact wpAny_Name (wpAny_loadName_cell I.ok.kind hk hc hcell fin) hd
  ·exact wpAny_Name (wpAny_loadName_free I.ok.kind hk hc hcell fin hcd) hd
theorem ZmP {i j pos}:PE X (.Constant (.int i) j pos) (tC (.int i)):=fun _ _ _ H _ I h=>wpAny_Constant_int ⟨.int i,H,I.tok _,⟨_,rfl⟩,h⟩
theorem ZpY {b j pos}:PE X (.Constant (.bool b) j pos) (tC (.bl b)):=fun _ _ _ H _ I h=>Constant_bool ⟨.bl b,H,I,rfl,h⟩
theorem ZmQ {j pos}:PE X (.Constant .none j pos) (tC .non):=fun _ _ _ H _ I h=>Constant_none ⟨.non,H,I,rfl,h⟩
theorem ZmR {x j pos}:PE X (.Constant (.str x) j pos) (tC (.str x)):=fun _ _ _ H _ I h=>Calls.Constant_str ⟨.str x,H,I.tok _,⟨_,rfl⟩,h⟩
noncomputable def Gl (X:Cx) (x:Str):Prop:=X.env.kindOf x=some .globalImplicit
theorem ZhF {E:Value->Shared->Prop} {pins:List (Addr × Obj)} {s:Shared} {σ:St} {H:Hp} {x:Str} {u:Value} {pos:Pos} {Q:Value->Shared->Prop} (I:Inv X pins σ H s) (hg:Gl X x) (hm:X.mg x=some u) (h:Q u s)
  (hd:(x == ("__debug__":Str))=false:=by decide):wpAny (model X.prog X.w) X.A (eval (.Name x pos) X.env) Q E s:=
 Calls.Name_function_global I.ok.kind hg (Calls.loadGlobal_global (by rw[I.ok.glob];exact I.mod.glob.keeps I.bk) hm h) hd
theorem ZcE {E:Value->Shared->Prop} {pins:List (Addr × Obj)} {s:Shared} {σ:St} {H:Hp} {x:Str} {u:Value} {pos:Pos} {Q:Value->Shared->Prop} (I:Inv X pins σ H s) (hg:Gl X x) (hm:X.mg x=none) (hv:bootBuiltins x=some u) (h:Q u s)
  (hn:x≠"__name__":=by decide) (hd:(x == ("__debug__":Str))=false:=by decide):wpAny (model X.prog X.w) X.A (eval (.Name x pos) X.env) Q E s:=by
 obtain ⟨mb,h1,h2⟩:=I.mod.blt
 exact Calls.Name_function_global I.ok.kind hg (Calls.loadGlobal_builtin (by rw[I.ok.glob];exact I.mod.glob.keeps I.bk) hm (by rw[I.ok.blt];exact h1.keeps I.bk) ((h2 x hn).trans hv) h) hd
theorem Zlb {x:Str} {v:V} {u:Value} {pos:Pos} (hg:Gl X x) (hm:X.mg x=none) (hv:bootBuiltins x=some u) (r:Zax v u) (hn:x≠"__name__":=by decide) (hd:(x == ("__debug__":Str))=false:=by decide):PE X (.Name x pos) (tC v):=
 fun _ _ _ H _ I h=>ZcE I hg hm hv ⟨v,H,I,r,h⟩ hn hd
variable {a b:Expr} {ta tb:TE} {pos:Pos}
noncomputable def PC (X:Cx) (op:CmpOp) (a b:Expr) (t:TE):Prop:=
 ∀ (pins:List (Addr × Obj)) (s:Shared) (σ:St) (H:Hp) (Q:VK),Inv X pins σ H s->t σ H Q->
  wpAny (model X.prog X.w) X.A (eval a X.env) (fun v s₁=>wpAny (model X.prog X.w) X.A (eval b X.env) (fun u s₂=>wpAny (model X.prog X.w) X.A (compareOp op v u) (EP X pins σ Q) X.xe s₂) X.xe s₁) X.xe s
theorem Zjl (b:Expr) {op:CmpOp} (h:op≠ .In) (h2:op≠ .NotIn):behindInMarks op b=false:=by
 have e1:(op == CmpOp.In)=false:=by cases op<;>first | rfl | exact absurd rfl h
 have e2:(op == CmpOp.NotIn)=false:=by cases op<;>first | rfl | exact absurd rfl h2
 cases b<;>simp[behindInMarks,e1,e2]
noncomputable def tB (t:TE):TT:=fun σ H Q=>t σ H fun x H1=> ∃ c,x= .bl c/\Q c H1
theorem ZrU {op:CmpOp} {t:TE} (h:PC X op a b t) (h1:behindInMarks op b=false:=by first | exact Zjl _ (by decide) (by decide) | rfl):PT X (.Compare a [op] [b] pos) (tB t):=by
 intro pins s σ H Q I hw
 refine wpAny_isTrue_Compare1 (thn (h pins s σ H _ I hw) fun v s1 h1=>thn h1 fun u s2 h2=>thn h2 fun c s3 ⟨x,H1,I1,r1,q1⟩=> ?_) h1
 obtain ⟨d,rfl,q⟩:=q1
 cases r1
 exact wpAny_truthy_bool ⟨H1,I1,q⟩
theorem ZmS {e:Expr} {t:TE} (h:PE X e t) (he: ∀ whole,isTrue e X.env whole=(do let v <- whole;standAt e.pos;holding [v] (truthy v)):=by intro _;rfl):PT X e (tB t):=by
 intro pins s σ H Q I hw
 refine isTrue_plain (thn (h pins s σ H _ I hw) fun v s1 ⟨x,H1,I1,r1,q1⟩=> ?_) (he _)
 obtain ⟨d,rfl,q⟩:=q1
 cases r1
 exact wpAny_truthy_bool ⟨H1,I1,q⟩
variable {tA tB':TT} {Zdc:List Expr}
noncomputable def ZsY (t u:TT):TT:=fun σ H Q=>t σ H fun c H1=>if c=true then u σ H1 Q else Q false H1
noncomputable def tOr (t u:TT):TT:=fun σ H Q=>t σ H fun c H1=>if c=true then Q true H1 else u σ H1 Q
noncomputable def ZsZ (t:TT):TT:=fun σ H Q=>t σ H fun c H1=>Q (!c) H1
theorem pw_and1 (ha:PT X a tA):PW X (.BoolOp .And [a] pos) tA:=by
 intro wh pins s σ H Q I h
 refine isTrue_and (thn (ha pins s σ H Q I h) fun c s1 e=> ?_)
 cases c with
 |true=>exact isTrue_and_nil e
 |false=>exact e
theorem pw_or1 (ha:PT X a tA):PW X (.BoolOp .Or [a] pos) tA:=by
 intro wh pins s σ H Q I h
 refine isTrue_or (thn (ha pins s σ H Q I h) fun c s1 e=> ?_)
 cases c with
 |false=>exact isTrue_or_nil e
 |true=>exact e
theorem pw_and (ha:PT X a tA) (hb:PW X (.BoolOp .And (b :: Zdc) pos) tB'):PW X (.BoolOp .And (a :: b :: Zdc) pos) (ZsY tA tB'):=by
 intro wh pins s σ H Q I h
 refine isTrue_and (thn (ha pins s σ H _ I h) fun c s1 ⟨H1,I1,q1⟩=> ?_)
 cases c with
 |true=>exact hb wh pins s1 σ H1 Q I1 q1
 |false=>exact ⟨H1,I1,q1⟩
theorem pw_or (ha:PT X a tA) (hb:PW X (.BoolOp .Or (b :: Zdc) pos) tB'):PW X (.BoolOp .Or (a :: b :: Zdc) pos) (tOr tA tB'):=by
 intro wh pins s σ H Q I h
 refine isTrue_or (thn (ha pins s σ H _ I h) fun c s1 ⟨H1,I1,q1⟩=> ?_)
 cases c with
 |true=>exact ⟨H1,I1,q1⟩
 |false=>exact hb wh pins s1 σ H1 Q I1 q1
theorem ZmT (ha:PT X a tA):PT X (.UnaryOp .Not a pos) (ZsZ tA):=by
 intro pins s σ H Q I h
 exact isTrue_not (ha pins s σ H (fun c H1=>Q (!c) H1) I h)
noncomputable def ZpZ (ta tb:TE):TE:=fun σ H Q=>ta σ H fun x H1=> ∃ c,x= .bl c/\if c=true then tb σ H1 Q else Q (.bl false) H1
noncomputable def Zs0 (ta tb:TE):TE:=fun σ H Q=>ta σ H fun x H1=> ∃ c,x= .bl c/\if c=true then Q (.bl true) H1 else tb σ H1 Q
noncomputable def Zp0 (ta:TE):TE:=fun σ H Q=>ta σ H fun x H1=> ∃ c,x= .bl c/\Q (.bl (!c)) H1
theorem ZmU {op} {t:TE} (h:PE X a t):PE X (.BoolOp op [a] pos) t:=fun pins s σ H Q I hw=>BoolOp_one (h pins s σ H Q I hw)
theorem ZmV (ha:PE X a ta) (hb:PE X (.BoolOp .And (b :: Zdc) pos) tb):PE X (.BoolOp .And (a :: b :: Zdc) pos) (ZpZ ta tb):=by
 intro pins s σ H Q I h
 refine BoolOp_and (thn (ha pins s σ H _ I h) fun v s1 ⟨x,H1,I1,r1,q1⟩=> ?_)
 obtain ⟨c,rfl,q1⟩:=q1
 cases r1
 refine wpAny_truthy_bool ?_
 cases c with
 |true=>exact hb pins s1 σ H1 Q I1 q1
 |false=>exact ⟨.bl false,H1,I1,rfl,q1⟩
theorem Zp1 (ha:PE X a ta) (hb:PE X (.BoolOp .Or (b :: Zdc) pos) tb):PE X (.BoolOp .Or (a :: b :: Zdc) pos) (Zs0 ta tb):=by
 intro pins s σ H Q I h
 refine BoolOp_or (thn (ha pins s σ H _ I h) fun v s1 ⟨x,H1,I1,r1,q1⟩=> ?_)
 obtain ⟨c,rfl,q1⟩:=q1
 cases r1
 refine wpAny_truthy_bool ?_
 cases c with
 |false=>exact hb pins s1 σ H1 Q I1 q1
 |true=>exact ⟨.bl true,H1,I1,rfl,q1⟩
theorem ZmW (ha:PE X a ta):PE X (.UnaryOp .Not a pos) (Zp0 ta):=by
 intro pins s σ H Q I h
 refine UnaryOp_ (thn (ha pins s σ H _ I h) fun v s1 ⟨x,H1,I1,r1,q1⟩=> ?_)
 obtain ⟨c,rfl,q1⟩:=q1
 cases r1
 exact not_of (wpAny_truthy_bool ⟨.bl (!c),H1,I1,rfl,q1⟩)
end
end L2
namespace L2
open PySem PySem.Spec PyProof.Rows
noncomputable def SqL (K:PySem.W.Frag) (H:Hp) (a:Addr) (xs:List V):Prop:=
 Rd H a (.lst xs)\/
  ∃ (o:Obj) (its:Array Value) (n:Nat),K.lookup a=some o/\o.cls= .type "list"/\o.dict=none/\o.data= .seq its n/\its.size<=sizeLine/\Zam xs its.toList
noncomputable def SqT (K:PySem.W.Frag) (H:Hp) (a:Addr) (xs:List V):Prop:=
 Rd H a (.tup xs)\/
  ∃ (o:Obj) (its:Array Value) (n:Nat),K.lookup a=some o/\o.cls= .type "tuple"/\o.data= .seq its n/\its.size<=sizeLine/\Zam xs its.toList
noncomputable def Zs1:Value->Option V
 | .none=>some .non
 | .bool b=>some (.bl b)
 | .int i _=>some (.int i)
 | .str x _=>some (.str x)
 | .bytes b _=>some (.byt b)
 | .float b _=>some (.flt b)
 | .ref a=>some (.ref a)
 | .type n=>some (.ty n)
 |_=>none
theorem Zax.abs {x:V} {u:Value} (r:Zax x u):Zs1 u=some x:=by
 cases x with
 |non=>cases r;rfl
 |bl _=>cases r;rfl
 |int _=>obtain ⟨t,rfl⟩:=r;rfl
 |str _=>obtain ⟨t,rfl⟩:=r;rfl
 |byt _=>obtain ⟨t,rfl⟩:=r;rfl
 |flt _=>obtain ⟨t,rfl⟩:=r;rfl
 |ref _=>cases r;rfl
 |ty _=>cases r;rfl
theorem Zax.inj {x y:V} {u:Value} (r:Zax x u) (q:Zax y u):x=y:=Option.some.inj (r.abs.symm.trans q.abs)
theorem Zam.inj: ∀ {xs ys:List V} {us:List Value},Zam xs us->Zam ys us->xs=ys
 |_,_,_,.nil,.nil=>rfl
 |_,_,_,.cons r t,.cons r' t'=>by rw[r.inj r',Zam.inj t t']
section
variable {X:Cx} {pins:List (Addr × Obj)} {σ:St} {H:Hp} {s:Shared} {a:Addr} {xs ys:List V}
theorem SqL.of {K:PySem.W.Frag} (h:H a=some (.lst xs)):SqL K H a xs:= .inl (.inl h)
theorem SqT.of {K:PySem.W.Frag} (h:H a=some (.tup xs)):SqT K H a xs:= .inl (.inl h)
theorem Inv.list (I:Inv X pins σ H s) (h:SqL X.K H a xs): ∃ its:List Value,Zam xs its/\PlainL s.heap a its.toArray/\xs.length<=sizeLine:=by
 rcases h with h | ⟨o,its,n,hk,hc,hd,hs,hz,r⟩
 ·obtain ⟨z,its,n,r,e⟩:=h.ok I.hok
  exact ⟨its,r,⟨_,n,e,rfl,rfl,rfl⟩,z⟩
 ·refine ⟨its.toList,r,⟨o,n,I.kIn a o hk,hc,hd,by simpa using hs⟩,?_⟩
  have e:=r.length
  simp only[Array.length_toList] at e
  omega
theorem Inv.tuple (I:Inv X pins σ H s) (h:SqT X.K H a xs): ∃ its:List Value,Zam xs its/\IsTup s.heap a its.toArray/\xs.length<=sizeLine:=by
 rcases h with h | ⟨o,its,n,hk,hc,hs,hz,r⟩
 ·obtain ⟨z,its,r,p⟩:=h.ok I.hok
  exact ⟨its,r,p,z⟩
 ·refine ⟨its.toList,r,⟨o,I.kIn a o hk,hc,n,by simpa using hs⟩,?_⟩
  have e:=r.length
  simp only[Array.length_toList] at e
  omega
theorem Inv.list_inj (I:Inv X pins σ H s) (h:SqL X.K H a xs) (h':SqL X.K H a ys):xs=ys:=by
 obtain ⟨its,r,⟨o,n,e,_,_,d⟩,_⟩:=I.list h
 obtain ⟨its',r',⟨o',n',e',_,_,d'⟩,_⟩:=I.list h'
 rw[e] at e';cases e'
 rw[d] at d'
 injection d' with d1 _
 have:its=its':=by simpa using congrArg Array.toList d1
 subst this
 exact r.inj r'
theorem Inv.tuple_inj (I:Inv X pins σ H s) (h:SqT X.K H a xs) (h':SqT X.K H a ys):xs=ys:=by
 obtain ⟨its,r,⟨o,e,_,n,d⟩,_⟩:=I.tuple h
 obtain ⟨its',r',⟨o',e',_,n',d'⟩,_⟩:=I.tuple h'
 rw[e] at e';cases e'
 rw[d] at d'
 injection d' with d1 _
 have:its=its':=by simpa using congrArg Array.toList d1
 subst this
 exact r.inj r'
end
section
variable {X:Cx} {pins:List (Addr × Obj)} {σ:St} {H:Hp} {s:Shared} {E:Value->Shared->Prop}
end
section
variable {X:Cx} {st:Stmt} {Zdc:List Stmt} {t u:TS} {e:Expr} {te:TE} {pos:Pos}
noncomputable def tNext:TS:=fun D σ H=>D.nx σ H
noncomputable def Zs2 (t u:TS):TS:=fun D σ H=>t { D with nx:=u D } σ H
theorem Zlc:PSs X [] tNext:=fun _ _ σ H _ I h=>wpAny_execs_nil ⟨σ,H,I,h⟩
theorem Zjm (h1:PS X st t) (h2:PSs X Zdc u):PSs X (st :: Zdc) (Zs2 t u):=by
 intro pins s σ H D I h
 refine wpAny_execs_cons (thn (h1 pins s σ H { D with nx:=u D } I h) fun f s1 q=> ?_)
 cases f with
 |next=>
  obtain ⟨σ',H',I',q⟩:=q
  exact h2 pins s1 σ' H' D I' q
 |ret v=>exact q
 |brk=>exact q
 |cont=>exact q
theorem Zld (h1:PS X st t):PSs X [st] t:=by
 intro pins s σ H D I h
 refine wpAny_execs_cons (thn (h1 pins s σ H D I h) fun f s1 q=> ?_)
 cases f with
 |next=>exact wpAny_execs_nil q
 |ret v=>exact q
 |brk=>exact q
 |cont=>exact q
theorem Inv.quiet {pins:List (Addr × Obj)} {σ:St} {H:Hp} {s:Shared} (I:Inv X pins σ H s):interactive X.env=false:=by simp[interactive,I.ok.kind]
noncomputable def Zp2 (te:TE):TS:=fun D σ H=>te σ H fun _ H1=>D.nx σ H1
theorem Zle (he:PE X e te) (hs:swapsWith e none pos.line X.env=pure false:=by rfl):PS X (.Expr e pos) (Zp2 te):=by
 intro pins s σ H D I h
 exact wpAny_Expr_any (thn (he pins s σ H _ I h) fun v s1 ⟨x,H1,I1,r1,q1⟩=>⟨σ,H1,I1,q1⟩) I.quiet hs
noncomputable def Zs3 (te:TE):TS:=fun D σ H=>te σ H D.rt
theorem ZmX (he:PE X e te):PS X (.Return (some e) pos) (Zs3 te):=by
 intro pins s σ H D I h
 exact wpAny_Return_some (thn (he pins s σ H _ I h) fun v s1 ⟨x,H1,I1,r1,q1⟩=>⟨x,σ,H1,I1,r1,q1⟩)
noncomputable def Zs4 (c:TT) (t u:TS):TS:=fun D σ H=>c σ H fun b H1=>if b=true then t D σ H1 else u D σ H1
theorem Zp3 {c:Expr} {a b:List Stmt} {tc:TT} (hc:PT X c tc) (ha:PSs X a t) (hb:PSs X b u):PS X (.If c a b pos) (Zs4 tc t u):=by
 intro pins s σ H D I h
 refine wpAny_If (thn (hc pins s σ H _ I h) fun d s1 ⟨H1,I1,q1⟩=> ?_)
 cases d with
 |true=>exact ha pins s1 σ H1 D I1 q1
 |false=>exact hb pins s1 σ H1 D I1 q1
noncomputable def tNever:TS:=fun _ _ _=>False
theorem Zjn:PS X st tNever:=fun _ _ _ _ _ _ h=>h.elim
end
noncomputable abbrev TG:=V->St->Hp->(St->Hp->Prop)->Prop
noncomputable abbrev TGs:=List V->St->Hp->(St->Hp->Prop)->Prop
noncomputable def PG (X:Cx) (target:Expr) (t:TG):Prop:=
 ∀ (pins:List (Addr × Obj)) (s:Shared) (σ:St) (H:Hp) (v:V) (u:Value) (Q:St->Hp->Prop),Inv X pins σ H s->Zax v u->t v σ H Q->
  wpAny (model X.prog X.w) X.A (assign target X.env u) (fun _ s'=> ∃ σ' H',Inv X pins σ' H' s'/\Q σ' H') X.xe s
noncomputable def PGs (X:Cx) (ts:List Expr) (t:TGs):Prop:=
 ∀ (pins:List (Addr × Obj)) (s:Shared) (σ:St) (H:Hp) (vs:List V) (us:List Value) (Q:St->Hp->Prop),Inv X pins σ H s->Zam vs us->t vs σ H Q->
  wpAny (model X.prog X.w) X.A (assignInOrder ((assignEach ts X.env).map (·.2)) us) (fun _ s'=> ∃ σ' H',Inv X pins σ' H' s'/\Q σ' H') X.xe s
section
variable {X:Cx} {pos:Pos}
noncomputable def ZmY (i:Nat):TG:=fun v σ H Q=>Q (σ.set i (some v)) H
theorem Zlf {i:Nat} {x:Str} (hN:X.N.Nodup) (hi:X.N[i]?=some x) (hx:Loc X.env.scope x) (hm:X.may i=true) (hf:X.fn x=true\/X.env.scope.names.lookup x=some .local:=by first | exact .inl rfl | exact .inr rfl | assumption):PG X (.Name x pos) (ZmY i):=by
 intro pins s σ H v u Q I r h
 exact wpAny_assign_Name (ZdB I hN hi hx hm r (fun s' I'=>⟨_,H,I',h⟩) hf)
noncomputable def gNil:TGs:=fun vs σ H Q=>vs=[]/\Q σ H
noncomputable def Zp4 (t:TG) (u:TGs):TGs:=fun vs σ H Q=> ∃ v r,vs=v :: r/\t v σ H fun σ' H'=>u r σ' H' Q
theorem Zlg:PGs X [] gNil:=by
 intro pins s σ H vs us Q I r h
 obtain ⟨e,h⟩:=h
 subst e
 cases r
 exact assignInOrder_nil ⟨σ,H,I,h⟩
theorem Zjo {e:Expr} {es:List Expr} {t:TG} {u:TGs} (h1:PG X e t) (h2:PGs X es u)
  (hs:(assignEach (e :: es) X.env).map (·.2)=assign e X.env :: (assignEach es X.env).map (·.2):=by rfl):PGs X (e :: es) (Zp4 t u):=by
 intro pins s σ H vs us Q I r h
 obtain ⟨v,vr,e1,h⟩:=h
 subst e1
 cases r with
 |cons r rr=>
  rw[hs]
  refine assignInOrder_cons (thn (h1 pins s σ H _ _ _ I r h) fun _ s1 ⟨σ1,H1,I1,q1⟩=> ?_)
  exact h2 pins s1 σ1 H1 _ _ Q I1 rr q1
noncomputable def Zs5 (K:PySem.W.Frag) (n:Nat) (t:TGs):TG:=fun v σ H Q=> ∃ a xs,v= .ref a/\SqT K H a xs/\xs.length=n/\t xs σ H Q
theorem ZmZ {es:List Expr} {k:Nat} {t:TGs} {n:Nat} (hc:X.calm=true) (h:PGs X es t)
  (hn:(assignEach es X.env).length=n:=by rfl) (hst:(assignEach es X.env).findIdx? (·.1)=none:=by rfl):PG X (.Tuple es k pos) (Zs5 X.K n t):=by
 intro pins s σ H v u Q I r hw
 obtain ⟨a,xs,e1,hq,hl,hw⟩:=hw
 subst e1
 cases r
 obtain ⟨its,rv,ht,hz⟩:=I.tuple hq
 refine assign_Tuple_tuple (I.ok.hd hc) ht (by simp[hn,<- hl,rv.length]) hst fun h' hx=> ?_
 have I1:Inv X pins σ H { s with heap:=h' }:=I.kept (t':=s.toks) fun b o e=>hx b o (Nat.ne_of_lt (Heap.lt_size e)) e
 exact h pins _ σ H xs _ Q I1 (by simpa using rv) hw
noncomputable def ZrV (te:TE) (g:TG):TS:=fun D σ H=>te σ H fun x H1=>g x σ H1 D.nx
theorem Zm0 {tg e:Expr} {te:TE} {g:TG} (he:PE X e te) (hg:PG X tg g) (hs:swapsWithSole [tg] e pos.line X.env=pure false:=by rfl) (hw:swappedStores [tg] e X.env=pure none:=by rfl)
  (h1:(assignEach [tg] X.env).map (·.2)=[assign tg X.env]:=by rfl):PS X (.Assign [tg] e pos) (ZrV te g):=by
 intro pins s σ H D I h
 refine wpAny_Assign_stores (thn (he pins s σ H _ I h) fun v s1 ⟨x,H1,I1,r1,q1⟩=> ?_) hs hw
 rw[h1]
 exact thn (hg pins s1 σ H1 x v _ I1 r1 q1) fun _ s2 q=>q
theorem Zm1 {i:Nat} {x:Str} {e:Expr} {te:TE} {pos':Pos} (hN:X.N.Nodup) (hi:X.N[i]?=some x) (hx:Loc X.env.scope x) (hm:X.may i=true) (he:PE X e te) (hs:swapsWith e (some (.Name x pos')) pos.line X.env=pure false:=by rfl) (hf:X.fn x=true\/X.env.scope.names.lookup x=some .local:=by first | exact .inl rfl | exact .inr rfl | assumption):
  PS X (.Assign [.Name x pos'] e pos) (ZrV te (ZmY i)):=by
 intro pins s σ H D I h
 refine wpAny_Assign_Name (thn (he pins s σ H _ I h) fun v s1 ⟨y,H1,I1,r1,q1⟩=> ?_) hs
 exact ZdB I1 hN hi hx hm r1 (fun s2 I2=>⟨_,H1,I2,q1⟩) hf
noncomputable def Zs6 (i j:Nat) (ta:TA):TS:=fun D σ H=>ta σ H fun vs H1=> ∃ v w,vs=[v,w]/\D.nx ((σ.set i (some v)).set j (some w)) H1
theorem Zm2 {i j:Nat} {x y:Str} {a b:Expr} {ta:TA} {px py pt:Pos} {kt k2 pt2} (hc:X.calm=true) (mi:X.may i=true) (mj:X.may j=true) (hN:X.N.Nodup) (hi:X.N[i]?=some x) (hj:X.N[j]?=some y) (hij:i≠j)
  (hx:X.env.scope.names.lookup x=some .local) (hy:X.env.scope.names.lookup y=some .local) (ha:PA X [a,b] ta)
  (hw:swappedStores [.Tuple [.Name x px,.Name y py] kt pt] (.Tuple [a,b] k2 pt2) X.env=pure (some [x,y]))
  (hs:swapsWithSole [.Tuple [.Name x px,.Name y py] kt pt] (.Tuple [a,b] k2 pt2) pos.line X.env=pure false:=by rfl):
  PS X (.Assign [.Tuple [.Name x px,.Name y py] kt pt] (.Tuple [a,b] k2 pt2) pos) (Zs6 i j ta):=by
 intro pins s σ H D I h
 rw[exec_Assign_arm]
 refine wpAny_bind (wpAny_standAt ?_)
 rw[hs]
 refine wpAny_bind (wpAny_pure ?_)
 rw[if_neg (by decide)]
 refine wpAny_bind (Tuple_ (thn (ha _ pins s σ H _ I h) fun us s1 ⟨vs,H1,I1,r1,q1⟩=> ?_))
 obtain ⟨v,w,e1,q1⟩:=q1
 subst e1
 obtain ⟨u1,u2,rfl,rv,rw'⟩: ∃ u1 u2,us=[u1,u2]/\Zax v u1/\Zax w u2:=by
  cases r1 with
  |cons p q=>
   cases q with
   |cons p' q'=>
    cases q'
    exact ⟨_,_,rfl,p,p'⟩
 refine wpAny_newObj_type ?_ (by show 2<=sizeLine;decide)
 have I2:Inv X pins σ H1 { s1 with heap:=s1.heap.push { cls:= .type "tuple",data:= .seq [u1,u2].toArray } }:=I1.kept (t':=s1.toks) fun b o e=>Heap.get?_push_of_some _ e
 rw[hw]
 refine wpAny_bind (wpAny_pure ?_)
 show wpAny (model X.prog X.w) X.A (do rule "assign.swapped-stores";let items <- unpackItems (.ref s1.heap.objs.size) 2 none;assignInOrder [fun v=>bindName X.env y v,fun v=>bindName X.env x v] items.reverse;pure Flow.next) _ _ _
 refine wpAny_bind (wpAny_rule (wpAny_bind (unpackItems_tuple (items:= #[u1,u2]) (I.ok.hd hc) (IsTup.new s1.heap _) fun h' hx'=> ?_)))
 have I3:=I2.kept (h':=h') (t':=s1.toks) fun b o e=>hx' b o (Nat.ne_of_lt (Heap.lt_size e)) e
 show wpAny _ _ (assignInOrder [fun v=>bindName X.env y v,fun v=>bindName X.env x v] [u2,u1] >>= fun _=>pure Flow.next) _ _ _
 refine wpAny_bind (assignInOrder_cons (wpAny_bindName (ZdB I3 hN hj (.inl hy) mj rw' (fun s2 I4=> ?_) (.inr hy))))
 refine assignInOrder_cons (wpAny_bindName (ZdB I4 hN hi (.inl hx) mi rv (fun s3 I5=>assignInOrder_nil (wpAny_pure ?_)) (.inr hx)))
 rw[List.set_comm _ _ (Ne.symm hij)] at I5
 exact ⟨_,H1,I5,q1⟩
end
section
variable {X:Cx} {pos:Pos}
noncomputable def Zm3 (c:TT) (tb:TS):TS:=fun D σ H=> ∃ W:Nat->St->Hp->Prop,(∃ m,W m σ H)/\ ∀ m σ H,W m σ H->
 c σ H fun b H1=>if b=true then ∃ N:St->Hp->Prop,(∀ σ' H',N σ' H'-> ∃ m',m' < m/\W m' σ' H')/\tb { D with nx:=N,ct:=N,bk:=D.nx } σ H1 else D.nx σ H1
theorem Zjp {c:Expr} {body:List Stmt} {tc:TT} {tb:TS} (hp:PassesOwn (model X.prog X.w) X.A X.env X.xe) (hc:PT X c tc) (hb:PSs X body tb):PS X (.While c body [] pos) (Zm3 tc tb):=by
 intro pins s σ H D I h
 obtain ⟨W,⟨m0,w0⟩,turn⟩:=h
 refine wpAny_While (codeAny_whileLoop (fun n s'=> ∃ σ' H',Inv X pins σ' H' s'/\W n σ' H') ?_ m0 ⟨σ,H,I,w0⟩)
 rintro n s1 ⟨σ1,H1,I1,w1⟩
 refine wpAny_passesOwn hp (thn (hc pins s1 σ1 H1 _ I1 (turn n σ1 H1 w1)) fun b s2 ⟨H2,I2,q2⟩=> ?_)
 cases b with
 |true=>
  obtain ⟨N,hN,q2⟩:=q2
  rw[if_pos rfl]
  refine wpAny_passesOwn hp (thn (hb pins s2 σ1 H2 _ I2 q2) fun f s3 q3=> ?_)
  cases f with
  |next=>
   obtain ⟨σ3,H3,I3,n3⟩:=q3
   obtain ⟨m',hm,w3⟩:=hN σ3 H3 n3
   exact ⟨m',hm,σ3,H3,I3,w3⟩
  |cont=>
   obtain ⟨σ3,H3,I3,n3⟩:=q3
   obtain ⟨m',hm,w3⟩:=hN σ3 H3 n3
   exact ⟨m',hm,σ3,H3,I3,w3⟩
  |brk=>exact q3
  |ret v=>exact q3
 |false=>
  rw[if_neg Bool.false_ne_true]
  exact wpAny_execs_nil ⟨σ1,H2,I2,q2⟩
end
structure It where
 go:Nat->Hp->Prop
 yld:Nat->Hp->V->Hp->Prop
 stop:Nat->Hp->Prop
noncomputable def Ze6 (X:Cx) (pins:List (Addr × Obj)) (H:Hp) (b:Addr):Prop:=
 H b=none/\b≠X.env.locals/\b ∉ X.fs/\(b∈X.ex\/X.s₀.heap.objs.size<=b)/\(∀ x c,X.env.cells.lookup x=some c->c≠b)/\ ∀ p∈X.pn ++ pins,p.1≠b
theorem Inv.fpOk {X:Cx} {pins:List (Addr × Obj)} {σ:St} {H H':Hp} {s:Shared} {b:Addr} (I:Inv X pins σ H s) (hb:s.heap.objs.size<=b) (hn:H' b=none):Ze6 X pins H' b:=by
 refine ⟨hn,Nat.ne_of_gt (Nat.lt_of_lt_of_le I.lt hb),I.nofs hb,.inr (Nat.le_trans I.sz hb),fun x c e z=> ?_,fun p hp z=> ?_⟩
 ·obtain ⟨v,q⟩:=I.cell x c e
  exact absurd (Nat.lt_of_lt_of_le q.lt (by rw[z];exact hb)) (Nat.lt_irrefl _)
 ·exact absurd (Nat.lt_of_lt_of_le (Heap.lt_size (I.pin p hp).1) (by rw[z];exact hb)) (Nat.lt_irrefl _)
structure Turn (P:Program) (w:World) (K:PySem.W.Frag) (B:Around) (tg:Expr) (J:It) (fp:List Addr) (it:Addr) (tn:Nat->Heap->Prop):Prop where
 mem:it∈fp
 obj: ∀ i h,tn i h-> ∀ b∈fp,∃ o,h.get? b=some o/\ ∀ v,o.data≠ .cell v
 keep: ∀ i h h',tn i h->(∀ b∈fp,∀ o,h.get? b=some o->h'.get? b=some o)->tn i h'
 item: ∀ (X:Cx),X.prog=P->X.w=w->X.K=K->X.A=B-> ∀ (i:Nat) (pins:List (Addr × Obj)) (s:Shared) (σ:St) (H:Hp) (E:Value->Shared->Prop),Inv X pins σ H s->(∀ b∈fp,Ze6 X pins H b)->tn i s.heap->J.go i H->
  wpAny (model P w) X.A (pyNext (.ref it)) (fun r s1=> ∃ u,r=some u/\
   wpAny (model P w) X.A (letOwnedTupleGo tg (.ref it) u) (fun _ s2=> ∃ x H',Inv X pins σ H' s2/\Zax x u/\J.yld i H x H'/\tn (i + 1) s2.heap/\ ∀ b∈fp,H' b=none) E s1) E s
 done: ∀ (X:Cx),X.prog=P->X.w=w->X.K=K->X.A=B-> ∀ (i:Nat) (pins:List (Addr × Obj)) (s:Shared) (σ:St) (H:Hp) (E:Value->Shared->Prop),Inv X pins σ H s->(∀ b∈fp,Ze6 X pins H b)->tn i s.heap->J.stop i H->
  wpAny (model P w) X.A (pyNext (.ref it)) (fun r s1=>r=none/\Inv X pins σ H s1) E s
 self: ∀ (A:Around) (i:Nat) (s:Shared) (Q:Value->Shared->Prop) (E:Value->Shared->Prop),tn i s.heap->Q (.ref it) s->wpAny (model P w) A (pyIter (.ref it)) Q E s
noncomputable abbrev TI:=St->Hp->(It->Hp->Prop)->Prop
noncomputable def PIE (X:Cx) (pins:List (Addr × Obj)) (σ:St) (tg:Expr) (R:It->Hp->Prop) (itv:Value) (s2:Shared):Prop:=
 ∃ (it:Addr) (fp:List Addr) (tn:Nat->Heap->Prop) (J:It) (H':Hp),itv= .ref it/\Inv X pins σ H' s2/\Turn X.prog X.w X.K X.A tg J fp it tn/\tn 0 s2.heap/\(∀ b∈fp,Ze6 X pins H' b)/\R J H'
noncomputable def PI (X:Cx) (tg iter:Expr) (wi:TI):Prop:=
 ∀ (pins:List (Addr × Obj)) (s:Shared) (σ:St) (H:Hp) (R:It->Hp->Prop),Inv X pins σ H s->wi σ H R->
  wpAny (model X.prog X.w) X.A (eval iter X.env) (fun v s1=>wpAny (model X.prog X.w) X.A (pyIter v) (PIE X pins σ tg R) X.xe s1) X.xe s
theorem Zjq {M:Model} {A:Around} {E:Value->Shared->Prop} {s:Shared} {tg:Expr} {it:Addr} {u:Value} {o:Obj} {n:String} {vs:Array Value} {Q:Unit->Shared->Prop} (ho:s.heap.get? it=some o) (hc:o.cls= .type n) (hd:o.data= .fields vs)
  (hn:["enumerate","zip","dict_itemiterator","dict_reverseitemiterator","odict_iterator","itertools.zip_longest","itertools.pairwise"].contains n=false) (hQ:Q () s):wpAny M A (letOwnedTupleGo tg (.ref it) u) Q E s:=by
 unfold letOwnedTupleGo
 cases tg<;>first
  |exact wpAny_pure hQ
  | (cases u<;>first
    |exact wpAny_pure hQ
    | (refine wpAny_bind (wpAny_load ho ?_)
       rw[hc,hd]
       show wpAny M A (if (["enumerate","zip","dict_itemiterator","dict_reverseitemiterator","odict_iterator","itertools.zip_longest","itertools.pairwise"].contains n && vs[0]? == some (rawInt _))=true then _ else _) Q E s
       rw[if_neg (by intro h;rw[hn,Bool.false_and] at h;cases h)]
       exact wpAny_pure hQ))
noncomputable def Itl (K:PySem.W.Frag) (a:Addr):It:=
 ⟨fun i H=> ∃ xs x,SqL K H a xs/\xs[i]?=some x,fun i H x H'=>H'=H/\ ∀ xs,SqL K H a xs->xs[i]?=some x,fun i H=> ∃ xs,SqL K H a xs/\xs.length<=i⟩
noncomputable def Itt (K:PySem.W.Frag) (a:Addr):It:=
 ⟨fun i H=> ∃ xs x,SqT K H a xs/\xs[i]?=some x,fun i H x H'=>H'=H/\ ∀ xs,SqT K H a xs->xs[i]?=some x,fun i H=> ∃ xs,SqT K H a xs/\xs.length<=i⟩
noncomputable def Itr (lo:Int) (n:Nat):It:=⟨fun i _=>i < n,fun i H x H'=>H'=H/\x= .int (lo + i),fun i _=>n<=i⟩
theorem ZhG {P:Program} {w:World} {K:PySem.W.Frag} {B:Around} {tg:Expr} (a it:Addr):Turn P w K B tg (Itl K a) [it] it (fun i h=>h.IsListIter it a i) where
 mem:=by simp
 obj:=fun i h st b hb=>by
  have e:b=it:=by simpa using hb
  subst e
  obtain ⟨o,e,c,d⟩:=st
  exact ⟨o,e,fun v z=>by rw[d] at z;cases z⟩
 keep:=fun i h h' st k=>st.at fun o e=>k it (by simp) o e
 item:=by
  intro X hP hw hK hB i pins s σ H E I hf st hg
  subst hP hw hK
  obtain ⟨xs,x,hq,hx⟩:=hg
  obtain ⟨its,rv,p,hz⟩:=I.list hq
  obtain ⟨u,hu,ru⟩:=rv.get hx
  obtain ⟨f0,f1,f2,f3,f4,f5⟩:=hf it (by simp)
  refine wpAny_pyNext_list_item st p.isList (x:=u) (by simpa using hu) fun h' st' sb=> ?_
  have I1:Inv X pins σ H { s with heap:=h' }:=I.turned (t':=s.toks) (fun b o hb e=>(sb.2 b hb).trans e) f0 f1 f3 f4 f5
  obtain ⟨o,e,c,d⟩:=id st'
  exact ⟨u,rfl,Zjq (s:={ s with heap:=h' }) e c d (by decide) ⟨x,H,I1,ru,⟨rfl,fun ys hy=>by rw[I.list_inj hy hq];exact hx⟩,st',fun b hb=>(hf b hb).1⟩⟩
 done:=by
  intro X hP hw hK hB i pins s σ H E I hf st hg
  subst hP hw hK
  obtain ⟨xs,hq,hx⟩:=hg
  obtain ⟨its,rv,p,hz⟩:=I.list hq
  obtain ⟨f0,f1,f2,f3,f4,f5⟩:=hf it (by simp)
  have hl:=rv.length
  exact DQ.Zjk I.qh st p.isList (by simp;omega) fun h' eb=>⟨rfl,I.turned (t':=s.toks) (fun b o hb e=>eb b o hb e) f0 f1 f3 f4 f5⟩
 self:=fun _ _ _ _ _ st h=>wpAny_pyIter_listiter st h
theorem ZgX {P:Program} {w:World} {K:PySem.W.Frag} {B:Around} {tg:Expr} (a it:Addr):Turn P w K B tg (Itt K a) [it] it (fun i h=>h.IsTupleIter it a i) where
 mem:=by simp
 obj:=fun i h st b hb=>by
  have e:b=it:=by simpa using hb
  subst e
  obtain ⟨o,e,c,d⟩:=st
  exact ⟨o,e,fun v z=>by rw[d] at z;cases z⟩
 keep:=fun i h h' st k=>st.at fun o e=>k it (by simp) o e
 item:=by
  intro X hP hw hK hB i pins s σ H E I hf st hg
  subst hP hw hK
  obtain ⟨xs,x,hq,hx⟩:=hg
  obtain ⟨its,rv,p,hz⟩:=I.tuple hq
  obtain ⟨u,hu,ru⟩:=rv.get hx
  obtain ⟨f0,f1,f2,f3,f4,f5⟩:=hf it (by simp)
  refine wpAny_pyNext_tuple_item st (show s.heap.IsTuple a its.toArray from p) (x:=u) (by simpa using hu) fun h' st' sb=> ?_
  have I1:Inv X pins σ H { s with heap:=h' }:=I.turned (t':=s.toks) (fun b o hb e=>(sb.2 b hb).trans e) f0 f1 f3 f4 f5
  obtain ⟨o,e,c,d⟩:=id st'
  exact ⟨u,rfl,Zjq (s:={ s with heap:=h' }) e c d (by decide) ⟨x,H,I1,ru,⟨rfl,fun ys hy=>by rw[I.tuple_inj hy hq];exact hx⟩,st',fun b hb=>(hf b hb).1⟩⟩
 done:=by
  intro X hP hw hK hB i pins s σ H E I hf st hg
  subst hP hw hK
  obtain ⟨xs,hq,hx⟩:=hg
  obtain ⟨its,rv,p,hz⟩:=I.tuple hq
  obtain ⟨f0,f1,f2,f3,f4,f5⟩:=hf it (by simp)
  have hl:=rv.length
  exact DQ.ZhB I.qh st (show s.heap.IsTuple a its.toArray from p) (by simp;omega) fun h' eb=>⟨rfl,I.turned (t':=s.toks) (fun b o hb e=>eb b o hb e) f0 f1 f3 f4 f5⟩
 self:=fun _ _ _ _ _ st h=>wpAny_pyIter_tupleiter st h
theorem ZgY {P:Program} {w:World} {K:PySem.W.Frag} {B:Around} {tg:Expr} (it:Addr) (lo:Int) (n:Nat):Turn P w K B tg (Itr lo n) [it] it (fun i h=>IsRangeIter h it (lo + (i:Nat) * 1) ((n:Int) - (i:Nat)) 1) where
 mem:=by simp
 obj:=fun i h st b hb=>by
  have e:b=it:=by simpa using hb
  subst e
  exact ⟨_,st,fun v z=>by
   have z':Data.fields _=Data.cell v:=z
   cases z'⟩
 keep:=fun i h h' st k=>k it (by simp) _ st
 item:=by
  intro X hP hw hK hB i pins s σ H E I hf st hg
  subst hP hw hK
  obtain ⟨f0,f1,f2,f3,f4,f5⟩:=hf it (by simp)
  have hlt:i < n:=hg
  refine wpAny_pyNext_range_item st (by omega) fun h' st' sb=> ?_
  have I1:Inv X pins σ H { s with heap:=h',toks:=s.toks + 1 }:=I.turned (fun b o hb e=>(sb.2 b hb).trans e) f0 f1 f3 f4 f5
  have st2:IsRangeIter h' it (lo + ((i + 1:Nat):Int) * 1) ((n:Int) - ((i + 1:Nat):Int)) 1:=by
   have e1:lo + ((i + 1:Nat):Int) * 1=lo + (i:Nat) * 1 + 1:=by omega
   have e2:(n:Int) - ((i + 1:Nat):Int)=(n:Int) - (i:Nat) - 1:=by omega
   rw[e1,e2]
   exact st'
  refine ⟨_,rfl,Zjq (s:={ s with heap:=h',toks:=s.toks + 1 }) (n:="range_iterator") st2 rfl rfl (by decide) ⟨.int (lo + i),H,I1,⟨s.toks,?_⟩,⟨rfl,rfl⟩,st2,fun b hb=>(hf b hb).1⟩⟩
  rw[Int.mul_one]
 done:=by
  intro X hP hw hK hB i pins s σ H E I hf st hg
  subst hP hw hK
  obtain ⟨f0,f1,f2,f3,f4,f5⟩:=hf it (by simp)
  exact DQ.Ze4 I.qh st (by have:n<=i:=hg;omega) fun h' eb=>⟨rfl,I.turned (t':=s.toks) (fun b o hb e=>eb b o hb e) f0 f1 f3 f4 f5⟩
 self:=fun _ _ _ _ _ st h=>wpAny_pyIter_rangeiter st h
end L2
namespace L2
open PySem PySem.Spec PyProof.Rows
section
variable {X:Cx} {tg:Expr}
theorem Zjr {pins:List (Addr × Obj)} {σ:St} {H:Hp} {s:Shared} {R:It->Hp->Prop} {E:Value->Shared->Prop} {lo hi:Int} {t u v:Tok} {tk:Nat} (I:Inv X pins σ H s) (h1: -(2 ^ 62)<=lo) (h2:lo < 2 ^ 62) (h3: -(2 ^ 62)<=hi) (h4:hi < 2 ^ 62)
  (q:R (Itr lo (hi - lo).toNat) H):wpAny (model X.prog X.w) X.A (pyIter (.ref s.heap.objs.size)) (PIE X pins σ tg R) E { s with heap:=s.heap.push { cls:= .type "range",data:= .fields #[.int lo t,.int hi u,.int 1 v] },toks:=tk }:=by
 refine wpAny_pyIter_range (IsRange.new ..) (small_one h1 h2 h3 h4) ?_
 have I1:Inv X pins σ H { s with heap:=s.heap.push { cls:= .type "range",data:= .fields #[.int lo t,.int hi u,.int 1 v] },toks:=tk }:=I.kept fun b o e=>Heap.get?_push_of_some _ e
 refine ⟨(s.heap.push { cls:= .type "range",data:= .fields #[.int lo t,.int hi u,.int 1 v] }).objs.size,[(s.heap.push { cls:= .type "range",data:= .fields #[.int lo t,.int hi u,.int 1 v] }).objs.size],_,_,H,rfl,
  I1.kept (t':=tk) fun b o e=>Heap.get?_push_of_some _ e,ZgY _ lo (hi - lo).toNat,?_,fun b hb=> ?_,q⟩
 ·have e1:lo + ((0:Nat):Int) * 1=lo:=by simp
  have e2:(((hi - lo).toNat:Nat):Int) - ((0:Nat):Int)=Builtin.Range.rangeSize lo hi 1:=by rw[rangeSize_one];split<;>omega
  show IsRangeIter _ _ (lo + ((0:Nat):Int) * 1) ((((hi - lo).toNat:Nat):Int) - ((0:Nat):Int)) 1
  rw[e1,e2]
  exact Heap.get?_push_size _ rfl
 ·have e:b=(s.heap.push { cls:= .type "range",data:= .fields #[.int lo t,.int hi u,.int 1 v] }).objs.size:=by simpa using hb
  subst e
  exact I1.fpOk (Nat.le_refl _) (I1.hok.fresh (Nat.le_refl _))
noncomputable def Zp5 (ta:TA):TI:=fun σ H R=>ta σ H fun vs H1=> ∃ j:Int,vs=[.int j]/\ -(2 ^ 62)<=j/\j < 2 ^ 62/\R (Itr 0 j.toNat) H1
theorem Ze7 {a:Expr} {ta:TA} {p pos:Pos} (hg:Gl X "range") (hm:X.mg "range"=none) (ha:PA X [a] ta) (hs:starEach [a] X.env=[(false,eval a X.env)]:=by rfl):PI X tg (.Call (.Name "range" p) [a] [] pos) (Zp5 ta):=by
 intro pins s σ H R I h
 refine Call_ (ZcE I hg hm boot_range (PyProof.Rows.callWith_type1 (thn (ha pos pins s σ H _ I h) fun us s1 ⟨vs,H1,I1,r1,q1⟩=> ?_) hs rfl))
 obtain ⟨j,e,q1,q2,q⟩:=q1
 subst e
 cases r1 with
 |cons r rr=>
  cases rr
  obtain ⟨t,rfl⟩:=r
  exact call_range_1 (Zjr I1 (by omega) (by omega) q1 q2 (by simpa using q))
noncomputable def Zs7 (wi:TI) (g:TG) (tb:TS):TS:=fun D σ H=>wi σ H fun J H1=> ∃ W:Nat->Nat->St->Hp->Prop,(∃ m,W 0 m σ H1)/\ ∀ i m σ H,W i m σ H->
 (J.stop i H/\D.nx σ H)\/(J.go i H/\ ∃ N:St->Hp->Prop,(∀ σ' H',N σ' H'-> ∃ m',m' < m/\W (i + 1) m' σ' H')/\ ∀ x H',J.yld i H x H'->g x σ H' fun σ2 H2=>tb { D with nx:=N,ct:=N,bk:=D.nx } σ2 H2)
noncomputable def Zef (fp:List Addr) (h:Heap):List (Addr × Obj):=fp.filterMap fun b=>(h.get? b).map fun o=>(b,o)
theorem Zcf {fp:List Addr} {h:Heap} {b:Addr} {o:Obj} (hb:b∈fp) (e:h.get? b=some o):(b,o)∈Zef fp h:=List.mem_filterMap.mpr ⟨b,hb,by rw[e];rfl⟩
theorem ZhH {fp:List Addr} {h:Heap} {p:Addr × Obj} (hp:p∈Zef fp h):p.1∈fp/\h.get? p.1=some p.2:=by
 obtain ⟨b,hb,e⟩:=List.mem_filterMap.mp hp
 cases q:h.get? b with
 |none=>rw[q] at e;cases e
 |some o=>
  rw[q] at e
  have e':(b,o)=p:=Option.some.inj e
  subst e'
  exact ⟨hb,q⟩
theorem Inv.pinned {pins:List (Addr × Obj)} {σ:St} {H:Hp} {s:Shared} {fp:List Addr} (I:Inv X pins σ H s) (hf: ∀ b∈fp,Ze6 X pins H b) (ho: ∀ b∈fp,∃ o,s.heap.get? b=some o/\ ∀ v,o.data≠ .cell v):Inv X (pins ++ Zef fp s.heap) σ H s:=
 I.pins_of fun p hp=>(List.mem_append.mp hp).elim (fun z=>I.pin p (List.mem_append_right _ z)) fun z=>by
  obtain ⟨hb,e⟩:=ZhH z
  obtain ⟨f0,f1,f2,_⟩:=hf p.1 hb
  obtain ⟨o,e',d⟩:=ho p.1 hb
  rw[e] at e';cases e'
  exact ⟨e,f0,f1,f2,d⟩
theorem Inv.unpinned {pins pl:List (Addr × Obj)} {σ:St} {H:Hp} {s:Shared} (I:Inv X (pins ++ pl) σ H s):Inv X pins σ H s:=I.pins_of fun p hp=>I.pin p (List.mem_append_right _ (List.mem_append_left _ hp))
theorem ZhI {iter:Expr} {body:List Stmt} {wi:TI} {g:TG} {tb:TS} {pos:Pos} (hp:PassesOwn (model X.prog X.w) X.A X.env X.xe) (hi:PI X tg iter wi) (hg:PG X tg g) (hb:PSs X body tb)
  (hs: ∀ x,foldedSetIterable iter X.env x=pure x:=by intro _;rfl):PS X (.For tg iter body [] pos) (Zs7 wi g tb):=by
 intro pins s σ H D I h
 refine wpAny_For (thn (hi pins s σ H _ I h) fun v s1 h1=>thn h1 fun itv s2 h2=> ?_) hs
 obtain ⟨it,fp,tn,J,H2,e,I2,T,st2,f2,W,⟨m0,w0⟩,turn⟩:=h2
 subst e
 have stat: ∀ {H':Hp},(∀ b∈fp,H' b=none)-> ∀ b∈fp,Ze6 X pins H' b:=fun hn b hb=>⟨hn b hb,(f2 b hb).2⟩
 refine codeAny_forLoop_any (fun n s'=> ∃ i σ' H',Inv X pins σ' H' s'/\tn i s'.heap/\(∀ b∈fp,H' b=none)/\W i n σ' H') ?_ m0 ⟨0,σ,H2,I2,st2,fun b hb=>(f2 b hb).1,w0⟩
 rintro n s3 ⟨i,σ3,H3,I3,st3,fr3,w3⟩
 rcases turn i n σ3 H3 w3 with ⟨stop,qn⟩ | ⟨go,N,hN,step⟩
 ·refine wpAny_passesOwn hp (thn (T.done X rfl rfl rfl rfl i pins s3 σ3 H3 X.xe I3 (stat fr3) st3 stop) fun r s4 ⟨hr,I4⟩=> ?_)
  subst hr
  exact wpAny_execs_nil ⟨σ3,H3,I4,qn⟩
 ·refine wpAny_passesOwn hp (thn (T.item X rfl rfl rfl rfl i pins s3 σ3 H3 X.xe I3 (stat fr3) st3 go) fun r s4 ⟨u,hr,h4⟩=> ?_)
  subst hr
  refine wpAny_passesOwn hp (thn h4 fun _ s5 ⟨x,H5,I5,r5,y5,st5,fr5⟩=> ?_)
  have I5':=I5.pinned (stat fr5) (T.obj _ _ st5)
  refine wpAny_passesOwn hp (thn (hg _ s5 σ3 H5 x u _ I5' r5 (step x H5 y5)) fun _ s6 ⟨σ6,H6,I6,q6⟩=> ?_)
  refine wpAny_passesOwn hp (thn (hb _ s6 σ6 H6 _ I6 q6) fun f s7 q7=> ?_)
  have again: ∀ {σ7:St} {H7:Hp},Inv X (pins ++ Zef fp s5.heap) σ7 H7 s7->N σ7 H7-> ∃ m,m < n/\ ∃ i σ' H',Inv X pins σ' H' s7/\tn i s7.heap/\(∀ b∈fp,H' b=none)/\W i m σ' H':=fun {σ7 H7} I7 n7=>by
   obtain ⟨m',hm,w7⟩:=hN σ7 H7 n7
   refine ⟨m',hm,i + 1,σ7,H7,I7.unpinned,T.keep _ _ _ st5 fun b hb o e=>(I7.pin (b,o) (List.mem_append_right _ (List.mem_append_right _ (Zcf hb e)))).1,fun b hb=> ?_,w7⟩
   obtain ⟨o,e,d⟩:=T.obj _ _ st5 b hb
   exact (I7.pin (b,o) (List.mem_append_right _ (List.mem_append_right _ (Zcf hb e)))).2.1
  cases f with
  |next=>obtain ⟨σ7,H7,I7,n7⟩:=q7;exact again I7 n7
  |cont=>obtain ⟨σ7,H7,I7,n7⟩:=q7;exact again I7 n7
  |brk=>obtain ⟨σ7,H7,I7,q7⟩:=q7;exact ⟨σ7,H7,I7.unpinned,q7⟩
  |ret v=>obtain ⟨x7,σ7,H7,I7,r7,q7⟩:=q7;exact ⟨x7,σ7,H7,I7.unpinned,r7,q7⟩
end
theorem Zjs {K:PySem.W.Frag} {a:Addr} {xs:List V} {g:TG} {tb:TS} {D:Ends} {σ:St} {H:Hp} (Pv:Nat->St->Hp->Prop) (h0:Pv 0 σ H) (hl: ∀ i σ H,i<=xs.length->Pv i σ H->SqL K H a xs)
  (hs: ∀ i x σ H,xs[i]?=some x->Pv i σ H->g x σ H fun σ2 H2=>tb { D with nx:=Pv (i + 1),ct:=Pv (i + 1),bk:=D.nx } σ2 H2) (hd: ∀ σ H,Pv xs.length σ H->D.nx σ H):
  ∃ W:Nat->Nat->St->Hp->Prop,(∃ m,W 0 m σ H)/\ ∀ i m σ H,W i m σ H->
   ((Itl K a).stop i H/\D.nx σ H)\/((Itl K a).go i H/\ ∃ N:St->Hp->Prop,(∀ σ' H',N σ' H'-> ∃ m',m' < m/\W (i + 1) m' σ' H')/\ ∀ x H',(Itl K a).yld i H x H'->g x σ H' fun σ2 H2=>tb { D with nx:=N,ct:=N,bk:=D.nx } σ2 H2):=by
 refine ⟨fun i m σ H=>m=xs.length - i/\i<=xs.length/\Pv i σ H,⟨xs.length,by simp,Nat.zero_le _,h0⟩,?_⟩
 rintro i m σ H ⟨rfl,hi,p⟩
 have q:=hl i σ H hi p
 by_cases hlt:i < xs.length
 ·refine .inr ⟨⟨xs,xs[i],q,by simp[hlt]⟩,Pv (i + 1),fun σ' H' p'=>⟨xs.length - (i + 1),by omega,rfl,hlt,p'⟩,fun x H' y=> ?_⟩
  obtain ⟨e,y⟩:=y
  subst e
  exact hs i x σ _ (y xs q) p
 ·have e:i=xs.length:=by omega
  subst e
  exact .inl ⟨⟨xs,q,Nat.le_refl _⟩,hd σ H p⟩
theorem Zlh {K:PySem.W.Frag} {a:Addr} {xs:List V} {g:TG} {tb:TS} {D:Ends} {σ:St} {H:Hp} (Pv:Nat->St->Hp->Prop) (h0:Pv 0 σ H) (hl: ∀ i σ H,i<=xs.length->Pv i σ H->SqT K H a xs)
  (hs: ∀ i x σ H,xs[i]?=some x->Pv i σ H->g x σ H fun σ2 H2=>tb { D with nx:=Pv (i + 1),ct:=Pv (i + 1),bk:=D.nx } σ2 H2) (hd: ∀ σ H,Pv xs.length σ H->D.nx σ H):
  ∃ W:Nat->Nat->St->Hp->Prop,(∃ m,W 0 m σ H)/\ ∀ i m σ H,W i m σ H->
   ((Itt K a).stop i H/\D.nx σ H)\/((Itt K a).go i H/\ ∃ N:St->Hp->Prop,(∀ σ' H',N σ' H'-> ∃ m',m' < m/\W (i + 1) m' σ' H')/\ ∀ x H',(Itt K a).yld i H x H'->g x σ H' fun σ2 H2=>tb { D with nx:=N,ct:=N,bk:=D.nx } σ2 H2):=by
 refine ⟨fun i m σ H=>m=xs.length - i/\i<=xs.length/\Pv i σ H,⟨xs.length,by simp,Nat.zero_le _,h0⟩,?_⟩
 rintro i m σ H ⟨rfl,hi,p⟩
 have q:=hl i σ H hi p
 by_cases hlt:i < xs.length
 ·refine .inr ⟨⟨xs,xs[i],q,by simp[hlt]⟩,Pv (i + 1),fun σ' H' p'=>⟨xs.length - (i + 1),by omega,rfl,hlt,p'⟩,fun x H' y=> ?_⟩
  obtain ⟨e,y⟩:=y
  subst e
  exact hs i x σ _ (y xs q) p
 ·have e:i=xs.length:=by omega
  subst e
  exact .inl ⟨⟨xs,q,Nat.le_refl _⟩,hd σ H p⟩
theorem ZhJ {lo:Int} {n:Nat} {g:TG} {tb:TS} {D:Ends} {σ:St} {H:Hp} (Pv:Nat->St->Hp->Prop) (h0:Pv 0 σ H)
  (hs: ∀ i σ H,i < n->Pv i σ H->g (.int (lo + i)) σ H fun σ2 H2=>tb { D with nx:=Pv (i + 1),ct:=Pv (i + 1),bk:=D.nx } σ2 H2) (hd: ∀ σ H,Pv n σ H->D.nx σ H):
  ∃ W:Nat->Nat->St->Hp->Prop,(∃ m,W 0 m σ H)/\ ∀ i m σ H,W i m σ H->
   ((Itr lo n).stop i H/\D.nx σ H)\/((Itr lo n).go i H/\ ∃ N:St->Hp->Prop,(∀ σ' H',N σ' H'-> ∃ m',m' < m/\W (i + 1) m' σ' H')/\ ∀ x H',(Itr lo n).yld i H x H'->g x σ H' fun σ2 H2=>tb { D with nx:=N,ct:=N,bk:=D.nx } σ2 H2):=by
 refine ⟨fun i m σ H=>m=n - i/\i<=n/\Pv i σ H,⟨n,by simp,Nat.zero_le _,h0⟩,?_⟩
 rintro i m σ H ⟨rfl,hi,p⟩
 by_cases hlt:i < n
 ·refine .inr ⟨hlt,Pv (i + 1),fun σ' H' p'=>⟨n - (i + 1),by omega,rfl,hlt,p'⟩,fun x H' y=> ?_⟩
  obtain ⟨e,y⟩:=y
  subst e y
  exact hs i σ _ hlt p
 ·have e:i=n:=by omega
  subst e
  exact .inl ⟨Nat.le_refl _,hd σ H p⟩
end L2
namespace L2
open PySem PySem.Spec PyProof.Rows
noncomputable abbrev R2:=V->V->Hp->VK->Prop
noncomputable def OpR (X:Cx) (f:Value->Value->Sem Value) (r:R2):Prop:=
 ∀ (pins:List (Addr × Obj)) (s:Shared) (σ:St) (H:Hp) (x y:V) (v u:Value) (Q:VK),Inv X pins σ H s->Zax x v->Zax y u->r x y H Q->
  wpAny (model X.prog X.w) X.A (f v u) (EP X pins σ Q) X.xe s
noncomputable def UnR (X:Cx) (f:Value->Sem Value) (r:V->Hp->VK->Prop):Prop:=
 ∀ (pins:List (Addr × Obj)) (s:Shared) (σ:St) (H:Hp) (x:V) (v:Value) (Q:VK),Inv X pins σ H s->Zax x v->r x H Q->
  wpAny (model X.prog X.w) X.A (f v) (EP X pins σ Q) X.xe s
noncomputable def Zcm (X:Cx) (f:Value) (r:List V->Hp->VK->Prop):Prop:=
 ∀ (pins:List (Addr × Obj)) (s:Shared) (σ:St) (H:Hp) (xs:List V) (us:List Value) (Q:VK),Inv X pins σ H s->Zam xs us->r xs H Q->
  wpAny (model X.prog X.w) X.A (call f us) (EP X pins σ Q) X.xe s
noncomputable def tOp (r:R2) (ta tb:TE):TE:=fun σ H Q=>ta σ H fun x H1=>tb σ H1 fun y H2=>r x y H2 Q
noncomputable def tUn (r:V->Hp->VK->Prop) (ta:TE):TE:=fun σ H Q=>ta σ H fun x H1=>r x H1 Q
noncomputable def rI (C:Int->Int->Prop) (g:Int->Int->V):R2:=fun x y H Q=> ∃ i j,x= .int i/\y= .int j/\C i j/\Q (g i j) H
noncomputable def rI0 (g:Int->Int->V):R2:=fun x y H Q=> ∃ i j,x= .int i/\y= .int j/\Q (g i j) H
noncomputable def rU (g:Int->V):V->Hp->VK->Prop:=fun x H Q=> ∃ i,x= .int i/\Q (g i) H
section
variable {X:Cx} {a b c:Expr} {ta tb tc:TE} {pos:Pos}
theorem Zp6 (ha:PE X a ta) (hb:PE X b tb) {pins:List (Addr × Obj)} {s:Shared} {σ:St} {H:Hp} {R:V->V->Hp->Prop} (I:Inv X pins σ H s)
  (h:ta σ H fun x H1=>tb σ H1 fun y H2=>R x y H2) {Q:Value->Shared->Prop} {f:Value->Value->Sem Value}
  (hf: ∀ v u s2 x y H2,Inv X pins σ H2 s2->Zax x v->Zax y u->R x y H2->wpAny (model X.prog X.w) X.A (f v u) Q X.xe s2):
  wpAny (model X.prog X.w) X.A (eval a X.env) (fun v s₁=>wpAny (model X.prog X.w) X.A (eval b X.env) (fun u s₂=>wpAny (model X.prog X.w) X.A (f v u) Q X.xe s₂) X.xe s₁) X.xe s:=by
 refine thn (ha pins s σ H _ I h) fun v s1 ⟨x,H1,I1,r1,q1⟩=> ?_
 refine thn (hb pins s1 σ H1 _ I1 q1) fun u s2 ⟨y,H2,I2,r2,q2⟩=> ?_
 exact hf v u s2 x y H2 I2 r1 r2 q2
theorem Zp7 {op:Operator} {r:R2} (ho:OpR X (binaryOp op) r) (ha:PE X a ta) (hb:PE X b tb):PE X (.BinOp a op b pos) (tOp r ta tb):=by
 intro pins s σ H Q I h
 exact wpAny_BinOp (Zp6 ha hb I h fun v u s2 x y H2 I2 rx ry q=>ho pins s2 σ H2 x y v u Q I2 rx ry q)
theorem Zp8 {op:UnaryOp} {r:V->Hp->VK->Prop} (ho:UnR X (unaryOp op) r) (ha:PE X a ta):PE X (.UnaryOp op a pos) (tUn r ta):=by
 intro pins s σ H Q I h
 exact UnaryOp_ (thn (ha pins s σ H _ I h) fun v s1 ⟨x,H1,I1,r1,q1⟩=>ho pins s1 σ H1 x v Q I1 r1 q1)
theorem opI {f:Value->Value->Sem Value} {C:Int->Int->Prop} {g:Int->Int->Int}
  (rule: ∀ (i j:Int) (t u:Tok) (s:Shared) (Q:Value->Shared->Prop) (E:Value->Shared->Prop),C i j->Q (.int (g i j) s.toks) { s with toks:=s.toks + 1 }->wpAny (model X.prog X.w) X.A (f (.int i t) (.int j u)) Q E s):
  OpR X f (rI C fun i j=> .int (g i j)):=by
 intro pins s σ H x y v u Q I rx ry h
 obtain ⟨i,j,rfl,rfl,hc,q⟩:=h
 obtain ⟨t,rfl⟩:=rx
 obtain ⟨t',rfl⟩:=ry
 exact rule i j t t' s _ _ hc ⟨.int (g i j),H,I.tok _,⟨_,rfl⟩,q⟩
theorem ZrW {f:Value->Value->Sem Value} {g:Int->Int->Int}
  (rule: ∀ (i j:Int) (t u:Tok) (s:Shared) (Q:Value->Shared->Prop) (E:Value->Shared->Prop),Q (.int (g i j) s.toks) { s with toks:=s.toks + 1 }->wpAny (model X.prog X.w) X.A (f (.int i t) (.int j u)) Q E s):
  OpR X f (rI0 fun i j=> .int (g i j)):=by
 intro pins s σ H x y v u Q I rx ry h
 obtain ⟨i,j,rfl,rfl,q⟩:=h
 obtain ⟨t,rfl⟩:=rx
 obtain ⟨t',rfl⟩:=ry
 exact rule i j t t' s _ _ ⟨.int (g i j),H,I.tok _,⟨_,rfl⟩,q⟩
theorem ZpK {f:Value->Value->Sem Value} {g:Int->Int->Bool}
  (rule: ∀ (i j:Int) (t u:Tok) (s:Shared) (Q:Value->Shared->Prop) (E:Value->Shared->Prop),Q (.bool (g i j)) s->wpAny (model X.prog X.w) X.A (f (.int i t) (.int j u)) Q E s):
  OpR X f (rI0 fun i j=> .bl (g i j)):=by
 intro pins s σ H x y v u Q I rx ry h
 obtain ⟨i,j,rfl,rfl,q⟩:=h
 obtain ⟨t,rfl⟩:=rx
 obtain ⟨t',rfl⟩:=ry
 exact rule i j t t' s _ _ ⟨.bl (g i j),H,I,rfl,q⟩
noncomputable def ZrX (i j:Int):Prop:=0<=j/\j<=1000000/\i.natAbs < 2 ^ 64
theorem Zm4:OpR X (binaryOp .Add) (rI0 fun i j=> .int (i + j)):=ZrW fun _ _ _ _ _ _ _ q=>add_int q
theorem Zm5:OpR X (binaryOp .Sub) (rI0 fun i j=> .int (i - j)):=ZrW fun _ _ _ _ _ _ _ q=>sub_int q
theorem Zli:OpR X (binaryOp .Mod) (rI (fun _ j=>j≠0) fun i j=> .int (i.fmod j)):=opI fun _ _ _ _ _ _ _ hc q=>mod_int' hc q
theorem Zm6:OpR X (binaryOp .Pow) (rI ZrX fun i j=> .int (i ^ j.toNat)):=opI fun _ _ _ _ _ _ _ hc q=>pow_int_small hc.1 hc.2.1 hc.2.2 q
theorem unI {f:Value->Sem Value} {g:Int->Int}
  (rule: ∀ (i:Int) (t:Tok) (s:Shared) (Q:Value->Shared->Prop) (E:Value->Shared->Prop),Q (.int (g i) s.toks) { s with toks:=s.toks + 1 }->wpAny (model X.prog X.w) X.A (f (.int i t)) Q E s):
  UnR X f (rU fun i=> .int (g i)):=by
 intro pins s σ H x v Q I rx h
 obtain ⟨i,rfl,q⟩:=h
 obtain ⟨t,rfl⟩:=rx
 exact rule i t s _ _ ⟨.int (g i),H,I.tok _,⟨_,rfl⟩,q⟩
theorem Zm7:UnR X (unaryOp .USub) (rU fun i=> .int (-i)):=unI fun _ _ _ _ _ q=>neg_int q
end
section
variable {X:Cx} {a b c:Expr} {ta tb tc:TE} {pos:Pos}
theorem Zdp:OpR X (compareOp .Lt) (rI0 fun i j=> .bl (decide (i < j))):=ZpK fun _ _ _ _ _ _ _ q=>lt_int q
theorem ZhK:OpR X (compareOp .LtE) (rI0 fun i j=> .bl (decide (i<=j))):=ZpK fun _ _ _ _ _ _ _ q=>le_int q
theorem Zlj:OpR X (compareOp .Gt) (rI0 fun i j=> .bl (decide (j < i))):=ZpK fun _ _ _ _ _ _ _ q=>gt_int q
theorem Zjt:OpR X (compareOp .GtE) (rI0 fun i j=> .bl (decide (j<=i))):=ZpK fun _ _ _ _ _ _ _ q=>ge_int q
theorem OpR.or {f:Value->Value->Sem Value} {r r':R2} (h:OpR X f r) (h':OpR X f r'):OpR X f (fun x y H Q=>r x y H Q\/r' x y H Q):=by
 intro pins s σ H x y v u Q I rx ry q
 rcases q with q | q
 ·exact h pins s σ H x y v u Q I rx ry q
 ·exact h' pins s σ H x y v u Q I rx ry q
theorem Zkr (b:Expr) {op:CmpOp} (h:op≠ .In:=by decide) (h2:op≠ .NotIn:=by decide):behindInMarks op b=false:=by
 have e1:(op == CmpOp.In)=false:=by cases op<;>first | rfl | exact absurd rfl h
 have e2:(op == CmpOp.NotIn)=false:=by cases op<;>first | rfl | exact absurd rfl h2
 cases b<;>simp[behindInMarks,e1,e2]
theorem Zlk {op:CmpOp} {r:R2} (ho:OpR X (compareOp op) r) (ha:PE X a ta) (hb:PE X b tb) (hm:behindInMarks op b=false):PE X (.Compare a [op] [b] pos) (tOp r ta tb):=by
 intro pins s σ H Q I h
 exact wpAny_Compare1 (Zp6 ha hb I h fun v u s2 x y H2 I2 rx ry q=>ho pins s2 σ H2 x y v u Q I2 rx ry q) hm
noncomputable def Zm8 (t:TE):TT:=fun σ H Q=>t σ H fun x H'=> ∃ k,x= .bl k/\Q k H'
theorem Zll {op:CmpOp} {r:R2} (ho:OpR X (compareOp op) r) (ha:PE X a ta) (hb:PE X b tb) (hm:behindInMarks op b=false):PT X (.Compare a [op] [b] pos) (Zm8 (tOp r ta tb)):=by
 intro pins s σ H Q I h
 refine wpAny_isTrue_Compare1 (thn (ha pins s σ H _ I h) fun v s1 ⟨x,H1,I1,r1,q1⟩=>thn (hb pins s1 σ H1 _ I1 q1) fun u s2 ⟨y,H2,I2,r2,q2⟩=>
  thn (ho pins s2 σ H2 x y v u _ I2 r1 r2 q2) fun c s3 ⟨z,H3,I3,r3,k,e,q3⟩=> ?_) hm
 subst e
 cases r3
 exact wpAny_truthy_bool ⟨H3,I3,q3⟩
noncomputable def Zks (r r':R2) (ta tb tc:TE):TE:=fun σ H Q=>ta σ H fun x H1=>tb σ H1 fun y H2=>r x y H2 fun z H3=> ∃ k,z= .bl k/\
 (if k=true then tc σ H3 fun w' H4=>r' y w' H4 Q else Q (.bl false) H3)
theorem Zju {op op':CmpOp} {r r':R2} (ho:OpR X (compareOp op) r) (ho':OpR X (compareOp op') r') (ha:PE X a ta) (hb:PE X b tb) (hc:PE X c tc)
  (hm:lastMarks [op,op'] [b,c]=false:=by with_unfolding_all rfl):PE X (.Compare a [op,op'] [b,c] pos) (Zks r r' ta tb tc):=by
 intro pins s σ H Q I h
 refine Compare_chain (thn (ha pins s σ H _ I h) fun v s1 ⟨x,H1,I1,r1,q1⟩=>chain_link (thn (hb pins s1 σ H1 _ I1 q1) fun u s2 ⟨y,H2,I2,r2,q2⟩=>
  thn (ho pins s2 σ H2 x y v u _ I2 r1 r2 q2) fun d s3 ⟨z,H3,I3,r3,k,e,q3⟩=> ?_)) hm
 subst e
 cases r3
 refine wpAny_truthy_bool ?_
 cases k with
 |false=>exact ite_ff ⟨.bl false,H3,I3,rfl,q3⟩
 |true=>exact ite_tt (chain_last (thn (hc pins s3 σ H3 _ I3 q3) fun w' s4 ⟨z',H4,I4,r4,q4⟩=>ho' pins s4 σ H4 y z' u w' Q I4 r2 r4 q4))
theorem ZhL:(sizeLine:Nat) < 2 ^ 63:=by rw[sizeLine_eq];decide
theorem ZgZ:OpR X (binaryOp .Add) (fun x y H Q=> ∃ i j,x= .str i/\y= .str j/\i.length + j.length<=sizeLine/\Q (.str (i ++ j)) H):=by
 intro pins s σ H x y v u Q I rx ry h
 obtain ⟨i,j,rfl,rfl,hz,q⟩:=h
 obtain ⟨t,rfl⟩:=rx
 obtain ⟨t',rfl⟩:=ry
 exact add_str (fun t' tk=>⟨.str (i ++ j),H,I.tok _,⟨_,rfl⟩,q⟩) hz
theorem ZcV {x:V} {us:List Value} (r:Zam [x] us): ∃ u,us=[u]/\Zax x u:=by
 cases r with
 |cons r1 r2=>cases r2;exact ⟨_,rfl,r1⟩
theorem Zjv {x y:V} {us:List Value} (r:Zam [x,y] us): ∃ u w',us=[u,w']/\Zax x u/\Zax y w':=by
 cases r with
 |cons r1 r2=>
  cases r2 with
  |cons r3 r4=>cases r4;exact ⟨_,_,rfl,r1,r3⟩
theorem ZcF:Zcm X (.builtin "abs") (fun xs H Q=> ∃ i,xs=[.int i]/\Q (.int (if i < 0 then -i else i)) H):=by
 intro pins s σ H xs us Q I r h
 obtain ⟨i,rfl,q⟩:=h
 obtain ⟨u,rfl,t,rfl⟩:=ZcV r
 exact call_abs_int fun u tk=>⟨.int (if i < 0 then -i else i),H,I.tok _,⟨_,rfl⟩,q⟩
theorem Ze8 (hc:X.calm=true):Zcm X (.builtin "max") (fun xs H Q=> ∃ i j,xs=[.int i,.int j]/\Q (.int (if j > i then j else i)) H):=by
 intro pins s σ H xs us Q I r h
 obtain ⟨i,j,rfl,q⟩:=h
 obtain ⟨u,w',rfl,⟨t,rfl⟩,⟨t',rfl⟩⟩:=Zjv r
 refine max_two_ints (I.ok.hd hc) fun h' tk k=>⟨_,H,I.kept k,?_,q⟩
 by_cases hj:j > i
 ·rw[if_pos hj,if_pos hj];exact ⟨_,rfl⟩
 ·rw[if_neg hj,if_neg hj];exact ⟨_,rfl⟩
theorem ZhM (hc:X.calm=true):Zcm X (.builtin "min") (fun xs H Q=> ∃ i j,xs=[.int i,.int j]/\Q (.int (if j < i then j else i)) H):=by
 intro pins s σ H xs us Q I r h
 obtain ⟨i,j,rfl,q⟩:=h
 obtain ⟨u,w',rfl,⟨t,rfl⟩,⟨t',rfl⟩⟩:=Zjv r
 refine min_two_ints (I.ok.hd hc) fun h' tk k=>⟨_,H,I.kept k,?_,q⟩
 by_cases hj:j < i
 ·rw[if_pos hj,if_pos hj];exact ⟨_,rfl⟩
 ·rw[if_neg hj,if_neg hj];exact ⟨_,rfl⟩
theorem ZhN:Zcm X (.type "int") (fun xs H Q=>(∃ i,xs=[.int i]/\Q (.int i) H)\/ ∃ k,xs=[.bl k]/\Q (.int (if k then 1 else 0)) H):=by
 intro pins s σ H xs us Q I r h
 rcases h with ⟨i,rfl,q⟩ | ⟨k,rfl,q⟩
 ·obtain ⟨u,rfl,t,rfl⟩:=ZcV r
  exact call_int_int ⟨.int i,H,I,⟨_,rfl⟩,q⟩
 ·obtain ⟨u,rfl,r1⟩:=ZcV r
  cases r1
  exact call_int_bool ⟨.int (if k then 1 else 0),H,I.tok _,⟨_,rfl⟩,q⟩
end
end L2
namespace L2
open PySem PySem.Spec PyProof.Rows
section
variable {prog:Program} {w:World} {A:Around} {E:Value->Shared->Prop} {s:Shared} {K:PySem.W.Frag} {x dx C f:Addr} {mA:Str->Option Value} {name:Str} {v:Value}
end
section
variable {P:Program} {w:World} {H H':Hp} {h h':Heap} {a C dx:Addr} {fs fs':List (Str × V)}
end
section
variable {X:Cx} {pins:List (Addr × Obj)} {σ:St} {H:Hp} {s:Shared} {a C dx:Addr} {fs:List (Str × V)} {f:Str} {v:V} {A:Around} {E:Value->Shared->Prop}
end
section
variable {X:Cx} {o e value:Expr} {f:Str} {pos pos' tpos:Pos} {ta tv:TE}
end
section
variable {X:Cx} {pins:List (Addr × Obj)} {σ:St} {H:Hp} {s:Shared} {A:Around} {E:Value->Shared->Prop} {Q:Value->Shared->Prop} {c:Value} {b:Bool}
end
end L2
namespace L2
open PySem PySem.Spec PyProof.Rows
structure Room (k:Nat) (A:Around):Prop where
 hd:100<=k->A.handled=none
 gd:A.guards=some []
 dp:A.depth + 3 * k + 5 < recursionLimit
 un:A.units + 16 * k + 200 < cLine
theorem Room.mono {j k:Nat} {A:Around} (r:Room k A) (h:j<=k):Room j A:=⟨fun z=>r.hd (Nat.le_trans z h),r.gd,by have:=r.dp;omega,by have:=r.un;omega⟩
theorem Room.deeper {k:Nat} {A:Around} (r:Room (k + 1) A) (env:Env):Room k (A.deeper env):=
 ⟨fun z=>r.hd (Nat.le_succ_of_le z),r.gd,by have:=r.dp;show A.depth + 1 + 3 * k + 5 < _;omega,by have:=r.un;show A.units + 3 + 16 * k + 200 < _;omega⟩
theorem Room.depth {k:Nat} {A:Around} (r:Room k A):A.depth < recursionLimit:=by have:=r.dp;omega
theorem Room.units {k:Nat} {A:Around} (r:Room k A):A.units + 64 < cLine:=by have:=r.un;omega
noncomputable def tNil:TA:=fun _ H Q=>Q [] H
noncomputable def Zp9 (ta:TE) (tr:TA):TA:=fun σ H Q=>ta σ H fun x H1=>tr σ H1 fun xs H2=>Q (x :: xs) H2
section
variable {X:Cx} {e:Expr} {es:List Expr} {te:TE} {t:TA} {pos:Pos}
theorem Zkt:PA X [] tNil:=fun _ _ _ _ H Q I h=>Calls.spliced_nil ⟨[],H,I,.nil,h⟩
theorem Zf3 (ha:PE X e te) (hr:PA X es t) (hs:starEach (e :: es) X.env=(false,eval e X.env) :: starEach es X.env:=by rfl):PA X (e :: es) (Zp9 te t):=by
 intro pos pins s σ H Q I h
 rw[hs]
 show wpAny _ _ (spliced ((false,eval e X.env) :: backTo pos (starEach es X.env))) _ _ s
 refine Calls.spliced_cons (thn (ha pins s σ H _ I h) fun u s1 ⟨x,H1,I1,r1,q1⟩=> ?_)
 exact thn (hr pos pins s1 σ H1 _ I1 q1) fun us s2 ⟨xs,H2,I2,r2,q2⟩=>⟨x :: xs,H2,I2,.cons r1 r2,q2⟩
noncomputable def Zs8 (t:TA):TE:=fun σ H Q=>t σ H fun xs H1=>xs.length<=sizeLine/\ ∀ p,H1 p=none->Q (.ref p) (upd H1 p (.tup xs))
noncomputable def Zs9 (t:TA):TE:=fun σ H Q=>t σ H fun xs H1=>xs.length<=sizeLine/\ ∀ p,H1 p=none->Q (.ref p) (upd H1 p (.lst xs))
theorem Zm9 {x1} (h:PA X es t):PE X (.Tuple es x1 pos) (Zs8 t):=by
 intro pins s σ H Q I hq
 refine wpAny_Tuple_spliced (thn (h pos pins s σ H _ I hq) fun us s1 ⟨xs,H1,I1,r,z,q⟩=>⟨by rw[<- r.length];exact z,?_⟩)
 have hf:H1 s1.heap.objs.size=none:=I1.hok.fresh (Nat.le_refl _)
 refine ⟨.ref s1.heap.objs.size,upd H1 s1.heap.objs.size (.tup xs),I1.laid (t':=s1.toks) (fun b u e=>Heap.get?_push_of_some _ e) (Nat.le_refl _) ?_,rfl,q _ hf⟩
 exact ⟨z,us,r,⟨_,Heap.get?_push_size _ rfl,rfl,_,rfl⟩⟩
theorem Zna (h:PA X es t):PE X (.List es pos) (Zs9 t):=by
 intro pins s σ H Q I hq
 refine wpAny_List_spliced (thn (h pos pins s σ H _ I hq) fun us s1 ⟨xs,H1,I1,r,z,q⟩=>⟨by rw[<- r.length];exact z,?_⟩)
 have hf:H1 s1.heap.objs.size=none:=I1.hok.fresh (Nat.le_refl _)
 refine ⟨.ref s1.heap.objs.size,upd H1 s1.heap.objs.size (.lst xs),I1.laid (t':=s1.toks) (fun b u e=>Heap.get?_push_of_some _ e) (Nat.le_refl _) ?_,rfl,q _ hf⟩
 exact ⟨z,us,0,r,Heap.get?_push_size _ rfl⟩
end
noncomputable abbrev Sp:=List V->Hp->VK->XK->Prop
noncomputable abbrev CXT:=List Env->Hp->Shared->XK->Value->Shared->Prop
structure Env0 (P:Program) (w:World) (K:PySem.W.Frag) (mg:Str->Option Value) (base:Heap) (A:Around) (outer:List Env) (s:Shared) (H:Hp):Prop where
 frames:A.frames=some outer
 mod:Mod K mg base
 bs: ∀ b o,base.get? b=some o->s.heap.get? b=some o/\H b=none
 bsz:base.objs.size<=s.heap.objs.size
 funs:s.heap.FunFrames base outer
 frf: ∀ b∈frs outer,H b=none
 hok:HOk P w H s.heap
 bare:AllBare s.gens
 qd:Qd A H
noncomputable def CE (outer:List Env) (P:Program) (w:World) (H:Hp) (s:Shared) (Q:VK) (u:Value) (s':Shared):Prop:=
 ∃ v H',s'.os=s.os/\AllBare s'.gens/\Un (frs outer) [] H H' s.heap s'.heap/\HOk P w H' s'.heap/\Zax v u/\Q v H'
noncomputable def CR (CX:CXT) (outer:List Env) (P:Program) (w:World) (H:Hp) (s:Shared) (Q:VK) (E:XK) (r:Result) (s':Shared):Prop:=
 match r with
 | .ok (.ret u)=>CE outer P w H s Q u s'
 | .ok _=>False
 | .error e=>CX outer H s E e s'
structure FnOk (P:Program) (w:World) (K:PySem.W.Frag) (mg:Str->Option Value) (base:Heap) (CX:CXT) (k:Nat) (f:Addr) (fd:FuncData) (ps:List Str) (sp:Sp):Prop where
 len: ∀ vs H Q E,sp vs H Q E->vs.length=ps.length
 run: ∀ (A:Around) (outer:List Env) (s:Shared) (H:Hp) (args:Args) (us:List Value) (vs:List V) (Q:VK) (E:XK),Room k A->Env0 P w K mg base A outer s H->BindsTo s fd args (ps.zip us)->Zam vs us->sp vs H Q E->
  codeAny (model P w) A (.call (.ref f) args) (CR CX outer P w H s Q E) s
section
variable {X:Cx} {pins:List (Addr × Obj)} {σ:St} {H:Hp} {s s':Shared}
theorem Inv.env0 (I:Inv X pins σ H s):Env0 X.prog X.w X.K X.mg X.base X.A X.stack s H:=
 ⟨I.ok.frames,I.ok.mod,I.bs,Nat.le_trans I.ok.bsz I.sz,I.stack,I.stkFree,I.hok,I.bare,I.qd⟩
theorem Inv.after {Q:VK} {u:Value} (I:Inv X pins σ H s) (h:CE X.stack X.prog X.w H s Q u s'):EP X pins σ Q u s':=by
 obtain ⟨v,H',os,bare,un,hok,r,q⟩:=h
 obtain ⟨hh,g,d,t,os'⟩:=s'
 obtain rfl:os'=s.os:=os
 exact ⟨v,H',I.call (h':=hh) (g':=g) (d':=d) (t':=t) (ch:=[]) un hok bare (fun b z=>absurd z (by simp)),r,q⟩
end
noncomputable def Zqa (sp:Sp) (dvs:List V) (E:XK) (t:TA):TE:=fun σ H Q=>t σ H fun vs H1=>sp (vs ++ dvs) H1 Q E
noncomputable def Zf4 (K:PySem.W.Frag) (fd:FuncData) (ps:List Str) (ds:List Value):Prop:=
 ∀ (s:Shared) (us:List Value),K.In s.heap->(us ++ ds).length=ps.length->BindsTo s fd ⟨us,[]⟩ (ps.zip (us ++ ds))
theorem Zf4.all {K:PySem.W.Frag} {fd:FuncData} {ps:List Str} (h: ∀ us:List Value,us.length=ps.length->bindArgs fd ⟨us,[]⟩=pure (ps.zip us)):Zf4 K fd ps []:=fun s us _ hl=>by
 rw[List.append_nil] at hl ⊢
 exact .of_eq (h us hl)
noncomputable def ZhO (CX:CXT) (X:Cx) (E:XK):Prop:= ∀ (pins:List (Addr × Obj)) (σ:St) (H:Hp) (s:Shared) (e:Value) (s':Shared),Inv X pins σ H s->CX X.stack H s E e s'->X.xe e s'
section
variable {X:Cx} {CX:CXT} {k:Nat} {f C:Addr} {fd:FuncData} {ps:List Str} {sp:Sp} {dvs:List V} {ds:List Value} {E:XK} {x m:Str} {p pos apos:Pos} {e o:Expr} {es:List Expr} {ta:TE} {t:TA}
theorem Znb {pins:List (Addr × Obj)} {σ:St} {H:Hp} {s:Shared} {Q:VK} {us:List Value} {vs:List V} (F:FnOk X.prog X.w X.K X.mg X.base CX k f fd ps sp) (hr:Room k X.A) (hb:Zf4 X.K fd ps ds) (hd:Zam dvs ds) (hx:ZhO CX X E)
  (I:Inv X pins σ H s) (r:Zam vs us) (h:sp (vs ++ dvs) H Q E):wpAny (model X.prog X.w) X.A (call (.ref f) us) (EP X pins σ Q) X.xe s:=by
 have r2:Zam (vs ++ dvs) (us ++ ds):=r.append hd
 have hl:(us ++ ds).length=ps.length:=by rw[<- r2.length];exact F.len _ _ _ _ h
 refine wpAny_call (codeAny_mono (F.run X.A X.stack s H ⟨us,[]⟩ (us ++ ds) (vs ++ dvs) Q E hr I.env0 (hb s us I.kIn hl) r2 h) fun r s' hq=> ?_)
 cases r with
 |error e=>exact hx pins σ H s e s' I hq
 |ok fl=>
  cases fl with
  |ret u=>exact I.after hq
  |next=>exact False.elim hq
  |brk=>exact False.elim hq
  |cont=>exact False.elim hq
theorem Zlm (F:FnOk X.prog X.w X.K X.mg X.base CX k f fd ps sp) (hr:Room k X.A) (hg:Gl X x) (hm:X.mg x=some (.ref f)) (hk:PySem.W.keepIn X.K (.ref f)=true) (hb:Zf4 X.K fd ps ds) (hd:Zam dvs ds) (hx:ZhO CX X E)
  (ha:PA X (e :: es) t) (hdb:(x == ("__debug__":Str))=false:=by decide) (he:starEach (e :: es) X.env=(false,eval e X.env) :: starEach es X.env:=by rfl) (hpl:(backTo pos (starEach es X.env)).any (·.1)=false:=by rfl):
  PE X (.Call (.Name x p) (e :: es) [] pos) (Zqa sp dvs E t):=by
 intro pins s σ H Q I h
 refine wpAny_Call_Name_kw (ZhF I hg hm ?_ hdb)
 refine PySem.W.callWith_K (h₀:=X.base) I.ok.mod.kin hk (thn (ha pos pins s σ H _ I h) fun us s1 ⟨vs,H1,I1,r,q⟩=>⟨I1.kIn,?_⟩) he hpl
 exact Znb F hr hb hd hx I1 r q
end
section
variable {X:Cx} {CX:CXT} {k:Nat} {f C:Addr} {fd:FuncData} {ps ks:List Str} {sp:Sp} {E:XK} {x m:Str} {p pos apos kpos:Pos} {e o:Expr} {es:List Expr} {kws:List Keyword} {te ta:TE} {t tk:TA} {nm:Option Str}
variable {g:List Value->List Value->List Value} {gV:List V->List V->List V}
end
structure FnScope (N P:List Str) (sc:Scope):Prop where
 kind:sc.kind= .function
 co:sc.isCoroutine=false
 gen:sc.isGenerator=false
 nd:N.Nodup
 pre:N.take P.length=P
 par: ∀ x∈P,sc.names.lookup x=some .local\/sc.names.lookup x=some .cell
 nofree: ∀ y∈sc.names,y.2≠ .free
theorem Ze9 {kindOf:Str->Option NameKind} {x:Str}: ∀ {binds:List (Str × Value)} {m:Str->Option Value},(∀ v,(x,v) ∉ binds)->bindL kindOf binds m x=m x
 | [],_,_=>rfl
 | (n,v) :: r,m,h=>by
  unfold bindL
  rw[Ze9 fun w hw=>h w (List.mem_cons_of_mem _ hw)]
  split
  ·have:x≠n:=by rintro rfl;exact h v List.mem_cons_self
   simp[this]
  ·rfl
theorem Zfa {kindOf:Str->Option NameKind} {x:Str}: ∀ {binds:List (Str × Value)} {m:Str->Option Value},(∀ v,(x,v) ∉ binds)->bindC kindOf binds m x=m x
 | [],_,_=>rfl
 | (n,v) :: r,m,h=>by
  unfold bindC
  rw[Zfa fun w hw=>h w (List.mem_cons_of_mem _ hw)]
  split
  ·rfl
  ·have:x≠n:=by rintro rfl;exact h v List.mem_cons_self
   simp[this]
theorem Zfb {kindOf:Str->Option NameKind} {x:Str} {v:Value}: ∀ {P:List Str} {vs:List Value} {i:Nat} {m:Str->Option Value},P.Nodup->P[i]?=some x->vs[i]?=some v->kindOf x=some .local->
  bindL kindOf (P.zip vs) m x=some v
 | [],_,_,_,_,h,_,_=>by simp at h
 |_ :: _,[],_,_,_,_,h,_=>by simp at h
 |p :: P,w :: vs,0,m,nd,h1,h2,hk=>by
  simp at h1 h2;subst h1;subst h2
  show bindL kindOf ((p,w) :: P.zip vs) m p=_
  unfold bindL
  rw[Ze9 fun v hv=>(List.nodup_cons.mp nd).1 (List.of_mem_zip hv).1,if_pos hk]
  simp
 |p :: P,w :: vs,i + 1,m,nd,h1,h2,hk=>by
  show bindL kindOf ((p,w) :: P.zip vs) m x=_
  unfold bindL
  exact Zfb (i:=i) (List.nodup_cons.mp nd).2 (by simpa using h1) (by simpa using h2) hk
theorem Zfc {kindOf:Str->Option NameKind} {x:Str} {v:Value}: ∀ {P:List Str} {vs:List Value} {i:Nat} {m:Str->Option Value},P.Nodup->P[i]?=some x->vs[i]?=some v->kindOf x≠some .local->
  bindC kindOf (P.zip vs) m x=some v
 | [],_,_,_,_,h,_,_=>by simp at h
 |_ :: _,[],_,_,_,_,h,_=>by simp at h
 |p :: P,w :: vs,0,m,nd,h1,h2,hk=>by
  simp at h1 h2;subst h1;subst h2
  show bindC kindOf ((p,w) :: P.zip vs) m p=_
  unfold bindC
  rw[Zfa fun v hv=>(List.nodup_cons.mp nd).1 (List.of_mem_zip hv).1,if_neg hk]
  simp
 |p :: P,w :: vs,i + 1,m,nd,h1,h2,hk=>by
  show bindC kindOf ((p,w) :: P.zip vs) m x=_
  unfold bindC
  exact Zfc (i:=i) (List.nodup_cons.mp nd).2 (by simpa using h1) (by simpa using h2) hk
noncomputable def start (N:List Str) (vs:List V):St:=vs.map some ++ List.replicate (N.length - vs.length) none
noncomputable def Zf1 (CX:CXT) (P:Program) (w:World) (K:PySem.W.Frag) (mg:Str->Option Value) (base:Heap) (N:List Str) (qual:Str) (scope:Scope) (f:Addr) (cd:Value) (A:Around) (outer:List Env) (s:Shared) (H:Hp) (E:XK):Cx where
 prog:=P
 w:=w
 K:=K
 mg:=mg
 base:=base
 A:=A.deeper (envOfC qual scope s.heap.objs.size f cd)
 N:=N
 s₀:=s
 H₀:=H
 env:=envOfC qual scope s.heap.objs.size f cd
 outer:=outer
 stack:=envOfC qual scope s.heap.objs.size f cd :: outer
 ex:=[]
 calm:=A.handled.isNone
 fxs:=none
 fn:=fun _=>true
 pn:=[]
 xe:=fun e s'=>wpAny (model P w) (A.deeper (envOfC qual scope s.heap.objs.size f cd)) (leaving (envOfC qual scope s.heap.objs.size f cd) e) (fun _ s''=>CX outer H s E e s'') (fun e' s''=>CX outer H s E e' s'') s'
theorem Zgw {sc:Scope} {n:Nat} {x:Str} (h:sc.names.lookup x=some .cell): ∃ c,(cellsFrom n sc.names []).lookup x=some c:=by
 have q:=PySem.W.cellsFrom_some sc.names n [] (.inl h)
 exact Option.isSome_iff_exists.mp q
theorem ZhP {CX:CXT} {P:Program} {w:World} {K:PySem.W.Frag} {mg:Str->Option Value} {base:Heap} {N ps:List Str} {qual:Str} {scope:Scope} {f:Addr} {cd:Value} {A:Around} {outer:List Env} {s s1:Shared} {H:Hp} {E:XK} {us:List Value} {vs:List V}
  (S:FnScope N ps scope) (e0:Env0 P w K mg base A outer s H) (hl:vs.length=ps.length) (r:Zam vs us)
  (x:InCallC s s.heap.objs.size (bindL (envOfC qual scope s.heap.objs.size f cd).kindOf (ps.zip us) fun _=>none) (cellsFrom (s.heap.objs.size + 1) scope.names []) (bindC (envOfC qual scope s.heap.objs.size f cd).kindOf (ps.zip us) fun _=>none) s1):
  Inv (Zf1 CX P w K mg base N qual scope f cd A outer s H E) [] (start N vs) H s1:=by
 have hpl:ps.length<=N.length:=by have:=congrArg List.length S.pre;rw[List.length_take] at this;omega
 obtain ⟨h1,tk,rfl,hk⟩:=x.done
 have noA: ∀ b:Addr,b ∉ (Zf1 CX P w K mg base N qual scope f cd A outer s H E).ex:=fun b z=>absurd (show b∈([]:List Addr) from z) (by simp)
 refine ⟨⟨e0.mod,S.kind,rfl,rfl,Nat.le_refl _,fun y z c h1 h2=> ?_,fun y hy=> ?_,fun y c _ h=> ?_,fun z=>Option.isNone_iff_eq_none.mp z,Around.frames_deeper e0.frames,.inr ⟨rfl,rfl⟩,fun b z=>absurd z (noA b),e0.bs,e0.bsz,fun b _ _=>noA b,fun b z=>absurd z (noA b),e0.funs,e0.frf⟩,
  rfl,e0.bare,Un.kept hk,⟨_,x.toInCall.ns,fun i y v h1 h2 h3=> ?_⟩,fun y c h=>⟨_,x.cell y c h⟩,e0.hok.fresh (Nat.le_refl _),fun y c h=> ?_,fun p hp=>absurd (show p∈([]:List (Addr × Obj)) from hp) (by simp),e0.hok.kept hk,?_,e0.qd,.free rfl⟩
 ·exact name_of_addr x.apart (PySem.mem_of_lookup h1) (PySem.mem_of_lookup h2)
 ·have hy:scope.names.lookup y=some .cell\/scope.names.lookup y=some .free:=hy
  rcases hy with hy | hy
  ·exact Zgw hy
  ·exact absurd rfl (S.nofree _ (PySem.mem_of_lookup hy))
 ·exact Nat.le_of_lt (x.above y c (PySem.mem_of_lookup h))
 ·have hi:i < vs.length:=by
   unfold start at h2
   by_cases hi:i < vs.length
   ·exact hi
   ·rw[List.getElem?_append_right (by simpa using hi)] at h2
    rw[List.getElem?_replicate] at h2
    split at h2<;>cases h2
  have ha:vs[i]?=some v:=by
   unfold start at h2
   rw[List.getElem?_append_left (by simpa using hi),List.getElem?_map] at h2
   cases e:vs[i]? with
   |none=>rw[e] at h2;cases h2
   |some a=>rw[e] at h2;cases h2;rfl
  obtain ⟨u,hu,rv⟩:=r.get ha
  have hp:ps[i]?=some y:=by
   rw[<- S.pre,List.getElem?_take_of_lt (by omega)];exact h1
  have ndP:ps.Nodup:=by rw[<- S.pre];exact S.nd.sublist (List.take_sublist _ _)
  refine ⟨u,rv,?_⟩
  rcases S.par y (List.mem_of_getElem? hp) with k | k
  ·exact .inl ⟨k,Zfb ndP hp hu k⟩
  ·obtain ⟨c,e⟩:=Zgw (n:=s.heap.objs.size + 1) k
   refine .inr ⟨.inl k,c,e,?_⟩
   have q:=x.cell y c e
   rw[Zfc ndP hp hu (by show scope.names.lookup y≠_;rw[k];decide)] at q
   exact q
 ·exact e0.hok.fresh (Nat.le_of_lt (x.above y c (PySem.mem_of_lookup h)))
 ·unfold start
  show _=N.length
  rw[List.length_append,List.length_map,List.length_replicate]
  omega
theorem Zqb {CX:CXT} {P:Program} {w:World} {K:PySem.W.Frag} {mg:Str->Option Value} {base:Heap} {k:Nat} {f:Addr} {name qual:Str} {params:Arguments} {body:List Stmt} {scope:Scope} {dV kV doc pm cdv ct oc:Value} {an od:Option Addr}
  {osl:Array (Option Value)} {N ps:List Str} {sp:Sp} (lk:K.lookup f=some ⟨oc,od,.func (PySem.W.fnOf name qual params body scope dV kV doc pm an cdv ct),osl⟩) (hcd:PySem.W.codeIn K cdv qual=true) (S:FnScope N ps scope)
  (len: ∀ vs H Q E,sp vs H Q E->vs.length=ps.length)
  (hbody: ∀ (A:Around) (outer:List Env) (s:Shared) (H:Hp) (vs:List V) (Q:VK) (E:XK),Room k (A.deeper (envOfC qual scope s.heap.objs.size f cdv))->sp vs H Q E->
   ∃ t,PSs (Zf1 CX P w K mg base N qual scope f cdv A outer s H E) body t/\t { nx:=fun _ H'=>Q .non H',rt:=Q } (start N vs) H):
  FnOk P w K mg base CX (k + 1) f (PySem.W.fnOf name qual params body scope dV kV doc pm an cdv ct) ps sp:=by
 refine ⟨len,fun A outer s H args us vs Q E hr e0 hb r hsp=> ?_⟩
 have hl:=len _ _ _ _ hsp
 have KX:K.In s.heap:=e0.mod.kin.keeps fun b o e=>(e0.bs b o e).1
 have lim:s.heap.NoLimit:=e0.mod.nolimit.keeps fun b o e=>(e0.bs b o e).1
 have hkind: ∀ y∈ps.zip us,scope.names.lookup y.1=some .local\/(scope.names.lookup y.1=some .cell/\((cellsFrom (s.heap.objs.size + 1) scope.names []).lookup y.1).isSome=true):=fun ⟨n,v⟩ hy=>by
  rcases S.par n (List.of_mem_zip hy).1 with q | q
  ·exact .inl q
  ·exact .inr ⟨q,PySem.W.cellsFrom_some _ _ _ (.inl q)⟩
 refine codeAny_call_function hr.depth (KX _ _ lk) rfl S.co S.gen rfl (PySem.W.codeRec_of KX hcd) (hb _ _ _ _ ?_)
 refine wpAny_newFunctionEnv_cells S.kind hkind fun env he s1 x=> ?_
 subst he
 refine ⟨lim.keeps x.toInCall.keep,codeAny_func ?_⟩
 obtain ⟨t,ht,hq⟩:=hbody A outer s H vs Q E (hr.deeper _) hsp
 have I:Inv (Zf1 CX P w K mg base N qual scope f cdv A outer s H E) [] (start N vs) H s1:=ZhP S e0 hl r x
 refine wpAny_mono (ht [] s1 (start N vs) H _ I hq) (fun fl s' hs=> ?_) fun e s' hs=>hs
 have fin: ∀ {σ':St} {H':Hp} {v:V} {u:Value},Inv (Zf1 CX P w K mg base N qual scope f cdv A outer s H E) [] σ' H' s'->Zax v u->Q v H'->CE outer P w H s Q u s':=
  fun {σ' H' v u} J rv q=>⟨v,H',J.os,J.bare,J.base,J.hok,rv,q⟩
 cases fl with
 |ret u=>
  obtain ⟨v,σ',H',J,rv,q⟩:=hs
  exact fin J rv q
 |next=>
  obtain ⟨σ',H',J,q⟩:=hs
  exact fin (v:=V.non) (u:=Value.none) J rfl q
 |brk=>
  obtain ⟨_,_,_,q⟩:=hs
  exact False.elim q
 |cont=>
  obtain ⟨_,_,_,q⟩:=hs
  exact False.elim q
end L2
namespace L2
open PySem PySem.Spec PyProof.Rows
section
variable {X:Cx} {x:Str} {p pos:Pos} {e:Expr} {es:List Expr} {t:TA} {id T:String} {r:List V->Hp->VK->Prop}
noncomputable def tCB (r:List V->Hp->VK->Prop) (t:TA):TE:=fun σ H Q=>t σ H fun vs H1=>r vs H1 Q
theorem Zgx (hc:Zcm X (.builtin id) r) (hg:Gl X x) (hm:X.mg x=none) (hv:bootBuiltins x=some (.builtin id)) (ha:PA X (e :: es) t) (hn:x≠"__name__":=by decide) (hdb:(x == ("__debug__":Str))=false:=by decide)
  (he:starEach (e :: es) X.env=(false,eval e X.env) :: starEach es X.env:=by rfl) (hpl:(backTo pos (starEach es X.env)).any (·.1)=false:=by rfl):PE X (.Call (.Name x p) (e :: es) [] pos) (tCB r t):=by
 intro pins s σ H Q I h
 refine wpAny_Call_Name_kw (ZcE I hg hm hv ?_ hn hdb)
 exact PyProof.Rows.callWith_builtin1 (thn (ha pos pins s σ H _ I h) fun us s1 ⟨vs,H1,I1,r1,q1⟩=>hc pins s1 σ H1 vs us Q I1 r1 q1) he hpl
theorem ZhQ (hc:Zcm X (.type T) r) (hg:Gl X x) (hm:X.mg x=none) (hv:bootBuiltins x=some (.type T)) (ha:PA X (e :: es) t) (hn:x≠"__name__":=by decide) (hdb:(x == ("__debug__":Str))=false:=by decide)
  (he:starEach (e :: es) X.env=(false,eval e X.env) :: starEach es X.env:=by rfl) (hpl:(backTo pos (starEach es X.env)).any (·.1)=false:=by rfl):PE X (.Call (.Name x p) (e :: es) [] pos) (tCB r t):=by
 intro pins s σ H Q I h
 refine wpAny_Call_Name_kw (ZcE I hg hm hv ?_ hn hdb)
 exact PyProof.Rows.callWith_type1 (thn (ha pos pins s σ H _ I h) fun us s1 ⟨vs,H1,I1,r1,q1⟩=>hc pins s1 σ H1 vs us Q I1 r1 q1) he hpl
end
end L2
namespace HT
open PySem PyProof.Rows
noncomputable def Zb1:List Int->List Int->Bool
 | [],[]=>false
 | [],_ :: _=>true
 |_ :: _,[]=>false
 |x :: xs,y :: ys=>if x=y then Zb1 xs ys else decide (x < y)
theorem Zbh (x y:Int) (xs ys:List Int):Zb1 (x :: xs) (y :: ys)=if x=y then Zb1 xs ys else decide (x < y):=rfl
theorem Zjw (A:Around) (s:Shared) (a:Int) (t:Tok) (c:Int) (u:Tok): ∃ e,SeqAt.EqAt A s (.int a t) (.int c u) e/\(e=true ↔ a=c):=
 ⟨(a == c),SeqAt.EqAt.int_int a t c u,by simp⟩
theorem Zjx (A:Around) (s:Shared) (a:Int) (t:Tok) (c:Int) (u:Tok) (prog:Program) (w:World) (E:Value->Shared->Prop) (Q:Value->Shared->Prop) (h:Q (.bool (decide (a < c))) s):
  wpAny (model prog w) A (richCompare .Lt (.int a t) (.int c u)) Q E s:=
 (PyProof.Rows.lt_int h:wpAny (model prog w) A (compareOp .Lt (.int a t) (.int c u)) Q E s)
section
open PySem.SeqAt
open PySem.AutoSeq1 (wpAny_loadPart')
open PySem.MeetsSeq PySem.MeetsSeq2 PySem.MeetsSeq3
end
section
variable {prog:Program} {w:World} {A:Around} {E:Value->Shared->Prop} {s:Shared}
theorem Zln {t b:Addr} {vs ws:List Value} {Q:Value->Shared->Prop} (ht:IsTup s.heap t vs.toArray) (hb:IsTup s.heap b ws.toArray) (hv:vs≠[])
  (h1:ws=[]->Q (.ref t) s) (h2:ws≠[]->Q (.ref s.heap.objs.size) { s with heap:=s.heap.push { cls:= .type "tuple",data:= .seq (vs ++ ws).toArray } })
  (hsz:vs.length + ws.length<=sizeLine):wpAny (model prog w) A (binaryOp .Add (.ref t) (.ref b)) Q E s:=by
 obtain ⟨⟨cls,dd,data,sl⟩,ho,hc,n,hd⟩:=id ht
 obtain ⟨⟨cls2,dd2,data2,sl2⟩,ho2,hc2,n2,hd2⟩:=id hb
 simp only at hc hd hc2 hd2
 subst hc hd hc2 hd2
 have e:vs.toArray ++ ws.toArray=(vs ++ ws).toArray:=by simp
 by_cases hw:ws=[]
 ·exact concat_meets ⟨_,ho,rfl⟩ ⟨_,ho2,rfl⟩ noFill_tuple_add seq_tuple_add PySem.F.slot_tuple_add PySem.F.entry_tuple_add (PySem.F.args_tuple_add_2 _ _)
   (tuple_addW1 t b vs.toArray ws.toArray n n2 dd dd2 sl sl2 (by simpa using hv) (by simp[hw])) ⟨ho,ho2,h1 hw⟩
 ·refine concat_meets ⟨_,ho,rfl⟩ ⟨_,ho2,rfl⟩ noFill_tuple_add seq_tuple_add PySem.F.slot_tuple_add PySem.F.entry_tuple_add (PySem.F.args_tuple_add_2 _ _)
   (tuple_addW2 t b vs.toArray ws.toArray n n2 dd dd2 sl sl2 (by simpa using hv) (by simpa using hw) (by rw[List.size_toArray,List.size_toArray];exact hsz)) ⟨ho,ho2,?_⟩
  rw[e]
  exact h2 hw
noncomputable def sIx (n d:Nat):Option Int->Nat
 |none=>d
 |some v=>if v < 0 then (v + (n:Int)).toNat else min v.toNat n
theorem Znc (n d:Nat) (hd:d<=n) (o:Option Int):sIx n d o<=n:=by
 cases o with
 |none=>exact hd
 |some v=>
  show (if v < 0 then (v + (n:Int)).toNat else min v.toNat n)<=n
  by_cases hv:v < 0
  ·rw[if_pos hv];omega
  ·rw[if_neg hv];exact Nat.min_le_right _ _
theorem ZhR (v:Int) (n d:Nat):(if v < 0 then max (v + (n:Int)) 0 else min v (n:Int))=((sIx n d (some v):Nat):Int):=by
 show (if v < 0 then max (v + (n:Int)) 0 else min v (n:Int))=(((if v < 0 then (v + (n:Int)).toNat else min v.toNat n):Nat):Int)
 by_cases hv:v < 0
 ·simp only[if_pos hv];omega
 ·simp only[if_neg hv];omega
theorem Zg0 (lo hi:Option Int) (n:Nat):Builtin.Slice.sliceAdjust lo hi 1 (n:Int)=(((sIx n 0 lo:Nat):Int),((sIx n n hi:Nat):Int)):=by
 have h1: ¬ ((1:Int) < 0):=by omega
 unfold Builtin.Slice.sliceAdjust
 simp only[h1,if_false]
 refine Prod.ext ?_ ?_
 ·cases lo with
  |none=>rfl
  |some v=>exact ZhR v n 0
 ·cases hi with
  |none=>rfl
  |some v=>exact ZhR v n n
theorem Zg1 (i j:Nat):Builtin.Slice.slicePlaces (i:Int) (j:Int) 1=j - i:=by
 unfold Builtin.Slice.slicePlaces
 have h1:(1:Int) > 0:=by omega
 simp only[h1,if_true,Int.ediv_one]
 split<;>omega
theorem Zeg {v:Value} {o:Option Int} {Q:Option Int->Shared->Prop} (p:IsPart v o) (h:Q o s):wpAny (model prog w) A (Builtin.Slice.slicePartIndex v) Q E s:=by
 cases p with
 |none=>exact slicePart_none h
 |int i t=>exact slicePart_int h
theorem Zdq {sl:Addr} {vl vu:Value} {lo hi:Option Int} {n:Nat} {Q:Int × Int × Nat->Shared->Prop} (hs:s.heap.IsSliceOf sl vl vu .none) (pl:IsPart vl lo) (pu:IsPart vu hi)
  (h:Q (((sIx n 0 lo:Nat):Int),1,sIx n n hi - sIx n 0 lo) s):wpAny (model prog w) A (Builtin.Slice.sliceApplied (.ref sl) (pure (n:Int))) Q E s:=by
 obtain ⟨os,hos,hcs,hds⟩:=id hs
 unfold Builtin.Slice.sliceApplied Builtin.Slice.sliceFields
 refine wpAny_bind (wpAny_bind (wpAny_field hos hds (x:=vl) rfl (wpAny_bind (wpAny_field hos hds (x:=vu) rfl (wpAny_bind (wpAny_field hos hds (x:= .none) rfl (wpAny_pure ?_)))))))
 refine wpAny_bind (slicePart_none ?_)
 show wpAny _ _ (if ((1:Int) == 0)=true then _ else _) _ _ s
 rw[if_neg (by decide)]
 refine wpAny_bind (Zeg pl (wpAny_bind (Zeg pu (wpAny_bind (wpAny_pure ?_)))))
 show wpAny _ _ (match Builtin.Slice.sliceAdjust lo hi 1 (n:Int) with | (lo,hi)=>pure (lo,(1:Int),Builtin.Slice.slicePlaces lo hi 1)) _ _ s
 rw[Zg0 lo hi n]
 show wpAny _ _ (pure (((sIx n 0 lo:Nat):Int),(1:Int),Builtin.Slice.slicePlaces ((sIx n 0 lo:Nat):Int) ((sIx n n hi:Nat):Int) 1)) _ _ s
 rw[Zg1]
 exact wpAny_pure h
theorem Zjy (xs:Array Value) (i k:Nat):((List.range k).filterMap fun (m:Nat)=>xs[((i:Int) + (m:Int) * 1).toNat]?).toArray=((xs.toList.drop i).take k).toArray:=by
 have e:(fun (m:Nat)=>xs[((i:Int) + (m:Int) * 1).toNat]?)=fun m=>xs[i + m]?:=by
  funext m
  have:((i:Int) + (m:Int) * 1).toNat=i + m:=by omega
  rw[this]
 rw[e]
 have:=pick_run xs i k
 rw[List.filterMap_map] at this
 have e2:((fun x=>xs[x]?) ∘ fun x=>i + x)=fun m=>xs[i + m]?:=rfl
 rw[e2] at this
 rw[this]
theorem ZcW {t sl:Addr} {items:Array Value} {vl vu:Value} {lo hi:Option Int} {Q:Value->Shared->Prop} (ht:IsTup s.heap t items) (hs:s.heap.IsSliceOf sl vl vu .none) (pl:IsPart vl lo) (pu:IsPart vu hi)
  (hw: ¬ (sIx items.size 0 lo=0/\sIx items.size items.size hi=items.size))
  (h:Q (.ref s.heap.objs.size) { s with heap:=s.heap.push { cls:= .type "tuple",data:= .seq ((items.toList.drop (sIx items.size 0 lo)).take (sIx items.size items.size hi - sIx items.size 0 lo)).toArray } })
  (hsz:items.size<=sizeLine):wpAny (model prog w) A (getItem (.ref t) (.ref sl)) Q E s:=by
 have htake:sizeOk (.seq ((items.toList.drop (sIx items.size 0 lo)).take (sIx items.size items.size hi - sIx items.size 0 lo)).toArray):=by
  show ((items.toList.drop (sIx items.size 0 lo)).take (sIx items.size items.size hi - sIx items.size 0 lo)).toArray.size<=sizeLine
  rw[List.size_toArray,List.length_take,List.length_drop,Array.length_toList]
  omega
 have hj:sIx items.size items.size hi<=items.size:=Znc _ _ (Nat.le_refl _) hi
 obtain ⟨os,hos,hcs,hds⟩:=id hs
 have hTs:s.TypeIs (.ref sl) "slice":=⟨os,hos,hcs⟩
 unfold getItem
 try with_reducible refine wpAny_holding ?_
 first | refine wpAny_bind (wpAny_pure ?_) | skip
 refine wpAny_bind (wpAny_sequenceKey ht.typeIs (by decide) ?_)
 refine wpAny_bind (wpAny_callSpecial?_slot (name:=Str.ofString "__getitem__") ht.typeIs PyProof.Rows.slot_tuple_getitem
  (wpAny_call_entry PyProof.Rows.slot_tuple_getitem ht.typeIs entry_tuple_getitem ?_ (args_tuple_getitem _ _)))
 show wpAny _ _ (Builtin.Tuple.tupleItemsOf (.ref t) >>= _) _ _ s
 refine wpAny_bind (tupleItemsOf_ ht ?_)
 refine wpAny_bind (wpAny_typeOf hTs ?_)
 rw[if_pos (by decide)]
 refine wpAny_bind (Zdq hs pl pu ?_)
 have hno: ¬ ((((sIx items.size 0 lo:Nat):Int) == 0 && (1:Int) == 1 && (sIx items.size items.size hi - sIx items.size 0 lo) == items.size)=true):=by
  intro q
  rw[Bool.and_eq_true,Bool.and_eq_true] at q
  have q1:((sIx items.size 0 lo:Nat):Int)=0:=eq_of_beq q.1.1
  have q2:sIx items.size items.size hi - sIx items.size 0 lo=items.size:=eq_of_beq q.2
  exact hw ⟨by omega,by omega⟩
 show wpAny _ _ (if (((sIx items.size 0 lo:Nat):Int) == 0 && (1:Int) == 1 && (sIx items.size items.size hi - sIx items.size 0 lo) == items.size)=true then _ else _) _ _ s
 rw[if_neg hno,Zjy]
 first
  |exact wpAny_bind (m:=Builtin.Tuple.tupleExact _) (wpAny_newObj_type (wpAny_pure ⟨_,rfl,wpAny_pure h⟩) htake)
  |exact wpAny_bind (m:=Builtin.Tuple.tupleExact _) (wpAny_newObj_type (wpAny_bind (wpAny_pure (wpAny_pure ⟨_,rfl,wpAny_pure h⟩))) htake)
  |exact wpAny_bind (wpAny_bind (m:=Builtin.Tuple.tupleExact _) (wpAny_newObj_type (wpAny_pure (wpAny_pure ⟨_,rfl,wpAny_pure h⟩)) htake))
  |exact wpAny_bind (wpAny_bind (m:=Builtin.Tuple.tupleExact _) (wpAny_newObj_type (wpAny_pure ⟨_,rfl,wpAny_pure h⟩) htake))
end
end HT
namespace L2
open PySem PySem.Spec PyProof.Rows
noncomputable abbrev TO:=St->Hp->(Option Int->Hp->Prop)->Prop
noncomputable def PO (X:Cx) (e:Option Expr) (t:TO):Prop:=
 ∀ (pins:List (Addr × Obj)) (s:Shared) (σ:St) (H:Hp) (Q:Option Int->Hp->Prop),Inv X pins σ H s->t σ H Q->
  wpAny (model X.prog X.w) X.A (evalPart e X.env) (fun u s'=> ∃ o H',Inv X pins σ H' s'/\IsPart u o/\Q o H') X.xe s
noncomputable def tNoPart:TO:=fun _ H Q=>Q none H
noncomputable def Zqc (t:TE):TO:=fun σ H Q=>t σ H fun x H1=> ∃ i,x= .int i/\Q (some i) H1
theorem Zg2 {ns:List Int}: ∀ {us:List Value},Zam (ns.map V.int) us->IntsAre us ns:=by
 induction ns with
 |nil=>intro us r;rw[List.map_nil] at r;cases r;exact .nil
 |cons n ns ih=>
  intro us r
  rw[List.map_cons] at r
  cases r with
  |cons r1 r2=>
   obtain ⟨t,e⟩:=r1
   subst e
   exact .cons n t (ih r2)
section
variable {X:Cx} {e:Expr} {te:TE} {lo hi:Option Expr} {tl th:TO} {pos p2:Pos}
theorem Zlo:PO X none tNoPart:=by
 intro pins s σ H Q I h
 rw[evalPart_none]
 exact wpAny_pure ⟨none,H,I,.none,h⟩
theorem Zlp (h:PE X e te):PO X (some e) (Zqc te):=by
 intro pins s σ H Q I hw
 rw[evalPart_some]
 refine thn (h pins s σ H _ I hw) fun u s1 ⟨x,H1,I1,r1,q1⟩=> ?_
 obtain ⟨i,rfl,q⟩:=q1
 obtain ⟨t,rfl⟩:=r1
 exact ⟨some i,H1,I1,.int i t,q⟩
noncomputable def SlR (X:Cx) (r:V->Option Int->Option Int->Hp->VK->Prop):Prop:=
 ∀ (pins:List (Addr × Obj)) (s:Shared) (σ:St) (H:Hp) (x:V) (v vl vu:Value) (lo hi:Option Int) (sl:Addr) (Q:VK),Inv X pins σ H s->Zax x v->s.heap.IsSliceOf sl vl vu .none->IsPart vl lo->IsPart vu hi->r x lo hi H Q->
  ∃ T id,typeLookup (.type T) "__getitem__"=pure (some (.builtin id))/\s.TypeIs v T/\wpAny (model X.prog X.w) X.A (getItem v (.ref sl)) (EP X pins σ Q) X.xe s
theorem SlR.or {r r':V->Option Int->Option Int->Hp->VK->Prop} (h:SlR X r) (h':SlR X r'):SlR X (fun x lo hi H Q=>r x lo hi H Q\/r' x lo hi H Q):=by
 intro pins s σ H x v vl vu lo hi sl Q I rx hs pl pu q
 rcases q with q | q
 ·exact h pins s σ H x v vl vu lo hi sl Q I rx hs pl pu q
 ·exact h' pins s σ H x v vl vu lo hi sl Q I rx hs pl pu q
noncomputable def tSl (r:V->Option Int->Option Int->Hp->VK->Prop) (te:TE) (tl th:TO):TE:=fun σ H Q=>te σ H fun x H1=>tl σ H1 fun l H2=>th σ H2 fun u H3=>r x l u H3 Q
theorem Zjz {r:V->Option Int->Option Int->Hp->VK->Prop} (hr:SlR X r) (he:PE X e te) (hl:PO X lo tl) (hu:PO X hi th):PE X (.Subscript e (.Slice lo hi none p2) pos) (tSl r te tl th):=by
 intro pins s σ H Q I h
 refine Subscript_ (thn (he pins s σ H _ I h) fun v s1 ⟨x,H1,I1,r1,q1⟩=> ?_)
 refine wpAny_Slice (thn (hl pins s1 σ H1 _ I1 q1) fun vl s2 ⟨l,H2,I2,pl,q2⟩=>thn (hu pins s2 σ H2 _ I2 q2) fun vu s3 ⟨u,H3,I3,pu,q3⟩=> ?_)
 rw[evalPart_none]
 refine wpAny_pure ?_
 have I4:Inv X pins σ H3 { s3 with heap:=s3.heap.push { cls:= .type "slice",data:= .fields #[vl,vu,.none] } }:=I3.kept (t':=s3.toks) fun b ob q=>Heap.get?_push_of_some _ q
 obtain ⟨T,id,hT,ht,hg⟩:=hr pins { s3 with heap:=s3.heap.push { cls:= .type "slice",data:= .fields #[vl,vu,.none] } } σ H3 x v vl vu l u s3.heap.objs.size Q I4 r1 (Heap.IsSliceOf.new ..) pl pu q3
 show wpAny (model X.prog X.w) X.A (subscriptTail e (.Slice lo hi none p2) v (.ref s3.heap.objs.size)) (EP X pins σ Q) X.xe { s3 with heap:=s3.heap.push { cls:= .type "slice",data:= .fields #[vl,vu,.none] } }
 exact tail_any (ops:=[.ref s3.heap.objs.size,v]) ht hT hg (by with_unfolding_all rfl)
noncomputable def Zku (xs:List V) (lo hi:Option Int):List V:=(xs.drop (HT.sIx xs.length 0 lo)).take (HT.sIx xs.length xs.length hi - HT.sIx xs.length 0 lo)
theorem ZdI (xs:List V) (lo hi:Option Int):(Zku xs lo hi).length<=xs.length:=by
 unfold Zku
 rw[List.length_take,List.length_drop]
 omega
noncomputable def Zta (K:PySem.W.Frag):V->Option Int->Option Int->Hp->VK->Prop:=fun x lo hi H Q=> ∃ a xs,x= .ref a/\SqT K H a xs/\
 ¬ (HT.sIx xs.length 0 lo=0/\HT.sIx xs.length xs.length hi=xs.length)/\ ∀ p,H p=none->Q (.ref p) (upd H p (.tup (Zku xs lo hi)))
theorem Znd:SlR X (Zta X.K):=by
 intro pins s σ H x v vl vu lo hi sl Q I rx hs pl pu h
 obtain ⟨a,xs,rfl,hx,hw,q⟩:=h
 cases rx
 obtain ⟨its,r,ht,hz⟩:=I.tuple hx
 have hlen:its.toArray.size=xs.length:=by rw[List.size_toArray];exact r.length.symm
 refine ⟨"tuple",_,PyProof.Rows.slot_tuple_getitem.lookup,ht.typeIs,?_⟩
 refine HT.ZcW ht hs pl pu (by rw[hlen];exact hw) ?_ (by rw[hlen];exact hz)
 rw[hlen]
 refine ⟨.ref s.heap.objs.size,_,I.laid (t':=s.toks) (o:= .tup (Zku xs lo hi)) (fun b ob q=>Heap.get?_push_of_some _ q) (Nat.le_refl _) ?_,rfl,q _ (I.hok.fresh (Nat.le_refl _))⟩
 exact ⟨Nat.le_trans (ZdI xs lo hi) hz,_,(r.drop (HT.sIx xs.length 0 lo)).take (HT.sIx xs.length xs.length hi - HT.sIx xs.length 0 lo),IsTup.new _ _⟩
noncomputable def Zlq (K:PySem.W.Frag):R2:=fun x y H Q=> ∃ a b xs ys,x= .ref a/\y= .ref b/\SqT K H a xs/\SqT K H b ys/\xs≠[]/\xs.length + ys.length<=sizeLine/\
 (ys=[]->Q (.ref a) H)/\(ys≠[]-> ∀ p,H p=none->Q (.ref p) (upd H p (.tup (xs ++ ys))))
theorem Zam.nil_iff {xs:List V} {us:List Value} (r:Zam xs us):us=[] ↔ xs=[]:=by
 cases r with
 |nil=>simp
 |cons _ _=>simp
theorem Zlr:OpR X (binaryOp .Add) (Zlq X.K):=by
 intro pins s σ H x y v u Q I rx ry h
 obtain ⟨a,b,xs,ys,rfl,rfl,ha,hb,hx,hz,q1,q2⟩:=h
 cases rx
 cases ry
 obtain ⟨its,r1,p1,_⟩:=I.tuple ha
 obtain ⟨its2,r2,p2,_⟩:=I.tuple hb
 refine HT.Zln p1 p2 (fun z=>hx (r1.nil_iff.mp z)) (fun z=>⟨.ref a,H,I,rfl,q1 (r2.nil_iff.mp z)⟩) (fun z=> ?_) (by rw[<- r1.length,<- r2.length];exact hz)
 refine ⟨.ref s.heap.objs.size,_,I.laid (t':=s.toks) (o:= .tup (xs ++ ys)) (fun b ob q=>Heap.get?_push_of_some _ q) (Nat.le_refl _) ?_,rfl,q2 (fun w=>z (r2.nil_iff.mpr w)) _ (I.hok.fresh (Nat.le_refl _))⟩
 exact ⟨by rw[List.length_append];exact hz,_,r1.append r2,IsTup.new _ _⟩
end
end L2
namespace L2
open PySem PySem.Spec PyProof.Rows
noncomputable def ixN (n:Nat) (i:Int):Option Nat:=if 0<=i then (if i < n then some i.toNat else none) else if -(n:Int)<=i then some (i + n).toNat else none
noncomputable def atI {α:Type} (xs:List α) (i:Int):Option α:=(ixN xs.length i).bind fun j=>xs[j]?
theorem Zls {n:Nat} {i:Int} {j:Nat} (h:ixN n i=some j):seqIndex? i n=some j/\j < n/\ -(n:Int)<=i/\i < n:=by
 unfold ixN at h
 by_cases h0:0<=i
 ·rw[if_pos h0] at h
  by_cases h1:i < n
  ·rw[if_pos h1] at h
   have e:i.toNat=j:=Option.some.inj h
   exact ⟨by rw[seqIndex_of h0 h1,e],by omega,by omega,h1⟩
  ·rw[if_neg h1] at h;cases h
 ·rw[if_neg h0] at h
  by_cases h1: -(n:Int)<=i
  ·rw[if_pos h1] at h
   have e:(i + n).toNat=j:=Option.some.inj h
   exact ⟨by rw[seqIndex_neg (by omega) h1,e],by omega,h1,by omega⟩
  ·rw[if_neg h1] at h;cases h
theorem ZhS {α:Type} {xs:List α} {i:Int} {v:α} (h:atI xs i=some v): ∃ j,seqIndex? i xs.length=some j/\xs[j]?=some v/\j < xs.length/\ -(xs.length:Int)<=i/\i < xs.length:=by
 unfold atI at h
 cases e:ixN xs.length i with
 |none=>rw[e] at h;cases h
 |some j=>
  rw[e] at h
  obtain ⟨h1,h2,h3,h4⟩:=Zls e
  exact ⟨j,h1,h,h2,h3,h4⟩
theorem Zlt {α:Type} {xs:List α} {j:Nat} {v:α} (h:xs[j]?=some v):atI xs (j:Int)=some v:=by
 have hj:j < xs.length:=(List.getElem?_eq_some_iff.mp h).1
 have e:ixN xs.length (j:Int)=some j:=by
  unfold ixN
  rw[if_pos (by omega),if_pos (by omega)];simp
 unfold atI;rw[e];exact h
noncomputable def ZhT (b:Expr):Prop:= ∀ o i,subscripted b false o i=operate [o,i] (getItem o i)
noncomputable def IxR (X:Cx) (r:R2):Prop:=
 ∀ (value slice:Expr) (pins:List (Addr × Obj)) (s:Shared) (σ:St) (H:Hp) (x y:V) (v u:Value) (Q:VK),Inv X pins σ H s->Zax x v->Zax y u->r x y H Q->
  subscripted slice false v u=operate [v,u] (getItem v u)->wpAny (model X.prog X.w) X.A (subscriptTail value slice v u) (EP X pins σ Q) X.xe s
noncomputable def MtR (X:Cx) (id:String) (r:V->List V->Hp->VK->Prop):Prop:=
 ∀ (pins:List (Addr × Obj)) (s:Shared) (σ:St) (H:Hp) (x:V) (xs:List V) (v:Value) (us:List Value) (Q:VK),Inv X pins σ H s->Zax x v->Zam xs us->r x xs H Q->
  wpAny (model X.prog X.w) X.A (call (.builtin id) (v :: us)) (EP X pins σ Q) X.xe s
section
variable {X:Cx} {a b:Expr} {ta tb:TE} {pos:Pos}
theorem IxR.or {r r':R2} (h:IxR X r) (h':IxR X r'):IxR X (fun x y H Q=>r x y H Q\/r' x y H Q):=by
 intro value slice pins s σ H x y v u Q I rx ry q hs
 rcases q with q | q
 ·exact h value slice pins s σ H x y v u Q I rx ry q hs
 ·exact h' value slice pins s σ H x y v u Q I rx ry q hs
theorem Zqd {r:R2} (hr:IxR X r) (ha:PE X a ta) (hb:PE X b tb) (hs:ZhT b):PE X (.Subscript a b pos) (tOp r ta tb):=by
 intro pins s σ H Q I h
 exact Subscript_ (Zp6 ha hb I h fun v u s2 x y H2 I2 rx ry q=>hr a b pins s2 σ H2 x y v u Q I2 rx ry q (hs _ _))
noncomputable def ZrY (K:PySem.W.Frag):R2:=fun x y H Q=> ∃ p xs i v,x= .ref p/\y= .int i/\SqL K H p xs/\atI xs i=some v/\Q v H
noncomputable def ZrZ (K:PySem.W.Frag):R2:=fun x y H Q=> ∃ p xs i v,x= .ref p/\y= .int i/\SqT K H p xs/\atI xs i=some v/\Q v H
theorem Zlu:IxR X (ZrY X.K):=by
 intro value slice pins s σ H x y v u Q I rx ry h hs
 obtain ⟨p,xs,i,z,rfl,rfl,hq,he,q⟩:=h
 cases rx
 obtain ⟨t,rfl⟩:=ry
 obtain ⟨its,r,pl,hz⟩:=I.list hq
 obtain ⟨j,h1,h2,h3,h4,h5⟩:=ZhS he
 obtain ⟨w,ew,rw'⟩:=r.get h2
 have hl:=r.length
 have hn:=ZhL
 have fin:EP X pins σ Q w s:=⟨z,H,I,rw',q⟩
 by_cases h0:0<=i
 ·have hj:i.toNat=j:=by
   rw[seqIndex_of h0 h5] at h1
   exact Option.some.inj h1
  exact item_listR pl.isList h0 (by omega) (by rw[hj];simpa using ew) fin hs
 ·have hj:(i + (its.toArray.size:Int)).toNat=j:=by
   rw[seqIndex_neg (by omega) h4] at h1
   rw[List.size_toArray,<- hl]
   exact Option.some.inj h1
  exact subscriptTail_builtinR (x:=w) pl.isList.typeIs slot_list_getitem.lookup
   (wpAny_getItem_list_neg (Q:=fun r s'=>r=w/\EP X pins σ Q r s') pl.isList (by omega) (by rw[List.size_toArray]<;>omega) (by omega) (by rw[hj];simpa using ew) ⟨rfl,fin⟩) hs
theorem Zne:IxR X (ZrZ X.K):=by
 intro value slice pins s σ H x y v u Q I rx ry h hs
 obtain ⟨p,xs,i,z,rfl,rfl,hq,he,q⟩:=h
 cases rx
 obtain ⟨t,rfl⟩:=ry
 obtain ⟨its,r,pl,hz⟩:=I.tuple hq
 obtain ⟨j,h1,h2,h3,h4,h5⟩:=ZhS he
 obtain ⟨w,ew,rw'⟩:=r.get h2
 have hl:=r.length
 have hn:=ZhL
 have fin:EP X pins σ Q w s:=⟨z,H,I,rw',q⟩
 exact subscriptTail_builtinR (x:=w) pl.typeIs slot_tuple_getitem.lookup
  (getItem_tuple (j:=j) (Q:=fun r s'=>r=w/\EP X pins σ Q r s') pl (by omega) (by omega) (by rw[List.size_toArray,<- hl];exact h1) (by simpa using ew) ⟨rfl,fin⟩) hs
theorem Zfd (lo hi:Option Int) (n:Nat):(sliceBounds lo hi none n).1=((HT.sIx n 0 lo:Nat):Int)/\(sliceBounds lo hi none n).2.1=((HT.sIx n n hi:Nat):Int)/\(sliceBounds lo hi none n).2.2=1:=by
 refine ⟨?_,?_,rfl⟩
 ·cases lo with
  |none=>simp[sliceBounds,HT.sIx]
  |some i=>
   simp only[sliceBounds,HT.sIx,Option.getD_none,show (1:Int) > 0 by decide,if_true]
   by_cases h:i < 0
   ·simp only[h,if_true]<;>omega
   ·simp only[h,if_false]<;>omega
 ·cases hi with
  |none=>simp[sliceBounds,HT.sIx]
  |some i=>
   simp only[sliceBounds,HT.sIx,Option.getD_none,show (1:Int) > 0 by decide,if_true]
   by_cases h:i < 0
   ·simp only[h,if_true]<;>omega
   ·simp only[h,if_false]<;>omega
theorem Zeq (its:List Value) (lo hi:Option Int):slicePick its.toArray lo hi none=((its.drop (HT.sIx its.length 0 lo)).take (HT.sIx its.length its.length hi - HT.sIx its.length 0 lo)).toArray:=by
 obtain ⟨h1,h2,h3⟩:=Zfd lo hi its.toArray.size
 unfold slicePick
 rw[h1,h2,h3]
 simp only[sliceRange_one,pick_run,List.size_toArray]<;>rfl
noncomputable def Ztb (K:PySem.W.Frag):V->Option Int->Option Int->Hp->VK->Prop:=fun x lo hi H Q=> ∃ a xs,x= .ref a/\SqL K H a xs/\ ∀ p,H p=none->Q (.ref p) (upd H p (.lst (Zku xs lo hi)))
theorem Zlv:SlR X (Ztb X.K):=by
 intro pins s σ H x v vl vu lo hi sl Q I rx hs pl pu h
 obtain ⟨a,xs,rfl,hx,q⟩:=h
 cases rx
 obtain ⟨its,r,ht,hz⟩:=I.list hx
 have hlen:=r.length
 refine ⟨"list",_,slot_list_getitem.lookup,ht.isList.typeIs,?_⟩
 refine wpAny_getItem_list_slice ht.isList hs pl pu .none (by simp) ?_ (by rw[List.size_toArray]<;>omega)
 rw[Zeq,<- hlen]
 refine ⟨.ref s.heap.objs.size,_,I.laid (t':=s.toks) (o:= .lst (Zku xs lo hi)) (fun b ob q=>Heap.get?_push_of_some _ q) (Nat.le_refl _) ?_,rfl,q _ (I.hok.fresh (Nat.le_refl _))⟩
 exact ⟨Nat.le_trans (ZdI xs lo hi) hz,_,0,(r.drop (HT.sIx xs.length 0 lo)).take (HT.sIx xs.length xs.length hi - HT.sIx xs.length 0 lo),Heap.get?_push_size _ rfl⟩
theorem Zl:Zcm X (.builtin "len") (fun xs H Q=> ∃ p ys,xs=[.ref p]/\(SqL X.K H p ys\/SqT X.K H p ys)/\Q (.int ys.length) H):=by
 intro pins s σ H xs us Q I r h
 obtain ⟨p,ys,rfl,hq,q⟩:=h
 obtain ⟨u,rfl,rx⟩:=ZcV r
 cases rx
 have hn:=ZhL
 rcases hq with hq | hq
 ·obtain ⟨its,r',pl,hz⟩:=I.list hq
  have hlen:=r'.length
  exact Calls.call_len_list pl.isList (by simp only[List.size_toArray]<;>omega) ⟨.int ys.length,H,I.tok _,⟨s.toks + 1,by rw[List.size_toArray,hlen]⟩,q⟩
 ·obtain ⟨its,r',pl,hz⟩:=I.tuple hq
  have hlen:=r'.length
  exact len_tuple pl (by simp only[List.size_toArray]<;>omega) ⟨.int ys.length,H,I.tok _,⟨s.toks + 1,by rw[List.size_toArray,hlen]⟩,q⟩
theorem ZbA:Zcm X (.type "list") (fun xs H Q=> ∃ p ys,xs=[.ref p]/\(SqL X.K H p ys\/SqT X.K H p ys)/\ ∀ l,H l=none->Q (.ref l) (upd H l (.lst ys))):=by
 intro pins s σ H xs us Q I r h
 obtain ⟨p,ys,rfl,hq,q⟩:=h
 obtain ⟨u,rfl,rx⟩:=ZcV r
 cases rx
 have fin: ∀ (its:List Value),Zam ys its->ys.length<=sizeLine-> ∀ (h':Heap) (c':Nat),(∀ b o',s.heap.get? b=some o'->h'.get? b=some o')->
   h'.get? s.heap.objs.size=some { cls:= .type "list",dict:=none,data:= .seq its.toArray c',slots:= #[] }->EP X pins σ Q (.ref s.heap.objs.size) { s with heap:=h' }:=fun its r' hz h' c' kp e=>
  ⟨.ref s.heap.objs.size,_,I.laid (t':=s.toks) kp (Nat.le_refl _) (show Zcy X.prog X.w _ h' _ (.lst ys) from ⟨hz,its,c',r',e⟩),rfl,q _ (I.hok.fresh (Nat.le_refl _))⟩
 rcases hq with hq | hq
 ·obtain ⟨its,r',pl,hz⟩:=I.list hq
  have hlen:=r'.length
  obtain ⟨o,ho,hc,n,hd⟩:=pl.isList
  exact call_list_seq p (.inl rfl) ho hc hd (fun h' c' kp e=>fin its r' hz h' c' kp e) (by simp only[List.size_toArray]<;>omega)
 ·obtain ⟨its,r',pl,hz⟩:=I.tuple hq
  have hlen:=r'.length
  obtain ⟨o,ho,hc,n,hd⟩:=pl
  exact call_list_seq p (.inr rfl) ho hc hd (fun h' c' kp e=>fin its r' hz h' c' kp e) (by simp only[List.size_toArray]<;>omega)
theorem Zan:Zcm X (.type "tuple") (fun xs H Q=> ∃ p ys,xs=[.ref p]/\((SqL X.K H p ys/\ ∀ l,H l=none->Q (.ref l) (upd H l (.tup ys)))\/(SqT X.K H p ys/\Q (.ref p) H))):=by
 intro pins s σ H xs us Q I r h
 obtain ⟨p,ys,rfl,h⟩:=h
 obtain ⟨u,rfl,rx⟩:=ZcV r
 cases rx
 rcases h with ⟨hq,q⟩ | ⟨hq,q⟩
 ·obtain ⟨its,r',pl,hz⟩:=I.list hq
  have hlen:=r'.length
  refine call_tuple_list pl.isList (fun h' kp=> ?_) (by simp only[List.size_toArray]<;>omega)
  have I1:Inv X pins σ H { s with heap:=h' }:=I.kept (t':=s.toks) kp
  have I2:Inv X pins σ (upd H h'.objs.size (.tup ys)) { s with heap:=h'.push { cls:= .type "tuple",data:= .seq its.toArray } }:=
   I1.laid (t':=s.toks) (fun b o e=>Heap.get?_push_of_some _ e) (Nat.le_refl _) (show Zcy X.prog X.w _ _ _ (.tup ys) from ⟨hz,its,r',IsTup.new _ _⟩)
  exact ⟨.ref h'.objs.size,_,I2,rfl,q _ (I1.hok.fresh (Nat.le_refl _))⟩
 ·obtain ⟨its,r',pl,hz⟩:=I.tuple hq
  exact call_tuple_same pl ⟨.ref p,H,I,rfl,q⟩
noncomputable def tyV (K:PySem.W.Frag) (T:String) (x:V) (H:Hp):Prop:=match x with
 | .str _=>T="str"
 | .int _=>T="int"
 | .ref p=>(T="list"/\ ∃ xs,SqL K H p xs)\/(T="tuple"/\ ∃ o,K.lookup p=some o/\o.cls= .type "tuple"/\o.dict=none)\/
   (T="dict"/\((∃ kvs,H p=some (.dK kvs))\/ ∃ kvs,H p=some (.dT kvs)))\/(T="set"/\ ∃ S n,H p=some (.set S n))
 |_=>False
theorem Znf {pins:List (Addr × Obj)} {σ:St} {H:Hp} {s:Shared} {T:String} {x:V} {v:Value} (I:Inv X pins σ H s) (r:Zax x v) (ty:tyV X.K T x H):
  s.TypeIs v T/\ ∀ a,v= .ref a-> ∃ ob,s.heap.get? a=some ob/\ob.dict=none:=by
 cases x with
 |str z=>
  obtain ⟨t,rfl⟩:=r
  cases (show T="str" from ty)
  exact ⟨typeIs_str s z t,fun _ e=>nomatch e⟩
 |int i=>
  obtain ⟨t,rfl⟩:=r
  cases (show T="int" from ty)
  exact ⟨typeIs_int s i t,fun _ e=>nomatch e⟩
 |ref p=>
  cases r
  rcases ty with ⟨rfl,xs,hq⟩ | ⟨rfl,o,hk,hc,hd⟩ | ⟨rfl,hk⟩ | ⟨rfl,S,n,hk⟩
  ·obtain ⟨its,_,pl,_⟩:=I.list hq
   refine ⟨pl.isList.typeIs,fun a e=> ?_⟩
   cases e
   obtain ⟨o,n,e,c,hd,_⟩:=pl
   exact ⟨o,e,hd⟩
  ·refine ⟨⟨o,I.kIn p o hk,hc⟩,fun a e=> ?_⟩
   cases e
   exact ⟨o,I.kIn _ o hk,hd⟩
  ·have z: ∃ o,s.heap.get? p=some o/\o.ExactDict:=by
    rcases hk with ⟨kvs,hk⟩ | ⟨kvs,hk⟩
    ·obtain ⟨_,_,_,_,o,_,_,e,ex,_⟩:=I.hok p _ hk
     exact ⟨o,e,ex⟩
    ·obtain ⟨_,_,_,_,o,_,_,e,ex,_⟩:=I.hok p _ hk
     exact ⟨o,e,ex⟩
   obtain ⟨o,e,ex⟩:=z
   refine ⟨⟨o,e,ex.1⟩,fun a e2=> ?_⟩
   cases e2
   exact ⟨o,e,ex.2.1⟩
  ·obtain ⟨o,_,_,_,e,ex,_⟩:=I.hok p _ hk
   refine ⟨⟨o,e,ex.1⟩,fun a e2=> ?_⟩
   cases e2
   exact ⟨o,e,ex.2.1⟩
 |_=>exact False.elim ty
noncomputable def tBM (K:PySem.W.Frag) (T:String) (r:V->List V->Hp->VK->Prop) (to:TE) (t:TA):TE:=fun σ H Q=>to σ H fun x H1=>tyV K T x H1/\t σ H1 fun xs H2=>r x xs H2 Q
variable {o e:Expr} {es:List Expr} {to:TE} {t:TA} {name:Str} {apos cpos:Pos} {T id:String} {r:V->List V->Hp->VK->Prop}
theorem Zqe (pa:PlainAttrs T) (slot:Slot T name id) (hty:typeOf (.builtin id)=pure (.type "method_descriptor")) (hm:MtR X id r) (ho:PE X o to) (ha:PA X (e :: es) t)
  (hbase:attributeBase o name X.env (eval o X.env)=eval o X.env:=by rfl)
  (hfew:((backTo cpos (starEach (e :: es) X.env)).all (fun x=> !x.1) && (backToKw cpos (keywordEach [] X.env)).all (fun x=>x.1.isSome)
   && decide ((e :: es).length + ([]:List Keyword).length + (if ([]:List Keyword).isEmpty then 0 else 1) < 30))=true:=by rfl)
  (hline:(apos.endLine == cpos.line)=true:=by rfl) (hs:starEach (e :: es) X.env=(false,eval e X.env) :: starEach es X.env:=by rfl) (hplain:(backTo cpos (starEach es X.env)).any (·.1)=false:=by rfl):
  PE X (.Call (.Attribute o name apos) (e :: es) [] cpos) (tBM X.K T r to t):=by
 intro pins s σ H Q I h
 refine wpAny_Call_method_late hbase hfew hline rfl (thn (ho pins s σ H _ I h) fun v s1 ⟨x,H1,I1,r1,ty,q1⟩=> ?_)
 obtain ⟨h1,h2⟩:=Znf I1 r1 ty
 refine ⟨T,id,pa,slot,hty,h1,h2,?_⟩
 have hA:=ha cpos pins s1 σ H1 _ I1 q1
 rw[hs] at hA ⊢
 refine Calls.callWith_builtin (by show (false || (backTo cpos (starEach es X.env)).any (·.1))=false;rw[hplain]<;>rfl) (Calls.evalArgs_plain ?_)
 exact thn hA fun us s2 ⟨vs,H2,I2,r2,q2⟩=>hm pins s2 σ H2 x vs v us Q I2 r1 r2 q2
end
end L2
namespace L2
open PySem PySem.Spec PyProof.Rows
noncomputable def MtM (X:Cx) (id:String) (r:V->List V->Hp->VK->Prop):Prop:=
 ∀ (pins:List (Addr × Obj)) (s:Shared) (σ:St) (H:Hp) (x:V) (xs:List V) (v:Value) (us:List Value) (Q:VK),Inv X pins σ H s->Zax x v->Zam xs us->r x xs H Q->
  wpAny (model X.prog X.w) X.A (call (.builtin id) (v :: us)) (EP X pins σ Q) X.xe s
theorem Zam.one: ∀ {x:V} {us:List Value},Zam [x] us-> ∃ u,us=[u]/\Zax x u
 |_,_,.cons r .nil=>⟨_,rfl,r⟩
theorem Zam.reverse {xs:List V} {us:List Value} (h:Zam xs us):Zam xs.reverse us.reverse:=by
 induction h with
 |nil=>exact .nil
 |cons r t ih=>rw[List.reverse_cons,List.reverse_cons];exact Zam.append ih (.cons r .nil)
section
variable {X:Cx} {pins:List (Addr × Obj)} {σ:St} {H:Hp} {s:Shared} {l b:Addr} {xs ys zs:List V}
theorem Inv.lset {its its':List Value} {n:Nat} {f:Array Value->Array Value} {t':Nat} (I:Inv X pins σ H s) (hH:H l=some (.lst xs))
  (e:s.heap.get? l=some { cls:= .type "list",data:= .seq its.toArray n }) (hf:f its.toArray=its'.toArray) (hv:Zam ys its') (hz:ys.length<=sizeLine):
  Inv X pins σ (upd H l (.lst ys)) { s with heap:=s.heap.update l (Obj.mapSeq f),toks:=t' }:=by
 have q:=PySem.IsL.update e f
 rw[hf] at q
 refine I.write (x:=l) (e:=l) (by rw[hH];exact trivial) (.inl rfl) (fun b' u hb hu=>(Heap.get?_update_other s.heap (Obj.mapSeq f) (Ne.symm hb)).trans hu) ⟨_,q⟩ ?_
 exact ⟨hz,its',_,hv,q⟩
theorem Inv.lnew {its:List Value} {t':Nat} (I:Inv X pins σ H s) (hv:Zam ys its) (hz:ys.length<=sizeLine):
  Inv X pins σ (upd H s.heap.objs.size (.lst ys)) { s with heap:=s.heap.push { cls:= .type "list",data:= .seq its.toArray },toks:=t' }:=
 I.laid (fun _ _ q=>Heap.get?_push_of_some _ q) (Nat.le_refl _) ⟨hz,its,0,hv,Heap.get?_push_size _ rfl⟩
theorem Inv.fresh (I:Inv X pins σ H s):H s.heap.objs.size=none:=I.hok.fresh (Nat.le_refl _)
theorem Inv.lstM (I:Inv X pins σ H s) (hH:H l=some (.lst xs)):xs.length<=sizeLine/\ ∃ (its:List Value) (n:Nat),Zam xs its/\xs.length=its.length/\s.heap.get? l=some { cls:= .type "list",data:= .seq its.toArray n }:=by
 obtain ⟨z,its,n,r,e⟩:=I.hok l _ hH
 exact ⟨z,its,n,r,r.length,e⟩
theorem ZjA {n:Nat} (h:n<=sizeLine):Builtin.List.listTooLong n=false:=by
 unfold Builtin.List.listTooLong
 exact decide_eq_false (by omega)
end
section
variable {X:Cx}
noncomputable def rAppend:V->List V->Hp->VK->Prop:=fun x vs H Q=> ∃ l xs y,x= .ref l/\vs=[y]/\H l=some (.lst xs)/\xs.length < sizeLine/\Q .non (upd H l (.lst (xs ++ [y])))
theorem Zfe:MtM X "list.append" rAppend:=by
 intro pins s σ H x vs v us Q I rx rv h
 obtain ⟨l,xs,y,rfl,rfl,hH,hz,q⟩:=h
 cases rx
 obtain ⟨u,rfl,ru⟩:=rv.one
 obtain ⟨z,its,n,r,hl,e⟩:=I.lstM hH
 refine call_meets F.slot_list_append ⟨_,e,rfl⟩ F.entry_list_append (F.args_list_append_2 _ _) (PySem.list_append l its.toArray n u (by rw[List.size_toArray];omega)) ⟨e,?_⟩
 refine ⟨.non,_,I.lset (its':=its ++ [u]) hH e (by simp) (r.append (.cons ru .nil)) ?_,rfl,q⟩
 rw[List.length_append,List.length_singleton]
 omega
noncomputable def rExtend:V->List V->Hp->VK->Prop:=fun x vs H Q=> ∃ l b xs zs,x= .ref l/\vs=[.ref b]/\H l=some (.lst xs)/\H b=some (.lst zs)/\xs.length + zs.length<=sizeLine/\Q .non (upd H l (.lst (xs ++ zs)))
theorem Zng:MtM X "list.extend" rExtend:=by
 intro pins s σ H x vs v us Q I rx rv h
 obtain ⟨l,b,xs,zs,rfl,rfl,hH,hB,hz,q⟩:=h
 cases rx
 obtain ⟨u,rfl,ru⟩:=rv.one
 cases ru
 obtain ⟨z,its,n,r,hl,e⟩:=I.lstM hH
 obtain ⟨z2,its2,n2,r2,hl2,e2⟩:=I.lstM hB
 have hsz:its.toArray.size + its2.toArray.size<=sizeLine:=by rw[List.size_toArray,List.size_toArray];omega
 have hlong: ¬ (!its.toArray.isEmpty && Builtin.List.listTooLong (its.toArray.size + its2.toArray.size))=true:=by
  rw[ZjA hsz,Bool.and_false]
  exact Bool.false_ne_true
 refine call_meets F.slot_list_extend ⟨_,e,rfl⟩ F.entry_list_extend (F.args_list_extend_2 _ _)
  (AutoSeq1.list_extend_list_list_0 l its.toArray n b its2.toArray n2 hlong (by rw[List.size_toArray];omega) (by omega)) ⟨e,e2,?_⟩
 refine ⟨.non,_,I.lset (its':=its ++ its2) hH e (by simp) (r.append r2) ?_,rfl,q⟩
 rw[List.length_append]
 omega
noncomputable def rCat:R2:=fun x y H Q=> ∃ l b xs zs,x= .ref l/\y= .ref b/\H l=some (.lst xs)/\H b=some (.lst zs)/\xs.length + zs.length<=sizeLine/\ ∀ p,H p=none->Q (.ref p) (upd H p (.lst (xs ++ zs)))
theorem Znh:OpR X (binaryOp .Add) rCat:=by
 intro pins s σ H x y v u Q I rx ry h
 obtain ⟨l,b,xs,zs,rfl,rfl,hH,hB,hz,q⟩:=h
 cases rx
 cases ry
 obtain ⟨z,its,n,r,hl,e⟩:=I.lstM hH
 obtain ⟨z2,its2,n2,r2,hl2,e2⟩:=I.lstM hB
 refine PySem.P.add_list e e2 ?_ (by rw[List.size_toArray,List.size_toArray];omega)
 have ea:its.toArray ++ its2.toArray=(its ++ its2).toArray:=by simp
 rw[ea]
 exact ⟨.ref _,_,I.lnew (t':=s.toks) (r.append r2) (by rw[List.length_append];omega),rfl,q _ I.fresh⟩
end
section
variable {prog:Program} {w:World} {A:Around} {E:Value->Shared->Prop} {s:Shared}
end
section
variable {X:Cx}
end
end L2
namespace Att
open PySem PySem.W PySem.Calls PyProof.Rows
theorem ZdJ {P:Params} {h:Heap}: ∀ (ns:List Int) (vs:List Value),WellAll P h vs (ns.map WData.int)->IntsAre vs ns:=by
 intro ns
 induction ns with
 |nil=>
  intro vs w
  rw[List.map_nil] at w
  cases w
  exact .nil
 |cons n ns ih=>
  intro vs w
  rw[List.map_cons] at w
  cases w with
  |cons a b=>
   cases a
   exact .cons _ _ (ih _ b)
theorem ZhU {l:OpenLaw} {n:Nat} (hn:l.most=some n) {P:Params} {h:Heap} {args:List WData} {vals:List Value}
  (hpre:l.row.toRowW.claim.pre args=true) (hwl:WellAll P h vals args):
  ∃ a vs ns,vals=[Value.ref a]/\args=[WData.list (ns.map WData.int)]/\h.get? a=some { cls:= .type "list",data:= .seq vs.toArray }/\IntsAre vs ns/\ns.length<=n:=by
 have hsh:WShape.hasAll [] args [.list .int]=true:=(pre_splitW hpre).1
 have hc:l.pre.holds [] { args:=args }=true:=(pre_splitW hpre).2
 obtain ⟨d,r,rfl,h1,h2⟩:=hasAllW_cons hsh
 obtain rfl:=hasAllW_nil h2
 obtain ⟨xs,rfl,h3⟩:=hasW_list h1
 obtain ⟨ns,rfl⟩:=items_int h3
 have hlen:ns.length<=n:=by
  unfold OpenLaw.pre at hc
  have h4:(WTm.not (.lt (.lit (.int (n:Int))) (.len (.arg 0)))).holds [] { args:=[.list (ns.map .int)] }=true:=by
   have h4:=(holds_andW hc).1
   rw[hn] at h4
   exact h4
  have h5:=condW_of h4 (w_not (w_lt w_lit (w_len_list (w_arg rfl))))
  rw[List.length_map] at h5
  refine Nat.le_of_not_lt fun q=> ?_
  have q':(n:Int) < ((ns.length:Nat):Int):=by omega
  first
   | (rw[decide_eq_true q'] at h5;exact absurd h5 (by decide))
   | (simp at h5;omega)
 cases hwl with
 |cons w1 w2=>
  cases w2
  cases w1 with
  |list ho hall=>exact ⟨_,_,ns,rfl,rfl,ho,ZdJ ns _ hall,hlen⟩
theorem ZhV (l:OpenLaw) (args:List WData):l.row.toRowW.claim.post args (.bool true) args=true:=
 postW_of (r:=l.row.toRowW) (X:=(true == true))
  (show WShape.has [] (.bool true) .bool=true by first | rfl | decide | simp[WShape.has,WShape.arms,WShape.armsAll])
  (show (WTm.eq .res (.lit (.bool true))).value [] { args:=args,res:=some (.bool true),after:=args }=some (.bool (true == true)) from w_eq_bool (w_res rfl) w_lit) rfl
theorem Zf5 {l:OpenLaw} {n:Nat} {q:Program} {loose:List Str} {XP:(Str->Option Value)->Heap->Prop} {YP:World->Heap->Prop} {d:DefRec}
  (hn:l.most=some n) (hdf:d.params.defaults=[])
  (call: ∀ (w:World) (s₀ s₁:Shared) (mg mb:Str->Option Value) (fa:Addr) (o:Obj) (pm cd doc:Value) (a:Addr) (vs:List Value) (ns:List Int),
   Ground q loose [] XP w s₀ mg mb s₁.heap->YP w s₁.heap->
   s₁.heap.get? fa=some o->o.data= .func (docDef d.name d.params d.body d.scope pm cd doc)->s₁.heap.CodeRec cd d.name->mg d.name=some (.ref fa)->
   s₁.heap.get? a=some { cls:= .type "list",data:= .seq vs.toArray }->IntsAre vs ns->ns.length<=n->s₁.gens= #[]->
   codeAny (model l.prog w) callerA (.call (.ref fa) ⟨[.ref a],[]⟩) (fun r s'=>r= .ok (.ret (.bool true))/\OldK s₁.heap s'.heap/\s'.os=s₁.os/\AllBare s'.gens) s₁):
  WalkO q loose XP YP l.row.toRowW d [] (fun f vs=>PySem.call f vs):=by
 intro w s₀ s₁ mg mb G Y fa o pm cd doc dV kV ho hd hcd hD hmg hg args vals as hpre hlay hrd hwl hlo
 obtain rfl:dV= .none:=Dflts.none hD hdf
 obtain rfl:kV= .none:=Dflts.noKw hD
 obtain ⟨a,vs,ns,rfl,rfl,hobj,hints,hlen⟩:=ZhU hn hpre hwl
 refine enter_call (codeAny_mono (call w s₀ s₁ mg mb fa o pm cd doc a vs ns G Y ho (fd_plain hd) hcd hmg hobj hints hlen hg) fun r s' hq=> ?_)
 obtain ⟨rfl,h2,h3,h4⟩:=hq
 exact ⟨.inl ⟨.bool true,.bool true,[],rfl,fun _=>rfl,.bool true,ZhV l _,fun _=>⟨List.Pairwise.nil,fun _ hm=>(nomatch hm)⟩⟩,h2,h3,h4⟩
section
variable {prog:Program} {w:World} {A:Around} {E:Value->Shared->Prop} {s:Shared} {K:Frag}
end
end Att
namespace L2
open PySem PySem.Spec PyProof.Rows
theorem Zff: ∀ {vs:List Value} {ns:List Int},IntsAre vs ns->Zam (ns.map V.int) vs
 |_,_,.nil=> .nil
 |_,_,.cons n t h=> .cons ⟨t,rfl⟩ (Zff h)
noncomputable def ZpL (H:Hp):Prop:= ∀ b,H b=none\/ ∃ o xs,H b=some (.frz o (.lst xs))
theorem ZjB {P:Program} {w:World} {K:PySem.W.Frag} {mg mb:Str->Option Value} {CX:CXT} {k:Nat} {fa a:Addr} {fd:FuncData} {x:Str} {sp:Sp} {s₁:Shared} {vs:List Value} {ns:List Int}
  (KX:K.In s₁.heap) (hns:s₁.heap.Ns mainGlobals mg) (hb:s₁.heap.Ns builtinsNs mb) (hbb: ∀ x:Str,x≠"__name__"->mb x=bootBuiltins x) (hlim:s₁.heap.NoLimit) (hg:s₁.gens= #[])
  (ha:s₁.heap.get? a=some { cls:= .type "list",data:= .seq vs.toArray }) (hi:IntsAre vs ns) (hl:ns.length<=sizeLine) (hr:Room k callerA)
  (F: ∀ base:Heap,K.In base->base.Ns mainGlobals mg->FnOk P w K mg base CX k fa fd [x] sp) (hbind: ∀ (s:Shared) (u:Value),BindsTo s fd ⟨[u],[]⟩ [(x,u)])
  (hsp: ∀ H:Hp,ZpL H->SqL K H a (ns.map V.int)->sp [.ref a] H (fun v _=>v= .bl true) fun _ _ _=>False)
  (hCX: ∀ H e s',CX [] H s₁ (fun _ _ _=>False) e s'->False):
  codeAny (model P w) callerA (.call (.ref fa) ⟨[.ref a],[]⟩) (fun r s'=>r= .ok (.ret (.bool true))/\OldK s₁.heap s'.heap/\s'.os=s₁.os/\AllBare s'.gens) s₁:=by
 have rv:=Zff hi
 have lenV:=hi.length
 have core: ∀ H:Hp,ZpL H->SqL K H a (ns.map V.int)->HOk P w H s₁.heap->(∀ b,H b≠none->b=a)->(H a≠none->K.lookup a=none)->
   codeAny (model P w) callerA (.call (.ref fa) ⟨[.ref a],[]⟩) (fun r s'=>r= .ok (.ret (.bool true))/\OldK s₁.heap s'.heap/\s'.os=s₁.os/\AllBare s'.gens) s₁:=by
  intro H hO hS hok hA hK
  have base_of: ∀ {b:Addr} {o:Obj},s₁.heap.get? b=some o->H b=none->(Zji s₁.heap H).get? b=some o:=fun e n=>Zgu e n
  have noA: ∀ {b:Addr} {o:Obj} {es:Array DictEntry} {ep:Nat},s₁.heap.get? b=some o->o.data= .dict es ep->H b=none:=fun {b o es ep} e d=>by
   cases q:H b with
   |none=>rfl
   |some u=>
    have e':b=a:=hA b (by rw[q];simp)
    subst e'
    rw[ha] at e;cases e
    have d':Data.seq vs.toArray _=Data.dict es ep:=d
    cases d'
  have nsK: ∀ {b:Addr} {m:Str->Option Value},s₁.heap.Ns b m->(Zji s₁.heap H).Ns b m:=fun {b m} ⟨o,es,ep,e,d,r⟩=>⟨o,es,ep,base_of e (noA e d),d,r⟩
  have hKb:K.In (Zji s₁.heap H):=fun b o e=>base_of (KX b o e) (by
   cases q:H b with
   |none=>rfl
   |some u=>
    have e':b=a:=hA b (by rw[q];simp)
    subst e'
    rw[hK (by rw[q];simp)] at e;cases e)
  have hM:Mod K mg (Zji s₁.heap H):=⟨hKb,nsK hns,⟨mb,nsK hb,hbb⟩,let ⟨mc,h1,h2⟩:=hlim;⟨mc,nsK h1,h2⟩⟩
  have e0:Env0 P w K mg (Zji s₁.heap H) callerA [] s₁ H:=⟨rfl,hM,fun b o e=>ZhE e,Nat.le_of_eq (ZhD _ _),trivial,fun b hb=>absurd (show b∈([]:List Addr) from hb) (by simp),hok,.of_eq hg,.inl rfl⟩
  refine codeAny_mono ((F _ hKb (nsK hns)).run callerA [] s₁ H ⟨[.ref a],[]⟩ [.ref a] [.ref a] _ _ hr e0 (hbind s₁ (.ref a)) (.cons rfl .nil) (hsp H hO hS)) fun r s' h=> ?_
  cases r with
  |error e=>exact (hCX H e s' h).elim
  |ok fl=>
   cases fl with
   |next=>exact False.elim h
   |brk=>exact False.elim h
   |cont=>exact False.elim h
   |ret u=>
    obtain ⟨v,H',os,bare,un,hok',r',q⟩:=h
    have q':v= .bl true:=q
    subst q'
    obtain rfl:u=Value.bool true:=r'
    refine ⟨rfl,OldK.of_keep fun b o e=> ?_,os,bare⟩
    cases q:H b with
    |none=>exact un.keep b o e q (by intro z;exact absurd (show b∈([]:List Addr) from z) (by simp)) (by simp)
    |some u=>
     rcases hO b with z | ⟨ob,xs,z⟩
     ·rw[q] at z;cases z
     ·have z2:=un.frzs b ob _ z
      obtain ⟨e1,_⟩:=hok b _ z
      obtain ⟨e2,_⟩:=hok' b _ z2
      rw[e] at e1;cases e1
      exact e2
 cases hk:K.lookup a with
 |some o=>
  have e:=KX a o hk
  rw[ha] at e
  cases e
  refine core (fun _=>none) (fun _=> .inl rfl) (.inr ⟨_,vs.toArray,_,hk,rfl,rfl,rfl,by rw[List.size_toArray,lenV];exact hl,by simpa using rv⟩) (fun b u z=>by have z':(none:Option HO)=some u:=z;cases z') (fun b z=>absurd rfl z) fun z=>absurd rfl z
 |none=>
  refine core (fun b=>if b=a then some (.frz { cls:= .type "list",data:= .seq vs.toArray } (.lst (ns.map V.int))) else none) (fun b=> ?_) (.inl (.inr ⟨{ cls:= .type "list",data:= .seq vs.toArray },if_pos rfl⟩)) (fun b u z=> ?_) (fun b z=> ?_) fun _=>hk
  ·by_cases hb:b=a
   ·exact .inr ⟨_,_,if_pos hb⟩
   ·exact .inl (if_neg hb)
  ·by_cases hb:b=a
   ·have z':=(if_pos hb).symm.trans z
    cases z'
    subst hb
    exact ⟨ha,by rw[List.length_map];exact hl,vs,_,rv,ha⟩
   ·have z':=(if_neg hb).symm.trans z
    cases z'
  ·by_cases hb:b=a
   ·exact hb
   ·exact absurd (if_neg hb) z
end L2
namespace L2
open PySem PySem.Spec PyProof.Rows
theorem Zlw {l:PySem.W.OpenLaw} {n k:Nat} {q:Program} {loose:List Str} {XP:(Str->Option Value)->Heap->Prop} {YP:World->Heap->Prop} {d:DefRec} {K:Params->PySem.W.Frag} {CX:World->CXT} {sp:World->Sp} {x:Str}
  (hn:l.most=some n) (hn2:n<=sizeLine) (hdf:d.params.defaults=[]) (hr:Room k callerA)
  (hY: ∀ (w:World) (h:Heap),YP w h->(K w.params).In h)
  (F: ∀ (w:World) (mg:Str->Option Value) (fa:Addr) (h:Heap),(K w.params).In h->h.Ns mainGlobals mg->mg d.name=some (.ref fa)->
   ∃ fd:FuncData,(∀ (s:Shared) (u:Value),BindsTo s fd ⟨[u],[]⟩ [(x,u)])/\
    ∀ base:Heap,(K w.params).In base->base.Ns mainGlobals mg->FnOk l.prog w (K w.params) mg base (CX w) k fa fd [x] (sp w))
  (hsp: ∀ (w:World) (H:Hp) (a:Addr) (ns:List Int),ns.length<=n->ZpL H->SqL (K w.params) H a (ns.map V.int)->sp w [.ref a] H (fun v _=>v= .bl true) fun _ _ _=>False)
  (hCX: ∀ (w:World) (H:Hp) (s:Shared) (e:Value) (s':Shared),CX w [] H s (fun _ _ _=>False) e s'->False):
  PySem.W.WalkO q loose XP YP l.row.toRowW d [] (fun f vs=>PySem.call f vs):=by
 refine Att.Zf5 hn hdf fun w s₀ s₁ mg mb fa o pm cd doc a vs ns G Y ho hd hcd hmg hobj hints hlen hg=> ?_
 have KX:=hY w _ Y
 obtain ⟨fd,hb,hF⟩:=F w mg fa _ KX G.T.g hmg
 exact ZjB KX G.T.g G.T.b G.T.builtins G.T.nolimit hg hobj hints (Nat.le_trans hlen hn2) hr hF hb (fun H hO hS=>hsp w H a ns hlen hO hS) fun H e s'=>hCX w H s₁ e s'
end L2
namespace L2
open PySem PySem.Spec PyProof.Rows
noncomputable def Zs (s:Stmt):Arguments:=match s with
 | .FunctionDef _ a _ _ _ _ _ _ _ _=>a
 |_=>{ posonlyargs:=[],args:=[],vararg:=none,kwonlyargs:=[],kw_defaults:=[],kwarg:=none,defaults:=[] }
noncomputable def Zr (s:Stmt):List Stmt:=match s with
 | .FunctionDef _ _ b _ _ _ _ _ _ _=>b
 |_=>[]
noncomputable def Zh (s:Stmt):Scope:=match s with
 | .FunctionDef _ _ _ _ _ _ sc _ _ _=>sc
 |_=>{ kind:= .function,names:=[],isGenerator:=false,isCoroutine:=false }
noncomputable abbrev E0:XK:=fun _ _ _=>False
structure Fun (K:PySem.W.Frag) (x qual:Str) (st:Stmt) (f:Addr) (fd:FuncData):Prop where
 ex: ∃ (oc:Value) (od:Option Addr) (kV doc pm:Value) (an:Option Addr) (cdv ct:Value) (osl:Array (Option Value)),
  fd=PySem.W.fnOf x qual (Zs st) (Zr st) (Zh st) .none kV doc pm an cdv ct/\K.lookup f=some ⟨oc,od,.func fd,osl⟩/\PySem.W.codeIn K cdv qual=true
 kp:PySem.W.keepIn K (.ref f)=true
section
variable {P:Program} {w:World} {K:PySem.W.Frag} {mg:Str->Option Value} {base:Heap}
theorem Fun.binds {x qual:Str} {st:Stmt} {f:Addr} {fd:FuncData} {ps:List Str} (F:Fun K x qual st f fd)
  (h: ∀ (kV doc pm:Value) (an:Option Addr) (cdv ct:Value) (us:List Value),us.length=ps.length->bindArgs (PySem.W.fnOf x qual (Zs st) (Zr st) (Zh st) .none kV doc pm an cdv ct) ⟨us,[]⟩=pure (ps.zip us)):Zf4 K fd ps []:=by
 obtain ⟨oc,od,kV,doc,pm,an,cdv,ct,osl,rfl,lk,hcd⟩:=F.ex
 exact .all (h kV doc pm an cdv ct)
theorem ZB {x qual:Str} {st:Stmt} {f:Addr} {oc:Value} {od an:Option Addr} {osl:Array (Option Value)} {kV doc pm cdv ct:Value} (l:K.lookup f=some ⟨oc,od,.func (PySem.W.fnOf x qual (Zs st) (Zr st) (Zh st) .none kV doc pm an cdv ct),osl⟩)
  (c:PySem.W.codeIn K cdv qual=true) (k:PySem.W.keepIn K (.ref f)=true):Fun K x qual st f (PySem.W.fnOf x qual (Zs st) (Zr st) (Zh st) .none kV doc pm an cdv ct):=⟨⟨oc,od,kV,doc,pm,an,cdv,ct,osl,rfl,l,c⟩,k⟩
end
theorem ZhW {n:Nat} (h:n<=1000):n < sizeLine:=Nat.lt_of_le_of_lt h (by decide)
section
variable {X:Cx}
end
theorem Zkv {A B:Prop} (h:B):if false=true then A else B:=by
 rw[if_neg Bool.false_ne_true]
 exact h
theorem Zkw {A B:Prop} (h:A):if true=true then A else B:=by
 rw[if_pos rfl]
 exact h
end L2
end
section
namespace L2
open PySem PySem.Spec PyProof.Rows
end L2
namespace L2
open PySem PySem.Spec PyProof.Rows
section
variable (P:Program) (w:World)
end
section
variable {P:Program} {w:World} {H H':Hp} {h h':Heap} {a:Addr} {o:HO}
end
section
variable {P:Program} {w:World} {H:Hp} {h h':Heap} {x e:Addr} {o':HO}
end
section
variable {fs fs' ex ex':List Addr} {H H1 H2:Hp} {h h1 h2 h':Heap} {a x e:Addr} {o:HO}
end
end L2
namespace L2
open PySem PySem.Spec PyProof.Rows
section
variable {X:Cx} {pins:List (Addr × Obj)} {σ:List (Option V)} {H H':Hp} {s:Shared} {h':Heap}
end
end L2
namespace L2
open PySem PySem.Spec PyProof.Rows
section
variable {X:Cx}
variable {a b:Expr} {ta tb:TE} {pos:Pos}
variable {tA tB':TT} {Zdc:List Expr}
end
end L2
namespace L2
open PySem PySem.Spec PyProof.Rows
section
variable {X:Cx} {pins:List (Addr × Obj)} {σ:St} {H:Hp} {s:Shared} {a:Addr} {xs ys:List V}
end
section
variable {X:Cx} {pins:List (Addr × Obj)} {σ:St} {H:Hp} {s:Shared} {E:Value->Shared->Prop}
end
section
variable {X:Cx} {st:Stmt} {Zdc:List Stmt} {t u:TS} {e:Expr} {te:TE} {pos:Pos}
end
section
variable {X:Cx} {pos:Pos}
end
section
variable {X:Cx} {pos:Pos}
end
end L2
namespace L2
open PySem PySem.Spec PyProof.Rows
section
variable {X:Cx} {tg:Expr}
end
end L2
namespace L2
open PySem PySem.Spec PyProof.Rows
section
variable {X:Cx} {a b c:Expr} {ta tb tc:TE} {pos:Pos}
end
section
variable {X:Cx} {a b c:Expr} {ta tb tc:TE} {pos:Pos}
end
end L2
namespace L2
open PySem PySem.Spec PyProof.Rows
section
variable {prog:Program} {w:World} {A:Around} {E:Value->Shared->Prop} {s:Shared} {K:PySem.W.Frag} {x dx C f:Addr} {mA:Str->Option Value} {name:Str} {v:Value}
end
section
variable {P:Program} {w:World} {H H':Hp} {h h':Heap} {a C dx:Addr} {fs fs':List (Str × V)}
end
section
variable {X:Cx} {pins:List (Addr × Obj)} {σ:St} {H:Hp} {s:Shared} {a C dx:Addr} {fs:List (Str × V)} {f:Str} {v:V} {A:Around} {E:Value->Shared->Prop}
end
section
variable {X:Cx} {o e value:Expr} {f:Str} {pos pos' tpos:Pos} {ta tv:TE}
end
section
variable {X:Cx} {pins:List (Addr × Obj)} {σ:St} {H:Hp} {s:Shared} {A:Around} {E:Value->Shared->Prop} {Q:Value->Shared->Prop} {c:Value} {b:Bool}
end
end L2
namespace L2
open PySem PySem.Spec PyProof.Rows
section
variable {X:Cx} {e:Expr} {es:List Expr} {te:TE} {t:TA} {pos:Pos}
end
section
variable {X:Cx} {pins:List (Addr × Obj)} {σ:St} {H:Hp} {s s':Shared}
end
section
variable {X:Cx} {CX:CXT} {k:Nat} {f C:Addr} {fd:FuncData} {ps:List Str} {sp:Sp} {dvs:List V} {ds:List Value} {E:XK} {x m:Str} {p pos apos:Pos} {e o:Expr} {es:List Expr} {ta:TE} {t:TA}
end
section
variable {X:Cx} {CX:CXT} {k:Nat} {f C:Addr} {fd:FuncData} {ps ks:List Str} {sp:Sp} {E:XK} {x m:Str} {p pos apos kpos:Pos} {e o:Expr} {es:List Expr} {kws:List Keyword} {te ta:TE} {t tk:TA} {nm:Option Str}
variable {g:List Value->List Value->List Value} {gV:List V->List V->List V}
end
end L2
namespace L2
open PySem PySem.Spec PyProof.Rows
section
variable {X:Cx} {x:Str} {p pos:Pos} {e:Expr} {es:List Expr} {t:TA} {id T:String} {r:List V->Hp->VK->Prop}
end
end L2
namespace L2
open PySem PySem.Spec PyProof.Rows
section
variable {κ:Type} [DecidableEq κ]
noncomputable def Zlx (kvs:List (κ × V)) (k:κ):Option V:=(kvs.find? fun kv=>decide (kv.1=k)).map (·.2)
theorem Zgy {p:κ × V} {r:List (κ × V)} {k:κ} (e:p.1=k):Zlx (p :: r) k=some p.2:=by simp[Zlx,List.find?_cons,e]
theorem Zgz {p:κ × V} {r:List (κ × V)} {k:κ} (e: ¬ p.1=k):Zlx (p :: r) k=Zlx r k:=by simp[Zlx,List.find?_cons,e]
theorem ZmE.getD {o:Option V} {u:Option Value} {d:V} {d':Value} (r:ZmE o u) (rd:Zax d d'):Zax (o.getD d) (u.getD d'):=by
 cases o with
 |none=>cases u with
  |none=>exact rd
  |some _=>exact (show False from r).elim
 |some _=>cases u with
  |none=>exact (show False from r).elim
  |some _=>exact r
theorem KV.val {kvs:List (κ × V)} {vs:List (κ × Value)} (r:KV kvs vs) (k:κ):ZmE (Zlx kvs k) (valueAt vs k):=by
 unfold KV at r
 induction r with
 |nil=>exact True.intro
 | @cons p q ps qs h t ih=>
  obtain ⟨h1,h2⟩:=h
  by_cases e:p.1=k
  ·have e':q.1=k:=h1.symm.trans e
   have b:valueAt (q :: qs) k=some q.2:=by simp[valueAt,List.find?_cons,e']
   rw[Zgy e,b];exact h2
  ·have e': ¬ q.1=k:=fun z=>e (h1.trans z)
   have b:valueAt (q :: qs) k=valueAt qs k:=by simp[valueAt,List.find?_cons,e']
   rw[Zgz e,b];exact ih
end
noncomputable abbrev KT (H:Hp):List (List Key × V)->List (List Key × Addr × Value)->Prop:=Paired fun p q=>p.1=q.1/\H q.2.1=some (.tup (p.1.map kV))/\Zax p.2 q.2.2
theorem KT.val {H:Hp} {kvs:List (List Key × V)} {xs:List (List Key × Addr × Value)} (r:KT H kvs xs) (k:List Key):ZmE (Zlx kvs k) ((atKey xs k).map (·.2)):=by
 induction r with
 |nil=>exact True.intro
 | @cons p q ps qs h t ih=>
  obtain ⟨h1,_,h2⟩:=h
  by_cases e:p.1=k
  ·have e':q.1=k:=h1.symm.trans e
   have b:atKey (q :: qs) k=some q.2:=by simp[atKey,List.find?_cons,e']
   rw[Zgy e,b];exact h2
  ·have e': ¬ q.1=k:=fun z=>e (h1.trans z)
   have b:atKey (q :: qs) k=atKey qs k:=by simp[atKey,List.find?_cons,e']
   rw[Zgz e,b];exact ih
section
variable {P:Program} {w:World} {H:Hp} {h:Heap} {a:Addr}
end
section
variable {X:Cx} {pins:List (Addr × Obj)} {σ:St} {H:Hp} {s:Shared} {a:Addr} {y v:V} {u r:Value} {o:Option V} {A:Around} {E:Value->Shared->Prop}
end
section
variable {X:Cx} {pins:List (Addr × Obj)} {σ:St} {H:Hp} {s:Shared} {a:Addr} {kvs:List (Key × V)} {k:Key} {u:Value} {A:Around} {E:Value->Shared->Prop}
end
section
variable {X:Cx} {o i e value:Expr} {pos pos' tpos:Pos} {td ty tv:TE}
end
section
variable {X:Cx} {pos:Pos}
end
structure M1 (X:Cx) (o:Expr) (m:Str) (apos:Pos) (e:Expr) (cpos:Pos):Prop where
 base:attributeBase o m X.env (eval o X.env)=eval o X.env
 few:((backTo cpos (starEach [e] X.env)).all (fun x=> !x.1) && (backToKw cpos (keywordEach [] X.env)).all (fun x=>x.1.isSome)
  && decide (([e]:List Expr).length + ([]:List Keyword).length + (if ([]:List Keyword).isEmpty then 0 else 1) < 30))=true
 line:(apos.endLine == cpos.line)=true
 trees:backTo cpos (starEach [e] X.env)=[(false,eval e X.env)]
structure M2 (X:Cx) (o:Expr) (m:Str) (apos:Pos) (e f:Expr) (cpos:Pos):Prop where
 base:attributeBase o m X.env (eval o X.env)=eval o X.env
 few:((backTo cpos (starEach [e,f] X.env)).all (fun x=> !x.1) && (backToKw cpos (keywordEach [] X.env)).all (fun x=>x.1.isSome)
  && decide (([e,f]:List Expr).length + ([]:List Keyword).length + (if ([]:List Keyword).isEmpty then 0 else 1) < 30))=true
 line:(apos.endLine == cpos.line)=true
 trees:backTo cpos (starEach [e,f] X.env)=[(false,eval e X.env),(false,eval f X.env)]
section
variable {X:Cx} {pins:List (Addr × Obj)} {σ:St} {H:Hp} {s:Shared} {a:Addr} {y d:V} {u r:Value} {o:Option V} {A:Around} {E:Value->Shared->Prop}
end
section
variable {X:Cx} {o e f:Expr} {apos cpos:Pos} {td ty tx:TE}
end
section
variable {X:Cx} {pins:List (Addr × Obj)} {σ:St} {H:Hp} {s:Shared} {a:Addr} {kvs:List (Key × V)} {A:Around} {E:Value->Shared->Prop}
end
section
variable {X:Cx} {pins:List (Addr × Obj)} {σ:St} {H:Hp} {s:Shared} {a:Addr} {y:V} {u:Value} {A:Around} {E:Value->Shared->Prop}
end
end L2
namespace Att
open PySem PySem.W PySem.Calls PyProof.Rows
section
variable {prog:Program} {w:World} {A:Around} {E:Value->Shared->Prop} {s:Shared} {K:Frag}
end
end Att
namespace L2
open PySem PySem.Spec PyProof.Rows
end L2
namespace L2
open PySem PySem.Spec PyProof.Rows
end L2
namespace L2
open PySem PySem.Spec PyProof.Rows
section
variable {P:Program} {w:World} {K:PySem.W.Frag} {mg:Str->Option Value} {base:Heap}
end
section
variable {X:Cx}
end
section
variable {κ:Type} [DecidableEq κ]
end
end L2
end
section
namespace DQ
open PySem PySem.Spec PyProof.Rows
structure Fly (B:Heap) (l:List Env) (e:Addr) (cls:Value) (dct:Option Addr) (fl:Value) (h:Heap):Prop where
 stay:B.StaysIn h
 new:B.get? e=none
 frames:h.FunFrames B l
 obj: ∃ oe vs T oT ts,h.get? e=some oe/\oe.cls=cls/\oe.dict=dct/\oe.data= .fields vs/\vs[2]?=some .none/\vs[1]?=some (.ref T)/\B.get? T=none/\T≠e/\h.get? T=some oT/\oT.data= .fields ts/\ts[3]?=some fl
theorem Fly.tail {B:Heap} {env:Env} {l:List Env} {e:Addr} {cls:Value} {dct:Option Addr} {fl:Value} {h:Heap} (f:Fly B (env :: l) e cls dct fl h):Fly B l e cls dct fl h:=⟨f.stay,f.new,f.frames.2.2,f.obj⟩
section
variable {M:Model} {A:Around} {E:Value->Shared->Prop} {s:Shared} {B:Heap} {env:Env} {outer l:List Env} {L e:Addr} {cls:Value} {dct:Option Addr} {fl:Value}
theorem apart {h:Heap} {oe:Obj} {vs:Array Value} (hl:h.FunFrames B l) (he:h.get? e=some oe) (hd:oe.data= .fields vs):e ∉ l.filterMap (·.frame):=fun z=>by
 obtain ⟨_,o,h1,h2⟩:=hl.mem z
 rw[he] at h1
 cases h1
 exact h2 vs hd
theorem Zfg {oe:Obj} {vs:Array Value} {head:Value} {hn:Bool} {Q:Unit->Shared->Prop} (hfr:A.frames=some (env :: outer)) (hl:s.heap.FunFrames B (env :: outer)) (hf:env.frame=some L)
  (he:s.heap.get? e=some oe) (hs:B.StaysIn s.heap) (hb:B.get? e=none) (hd:oe.data= .fields vs) (hz:2 < vs.size) (h2:vs[2]?=some .none)
  (h: ∀ h',Fly B (env :: outer) e oe.cls oe.dict (rawInt L) h'->s.heap.UpToSlots h'->Q () { s with heap:=h' }):
  wpAny M A (frameOf env >>= fun a=>entryPlaceOf L hn >>= fun pl=>EntryCells.newEntry head a .none (rawInt L) .none pl >>= fun b=>setField (.ref e) 1 b) Q E s:=by
 have ne:=apart hl he hd
 refine wpAny_bind (wpAny_frameOf_fun hfr hl hf fun h1 k1=>wpAny_bind (wpAny_entryPlaceOf fun pl hpl=>wpAny_bind ?_))
 unfold EntryCells.newEntry newFields
 refine wpAny_newObj_type ?_ (hpl.sizeOk5 _ _ _ _ _)
 generalize hT:([head,Value.ref L,Value.none,rawInt L,Value.none] ++ (if pl.isEmpty then List.replicate 6 Value.none else pl)).toArray=ts
 have h3:ts[3]?=some (rawInt L):=by
  rw[<- hT]
  rcases hpl with rfl | ⟨_,_,_,_,_,_,_,rfl⟩<;>simp
 have e1:h1.get? e=some oe:=(k1.2.1 e ne).trans he
 have s1:B.StaysIn h1:=fun b o hbo=>(k1.2.1 b fun z=>by rw[(hl.mem z).1] at hbo;cases hbo).trans (hs b o hbo)
 generalize hoT:({ cls:= .type "traceback",dict:=none,data:= .fields ts }:Obj)=oT
 have dT:oT.data= .fields ts:=by rw[<- hoT]
 have fT:oT.isFreed=false:=Obj.isFreed_of_fields dT
 have e2:(h1.push oT).get? e=some oe:=Heap.get?_push_of_some _ e1
 have nT:h1.objs.size≠e:=Nat.ne_of_gt (Heap.lt_size e1)
 refine wpAny_setField e2 hd (Nat.lt_trans (by decide) hz) (h _ ?_ ?_)
 ·have d3:=Obj.data_mapFields hd (·.setIfInBounds 1 (Value.ref h1.objs.size))
  have e3:=Heap.get?_update_self (Obj.mapFields (·.setIfInBounds 1 (Value.ref h1.objs.size))) e2 (Obj.isFreed_of_fields d3)
  have keep: ∀ b o,b≠e->h1.get? b=some o->((h1.push oT).update e (Obj.mapFields (·.setIfInBounds 1 (Value.ref h1.objs.size)))).get? b=some o:=fun b o hbe x=>by
   rw[Heap.get?_update_other _ _ (Ne.symm hbe)]
   exact Heap.get?_push_of_some _ x
  have gT:(h1.push oT).get? h1.objs.size=some oT:=Heap.get?_push_size _ fT
  refine ⟨fun b o x=>keep b o (fun z=>by rw[z,hb] at x;cases x) (s1 b o x),hb,hl.of_keeps fun b o x y=> ?_,_,_,h1.objs.size,oT,ts,e3,Obj.cls_mapFields _ _,?_,d3,?_,?_,s1.fresh,nT,?_,dT,h3⟩
  ·obtain ⟨sl,z⟩:=k1.2.2 b o x
   exact ⟨_,keep b _ (fun w=>y vs (by rw[w,he] at x;cases x;exact hd)) z,rfl⟩
  ·obtain ⟨c,d,dd,sl⟩:=oe
   cases hd
   rfl
  ·rw[Array.getElem?_setIfInBounds_ne (by decide)]
   exact h2
  ·rw[Array.getElem?_setIfInBounds_self_of_lt (Nat.lt_trans (by decide) hz)]
  ·rw[Heap.get?_update_other _ _ (Ne.symm nT)]
   exact gT
 ·intro b o x y
  obtain ⟨sl,z⟩:=k1.2.2 b o x
  refine ⟨sl,?_⟩
  rw[Heap.get?_update_other _ _ (fun w=>y vs (by rw[<- w,he] at x;cases x;exact hd))]
  exact Heap.get?_push_of_some _ z
theorem ZgA {Q:Unit->Shared->Prop} (f:Fly B l e cls dct fl s.heap) (h: ∀ h',Fly B l e cls dct .none h'->s.heap.UpToSlots h'->Q () { s with heap:=h' }):wpAny M A (setFlight (.ref e) none) Q E s:=by
 obtain ⟨st,nw,fr,oe,vs,T,oT,ts,g1,g2,g3,g4,g5,g6,g7,g8,g9,g10,g11⟩:=f
 have hz:3 < ts.size:=(Array.getElem?_eq_some_iff.mp g11).1
 unfold setFlight
 refine wpAny_bind (wpAny_field g1 g4 g6 ?_)
 rw[if_pos (by simp)]
 have oth: ∀ b o,b≠T->s.heap.get? b=some o->(s.heap.update T (Obj.mapFields (·.setIfInBounds 3 Value.none))).get? b=some o:=fun b o hb x=>by
  rw[Heap.get?_update_other _ _ (Ne.symm hb)]
  exact x
 have nr: ∀ b o,s.heap.get? b=some o->(∀ vs,o.data≠ .fields vs)->b≠T:=fun b o x y z=>by
  rw[z,g9] at x
  cases x
  exact y ts g10
 refine wpAny_setField g9 g10 hz (h _ ⟨fun b o x=>oth b o (fun z=>by rw[z,g7] at x;cases x) (st b o x),nw,fr.of_keeps fun b o x y=>⟨o,oth b o (nr b o x y) x,rfl⟩,?_⟩ fun b o x y=>⟨o.slots,oth b o (nr b o x y) x⟩)
 exact ⟨oe,vs,T,_,_,oth e oe (Ne.symm g8) g1,g2,g3,g4,g5,g6,g7,g8,Heap.get?_update_self _ g9 (Obj.isFreed_of_fields (Obj.data_mapFields g10 _)),Obj.data_mapFields g10 _,by rw[Array.getElem?_setIfInBounds_self_of_lt hz];rfl⟩
theorem ZjC {Q:Unit->Shared->Prop} (hfr:A.frames=some (env :: outer)) (hf:env.frame=some L) (f:Fly B (env :: outer) e cls dct .none s.heap)
  (h: ∀ h',Fly B (env :: outer) e cls dct (rawInt L) h'->s.heap.UpToSlots h'->Q () { s with heap:=h' }):wpAny M A (noteFrame (.ref e) env) Q E s:=by
 obtain ⟨st,nw,fr,oe,vs,T,oT,ts,g1,g2,g3,g4,g5,g6,g7,g8,g9,g10,g11⟩:=f
 unfold noteFrame
 simp only[hf]
 refine wpAny_bind (wpAny_field g1 g4 g6 ?_)
 rw[if_pos (by simp)]
 refine wpAny_bind (wpAny_field g9 g10 g11 ?_)
 rw[if_neg (by simp[rawInt])]
 have oth: ∀ b o,b≠T->s.heap.get? b=some o->(s.heap.update T (Obj.mapFields (·.setIfInBounds 3 Value.none))).get? b=some o:=fun b o hb x=>by
  rw[Heap.get?_update_other _ _ (Ne.symm hb)]
  exact x
 have nr: ∀ b o,s.heap.get? b=some o->(∀ vs,o.data≠ .fields vs)->b≠T:=fun b o x y z=>by
  rw[z,g9] at x
  cases x
  exact y ts g10
 refine wpAny_bind (wpAny_setField g9 g10 (Array.getElem?_eq_some_iff.mp g11).1 ?_)
 refine Zfg hfr (fr.of_keeps fun b o x y=>⟨o,oth b o (nr b o x y) x,rfl⟩) hf (oth e oe (Ne.symm g8) g1) (fun b o x=>oth b o (fun z=>by rw[z,g7] at x;cases x) (st b o x)) nw g4 (Array.getElem?_eq_some_iff.mp g5).1 g5 fun h' k1 k2=>h h' (g2 ▸ g3 ▸ k1) ?_
 intro b o x y
 exact k2 b o (oth b o (nr b o x y) x) y
theorem ZhX {Q:Unit->Shared->Prop} (hfr:A.frames=some (env :: outer)) (hf:env.frame=some L) (f:Fly B (env :: outer) e cls dct .none s.heap)
  (h: ∀ h',Fly B outer e cls dct .none h'->s.heap.UpToSlots h'->Q () { s with heap:=h' }):wpAny M A (leaving env (.ref e)) Q E s:=by
 unfold leaving
 refine wpAny_bind (ZjC hfr hf f fun h1 k1 u1=> ?_)
 exact ZgA (s:={ s with heap:=h1 }) k1 fun h2 k2 u2=>h h2 k2.tail (u1.trans u2)
theorem ZhY {oe:Obj} {vs:Array Value} {Q:Unit->Shared->Prop} (hfr:A.frames=some (env :: outer)) (hf:env.frame=some L) (hl:s.heap.FunFrames B (env :: outer)) (he:s.heap.get? e=some oe) (hs:B.StaysIn s.heap) (hb:B.get? e=none) (hd:oe.data= .fields vs) (h1:vs[1]?=some .none) (h2:vs[2]?=some .none)
  (h: ∀ h',Fly B outer e oe.cls oe.dict .none h'->s.heap.UpToSlots h'->Q () { s with heap:=h' }):wpAny M A (leaving env (.ref e)) Q E s:=by
 unfold leaving noteFrame
 simp only[hf]
 refine wpAny_bind (wpAny_bind (wpAny_field he hd h1 ?_))
 rw[if_neg (by decide)]
 refine Zfg hfr hl hf he hs hb hd (Array.getElem?_eq_some_iff.mp h2).1 h2 fun h' k1 u1=> ?_
 exact ZgA (s:={ s with heap:=h' }) k1 fun h2 k2 u2=>h h2 k2.tail (u1.trans u2)
end
end DQ
end
section
namespace DQ
open PySem PySem.Spec PyProof.Rows
open PySem.W (Looks findIn mroIn specialIn takesIn clsIn looks_findIn looks_mroIn looks_find findObj KitX)
structure ExcC (K:PySem.W.Frag) (C:Addr):Prop where
 ga:findIn K (.ref C) "__getattribute__"=some (some (.builtin "BaseException.__getattribute__"))
 gt:findIn K (.ref C) "__getattr__"=some none
 cl:findIn K (.ref C) "__class__"=some (some (.builtin "object.__class__"))
 gs:specialIn K (.builtin "object.__class__") "__get__"=some (some (.builtin "getset_descriptor.__get__"))
 tk:takesIn K (.builtin "object.__class__")=some true
 bx:mroIn K C (.type "BaseException")=some true
 ob:mroIn K C (.type "object")=some true
 is:(clsIn K C).isSome=true
section
variable {prog:Program} {w:World} {A:Around} {E:Value->Shared->Prop} {s:Shared} {K:PySem.W.Frag} {e C:Addr} {oe:Obj} {od:Option Obj}
end
end DQ
end
section
namespace DL
open PySem PySem.Spec PyProof.Rows L2
inductive D where
 |non
 |bl (b:Bool)
 |int (i:Int)
 |str (x:Str)
 |tup (xs:List D)
 |rol (xs:List D)
 |con (xs:List D)
 |ref (n:Nat)
 |err (c:Str) (xs:List D)
 |dk (n:Nat)
 |dt (n:Nat)
 |fn (c:Str)
inductive SO where
 |lst (xs:List D)
noncomputable abbrev Sto:=List SO
noncomputable abbrev Ro:=List (Option D)
noncomputable def SqF (K:PySem.W.Frag) (H:Hp) (a:Addr) (xs:List V):Prop:=
 (∃ o,H a=some (.frz o (.lst xs)))\/ ∃ (o:Obj) (its:Array Value) (n:Nat),K.lookup a=some o/\o.cls= .type "list"/\o.dict=none/\o.data= .seq its n/\its.size<=sizeLine/\Zam xs its.toList
theorem SqF.sq {K:PySem.W.Frag} {H:Hp} {a:Addr} {xs:List V} (h:SqF K H a xs):SqL K H a xs:=by
 rcases h with ⟨o,h⟩ | h
 ·exact .inl (.inr ⟨o,h⟩)
 ·exact .inr h
noncomputable def SqK (K:PySem.W.Frag) (a:Addr) (xs:List V):Prop:= ∃ (o:Obj) (its:Array Value) (n:Nat),K.lookup a=some o/\o.cls= .type "tuple"/\o.data= .seq its n/\its.size<=sizeLine/\Zam xs its.toList/\o.dict=none
theorem SqK.sq {K:PySem.W.Frag} {H:Hp} {a:Addr} {xs:List V} (h:SqK K a xs):SqT K H a xs:=
 let ⟨o,its,n,h1,h2,h3,h4,h5,_⟩:=h
 .inr ⟨o,its,n,h1,h2,h3,h4,h5⟩
noncomputable def EOk (H:Hp) (p C:Addr) (xs:List V):Prop:= ∃ oe u vs,H p=some (.frz oe u)/\oe.cls= .ref C/\oe.data= .fields vs/\vs[2]?=some .none/\((xs=[]/\oe.dict=none)\/ ∃ dx fs,oe.dict=some dx/\H dx=some (.xd fs)/\fs.map (·.2)=xs)
noncomputable def Kn (H:Hp) (p:Addr):Option Nat:=match H p with | some (.lst _)=>some 0 | some (.dK _)=>some 1 | some (.dT _)=>some 2 | some (.frz _ (.dK _))=>some 1 | some (.frz _ (.dT _))=>some 2 | _=>none
structure RefK (H:Hp) (α:List Addr) (j n:Nat) (p:Addr):Prop where
 at':α[n]?=some p
 kn:Kn H p=some j
theorem Kn.lst {H:Hp} {p:Addr} {xs:List V} (h:H p=some (.lst xs)):Kn H p=some 0:=by unfold Kn;rw[h]
theorem Kn.ne {H:Hp} {p q:Addr} {j:Nat} {o:HO} (h:Kn H p=some j) (hq:H q=none):Kn (upd H q o) p=some j:=by
 have:p≠q:=by
  intro z
  unfold Kn at h
  rw[z,hq] at h
  cases h
 unfold Kn
 rw[Z1 this]
 exact h
mutual
inductive Rep (K:PySem.W.Frag) (H:Hp) (α:List Addr):V->D->Prop where
 |non:Rep K H α .non .non
 |bl (b:Bool):Rep K H α (.bl b) (.bl b)
 |int (i:Int):Rep K H α (.int i) (.int i)
 |str (x:Str):Rep K H α (.str x) (.str x)
 |tup {p:Addr} {xs:List V} {ds:List D}:H p=some (.tup xs)->Reps K H α xs ds->Rep K H α (.ref p) (.tup ds)
 |rol {p:Addr} {xs:List V} {ds:List D}:SqF K H p xs->Reps K H α xs ds->Rep K H α (.ref p) (.rol ds)
 |con {p:Addr} {xs:List V} {ds:List D}:SqK K p xs->Reps K H α xs ds->Rep K H α (.ref p) (.con ds)
 |ref {p:Addr} {n:Nat}:RefK H α 0 n p->Rep K H α (.ref p) (.ref n)
 |dk {p:Addr} {n:Nat}:RefK H α 1 n p->Rep K H α (.ref p) (.dk n)
 |dt {p:Addr} {n:Nat}:RefK H α 2 n p->Rep K H α (.ref p) (.dt n)
 |fn {p:Addr} {c:Str}:PySem.W.nsIn K mainGlobals c=some (some (.ref p))->Rep K H α (.ref p) (.fn c)
 |err {p C:Addr} {c:Str} {xs:List V} {ds:List D}:PySem.W.nsIn K mainGlobals c=some (some (.ref C))->EOk H p C xs->Reps K H α xs ds->Rep K H α (.ref p) (.err c ds)
inductive Reps (K:PySem.W.Frag) (H:Hp) (α:List Addr):List V->List D->Prop where
 |nil:Reps K H α [] []
 |cons {v:V} {d:D} {vs:List V} {ds:List D}:Rep K H α v d->Reps K H α vs ds->Reps K H α (v :: vs) (d :: ds)
end
structure Ext (K:PySem.W.Frag) (H H':Hp) (α α':List Addr):Prop where
 tup: ∀ p xs,H p=some (.tup xs)->H' p=some (.tup xs)
 rol: ∀ p xs,SqF K H p xs->SqF K H' p xs
 err: ∀ p C xs,EOk H p C xs->EOk H' p C xs
 kn: ∀ p j,Kn H p=some j->Kn H' p=some j
 fz: ∀ p o u,H p=some (.frz o u)->H' p=some (.frz o u)
 al: ∃ β,α'=α ++ β
section
variable {K:PySem.W.Frag} {H H1 H2 H':Hp} {α α1 α2 α':List Addr}
theorem Ext.refl:Ext K H H α α:=⟨fun _ _ h=>h,fun _ _ h=>h,fun _ _ _ h=>h,fun _ _ h=>h,fun _ _ _ h=>h,[],(List.append_nil _).symm⟩
theorem Ext.trans (a:Ext K H H1 α α1) (b:Ext K H1 H2 α1 α2):Ext K H H2 α α2:=by
 obtain ⟨b1,e1⟩:=a.al
 obtain ⟨b2,e2⟩:=b.al
 exact ⟨fun p xs h=>b.tup p xs (a.tup p xs h),fun p xs h=>b.rol p xs (a.rol p xs h),fun p C xs h=>b.err p C xs (a.err p C xs h),fun p j h=>b.kn p j (a.kn p j h),fun p o u h=>b.fz p o u (a.fz p o u h),b1 ++ b2,by rw[e2,e1,List.append_assoc]⟩
theorem Ext.get0 (e:Ext K H H' α α') {n:Nat} {p:Addr} (h:α[n]?=some p):α'[n]?=some p:=by
 obtain ⟨β,e1⟩:=e.al
 have hl:n < α.length:=(List.getElem?_eq_some_iff.mp h).1
 rw[e1,List.getElem?_append_left hl]
 exact h
theorem Ext.get (e:Ext K H H' α α') {j n:Nat} {p:Addr} (h:RefK H α j n p):RefK H' α' j n p:=⟨e.get0 h.at',e.kn _ _ h.kn⟩
mutual
theorem Rep.mono (e:Ext K H H' α α'): ∀ {v:V} {d:D},Rep K H α v d->Rep K H' α' v d
 |_,_,.non=> .non
 |_,_,.bl b=> .bl b
 |_,_,.int i=> .int i
 |_,_,.str x=> .str x
 |_,_,.tup h r=> .tup (e.tup _ _ h) (Reps.mono e r)
 |_,_,.rol h r=> .rol (e.rol _ _ h) (Reps.mono e r)
 |_,_,.con h r=> .con h (Reps.mono e r)
 |_,_,.ref h=> .ref (e.get h)
 |_,_,.dk h=> .dk (e.get h)
 |_,_,.dt h=> .dt (e.get h)
 |_,_,.fn h=> .fn h
 |_,_,.err n h r=> .err n (e.err _ _ _ h) (Reps.mono e r)
theorem Reps.mono (e:Ext K H H' α α'): ∀ {vs:List V} {ds:List D},Reps K H α vs ds->Reps K H' α' vs ds
 |_,_,.nil=> .nil
 |_,_,.cons r t=> .cons (Rep.mono e r) (Reps.mono e t)
end
theorem Reps.length: ∀ {vs:List V} {ds:List D},Reps K H α vs ds->vs.length=ds.length
 |_,_,.nil=>rfl
 |_,_,.cons _ t=>by rw[List.length_cons,List.length_cons,Reps.length t]
theorem Reps.get: ∀ {vs:List V} {ds:List D} {i:Nat} {d:D},Reps K H α vs ds->ds[i]?=some d-> ∃ v,vs[i]?=some v/\Rep K H α v d
 |_,_,_,_,.nil,e=>by simp at e
 |_,_,0,_,.cons r _,e=>by simp at e;subst e;exact ⟨_,rfl,r⟩
 |_,_,i + 1,d,.cons _ t,e=>by
  obtain ⟨u,h1,h2⟩:=Reps.get (i:=i) (d:=d) t (by simpa using e)
  exact ⟨u,by simpa using h1,h2⟩
theorem Reps.append: ∀ {vs ws:List V} {ds es:List D},Reps K H α vs ds->Reps K H α ws es->Reps K H α (vs ++ ws) (ds ++ es)
 |_,_,_,_,.nil,s=>s
 |_,_,_,_,.cons r t,s=> .cons r (Reps.append t s)
theorem Reps.ints: ∀ (ns:List Int),Reps K H α (ns.map V.int) (ns.map D.int)
 | []=> .nil
 |n :: r=> .cons (.int n) (Reps.ints r)
theorem ZhZ {p q:Addr} {xs:List V} {o:HO} (h:H q=some (.tup xs)) (hp: ∀ u,H p=some u->(∀ ys,u≠ .tup ys)/\ ∀ ob w,u≠ .frz ob w):upd H p o q=some (.tup xs):=by
 rw[Z1 (fun e=>(hp _ (e ▸ h)).1 _ rfl)]
 exact h
theorem Zh0 {p q:Addr} {xs:List V} {o:HO} (h:SqF K H q xs) (hp: ∀ u,H p=some u-> ∀ ob w,u≠ .frz ob w):SqF K (upd H p o) q xs:=by
 rcases h with ⟨ob,h⟩ | h
 ·refine .inl ⟨ob,?_⟩
  rw[Z1 (fun e=>hp _ (e ▸ h) _ _ rfl)]
  exact h
 ·exact .inr h
theorem Zkx {p q:Addr} {ob:Obj} {u o:HO} (h:H q=some (.frz ob u)) (hp: ∀ u,H p=some u-> ∀ ob w,u≠ .frz ob w):upd H p o q=some (.frz ob u):=by
 rw[Z1 (fun e=>hp _ (e ▸ h) _ _ rfl)]
 exact h
theorem Zh1 {p q C:Addr} {xs:List V} {o:HO} (h:EOk H q C xs) (hp: ∀ u,H p=some u->(∀ ob w,u≠ .frz ob w)/\ ∀ fs,u≠ .xd fs):EOk (upd H p o) q C xs:=by
 obtain ⟨oe,u,vs,h1,h2,h3,h4,h5⟩:=h
 refine ⟨oe,u,vs,?_,h2,h3,h4,?_⟩
 ·rw[Z1 (fun e=>(hp _ (e ▸ h1)).1 _ _ rfl)]
  exact h1
 ·rcases h5 with h5 | ⟨dx,fs,k1,k2,k3⟩
  ·exact .inl h5
  ·refine .inr ⟨dx,fs,k1,?_,k3⟩
   rw[Z1 (fun e=>(hp _ (e ▸ k2)).2 _ rfl)]
   exact k2
theorem Ext.new {p:Addr} {o:HO} (h:H p=none) {β:List Addr}:Ext K H (upd H p o) α (α ++ β):=
 ⟨fun q xs z=>ZhZ z (fun u e=>(by rw[h] at e;cases e)),fun q xs z=>Zh0 z (fun u e=>(by rw[h] at e;cases e)),fun q C xs z=>Zh1 z (fun u e=>(by rw[h] at e;cases e)),fun q j z=>Kn.ne z h,fun q o u z=>Zkx z (fun u e=>(by rw[h] at e;cases e)),β,rfl⟩
theorem Ext.new0 {p:Addr} {o:HO} (h:H p=none):Ext K H (upd H p o) α α:=by
 have e:=Ext.new (K:=K) (H:=H) (α:=α) (o:=o) h (β:=[])
 rw[List.append_nil] at e
 exact e
theorem Ext.wrK {p:Addr} {o:HO} {j:Nat} (h:Kn H p=some j) (nf: ∀ ob w,H p≠some (.frz ob w)) (h':Kn (upd H p o) p=some j):Ext K H (upd H p o) α α:=by
 have ne (u:HO) (e:H p=some u):(∀ ys,u≠ .tup ys)/\(∀ ob w,u≠ .frz ob w)/\ ∀ fs,u≠ .xd fs:=by
  unfold Kn at h
  rw[e] at h
  refine ⟨fun ys z=> ?_,fun ob w z=>nf ob w (by rw[e,z]),fun fs z=> ?_⟩<;>subst z<;>cases h
 refine ⟨fun q xs z=>ZhZ z fun u e=>⟨(ne u e).1,(ne u e).2.1⟩,fun q xs z=>Zh0 z fun u e=>(ne u e).2.1,fun q C xs z=>Zh1 z fun u e=>⟨(ne u e).2.1,(ne u e).2.2⟩,fun q i z=> ?_,fun q ob u z=>Zkx z fun u e=>(ne u e).2.1,[],(List.append_nil _).symm⟩
 by_cases c:q=p
 ·subst c
  rw[h] at z
  cases z
  exact h'
 ·unfold Kn
  rw[Z1 c]
  exact z
theorem Ext.wr {p:Addr} {xs ys:List V} (h:H p=some (.lst xs)):Ext K H (upd H p (.lst ys)) α α:=Ext.wrK (Kn.lst h) (fun ob w z=>by rw[h] at z;cases z) (Kn.lst ZJ)
noncomputable def Zqf:Key->D
 | .inl i=> .int i
 | .inr x=> .str x
noncomputable def Zni (ks:List Key):D:= .tup (ks.map Zqf)
noncomputable def ZgB (K:PySem.W.Frag) (H:Hp) (α:List Addr) {κ:Type} (key:κ->D) (kvs:List (κ × V)) (ds:List D):Prop:=
 ∃ es:List D,ds=List.zipWith (fun kv e=>D.tup [key kv.1,e]) kvs es/\Reps K H α (kvs.map (·.2)) es
noncomputable def SOk (K:PySem.W.Frag) (H:Hp) (α:List Addr) (p:Addr):SO->Prop
 | .lst ds=>(∃ xs,H p=some (.lst xs)/\Reps K H α xs ds)\/(∃ kvs,H p=some (.dK kvs)/\ZgB K H α Zqf kvs ds)\/(∃ kvs,H p=some (.dT kvs)/\ZgB K H α Zni kvs ds)\/(∃ o kvs r,H p=some (.frz o (.dK kvs))/\ds= .non :: r/\ZgB K H α Zqf kvs r)\/(∃ o kvs r,H p=some (.frz o (.dT kvs))/\ds= .non :: r/\ZgB K H α Zni kvs r)
theorem SOk.there {p:Addr} {o:SO} (h:SOk K H α p o): ∃ u,H p=some u:=by
 cases o with
 |lst ds=>rcases h with ⟨_,e,_⟩ | ⟨_,e,_⟩ | ⟨_,e,_⟩ | ⟨_,_,_,e,_⟩ | ⟨_,_,_,e,_⟩<;>exact ⟨_,e⟩
theorem SOk.mono {p:Addr} {o:SO} (h:SOk K H α p o) (ex:Ext K H H' α α') (e:H' p=H p):SOk K H' α' p o:=by
 cases o with
 |lst ds=>
  rcases h with ⟨xs,h1,h2⟩ | ⟨kvs,h1,es,h2,h3⟩ | ⟨kvs,h1,es,h2,h3⟩ | ⟨o,kvs,r,h1,h0,es,h2,h3⟩ | ⟨o,kvs,r,h1,h0,es,h2,h3⟩
  ·exact .inl ⟨xs,e.trans h1,Reps.mono ex h2⟩
  ·exact .inr (.inl ⟨kvs,e.trans h1,es,h2,Reps.mono ex h3⟩)
  ·exact .inr (.inr (.inl ⟨kvs,e.trans h1,es,h2,Reps.mono ex h3⟩))
  ·exact .inr (.inr (.inr (.inl ⟨o,kvs,r,e.trans h1,h0,es,h2,Reps.mono ex h3⟩)))
  ·exact .inr (.inr (.inr (.inr ⟨o,kvs,r,e.trans h1,h0,es,h2,Reps.mono ex h3⟩)))
structure HR (K:PySem.W.Frag) (H:Hp) (α:List Addr) (M:Sto):Prop where
 len:α.length=M.length
 nd:α.Nodup
 ob: ∀ (n:Nat) (p:Addr) (o:SO),α[n]?=some p->M[n]?=some o->SOk K H α p o
theorem HR.nil:HR K H [] []:=⟨rfl,List.nodup_nil,fun n p o h=>by simp at h⟩
theorem Kn.at {H:Hp} {p:Addr} {j:Nat} {u:HO} (k:Kn H p=some j) (e:H p=some u):(match some u with | some (.lst _)=>some 0 | some (.dK _)=>some 1 | some (.dT _)=>some 2 | some (.frz _ (.dK _))=>some 1 | some (.frz _ (.dT _))=>some 2 | _=>none)=some j:=by
 unfold Kn at k
 rw[e] at k
 exact k
theorem HR.at (h:HR K H α M) {n:Nat} {p:Addr} {ds:List D} (e:RefK H α 0 n p) (m:M[n]?=some (.lst ds)): ∃ xs,H p=some (.lst xs)/\Reps K H α xs ds:=by
 rcases h.ob n p _ e.at' m with h1 | ⟨_,h1,_⟩ | ⟨_,h1,_⟩ | ⟨_,_,_,h1,_⟩ | ⟨_,_,_,h1,_⟩
 ·exact h1
 all_goals exact absurd (Kn.at e.kn h1) (fun z=>nomatch z)
theorem RefK.lst {n:Nat} {p:Addr} (e:RefK H α 0 n p): ∃ xs,H p=some (.lst xs):=by
 have:=e.kn
 unfold Kn at this
 split at this
 ·rename_i xs h;exact ⟨xs,h⟩
 all_goals cases this
theorem HR.some_at {M:Sto} (h:HR K H α M) {n:Nat} {p:Addr} (e:RefK H α 0 n p): ∃ xs,H p=some (.lst xs):=e.lst
theorem HR.there {M:Sto} (h:HR K H α M) {n:Nat} {p:Addr} (e:α[n]?=some p): ∃ u,H p=some u:=by
 have hl:n < α.length:=(List.getElem?_eq_some_iff.mp e).1
 have hm:n < M.length:=by rw[<- h.len];exact hl
 exact (h.ob n p M[n] e (List.getElem?_eq_getElem hm)).there
theorem HR.tup {M:Sto} {p:Addr} {o:HO} (h:HR K H α M) (hp:H p=none):HR K (upd H p o) α M:=
 ⟨h.len,h.nd,fun n q so e m=>by
  obtain ⟨u,hu⟩:=h.there e
  exact (h.ob n q so e m).mono (Ext.new0 hp) (Z1 (ZaC hu hp))⟩
theorem HR.newO {M:Sto} {p:Addr} {o:HO} {so:SO} (h:HR K H α M) (hp:H p=none) (r:SOk K (upd H p o) (α ++ [p]) p so):HR K (upd H p o) (α ++ [p]) (M ++ [so]):=by
 have ex:Ext K H (upd H p o) α (α ++ [p]):=Ext.new hp
 refine ⟨by rw[List.length_append,List.length_append,h.len];rfl,?_,fun n q so' e m=> ?_⟩
 ·refine List.nodup_append.mpr ⟨h.nd,by simp,fun a ha b hb=> ?_⟩
  have hb':b=p:=by simpa using hb
  obtain ⟨n,hn,e⟩:=List.getElem_of_mem ha
  obtain ⟨u,z⟩:=h.there (n:=n) (p:=a) (by rw[List.getElem?_eq_getElem hn,e])
  rw[hb']
  exact ZaC z hp
 ·by_cases hn:n < α.length
  ·rw[List.getElem?_append_left hn] at e
   rw[List.getElem?_append_left (by rw[<- h.len];exact hn)] at m
   obtain ⟨u,hu⟩:=h.there e
   exact (h.ob n q so' e m).mono ex (Z1 (ZaC hu hp))
  ·have en:n=α.length:=by
    have:n < (α ++ [p]).length:=(List.getElem?_eq_some_iff.mp e).1
    rw[List.length_append,List.length_singleton] at this
    omega
   subst en
   rw[List.getElem?_append_right (Nat.le_refl _),Nat.sub_self] at e
   rw[h.len,List.getElem?_append_right (Nat.le_refl _),Nat.sub_self] at m
   cases e
   cases m
   exact r
theorem HR.new {M:Sto} {p:Addr} {xs:List V} {ds:List D} (h:HR K H α M) (hp:H p=none) (r:Reps K H α xs ds):HR K (upd H p (.lst xs)) (α ++ [p]) (M ++ [.lst ds]):=
 h.newO hp (.inl ⟨xs,ZJ,Reps.mono (Ext.new hp) r⟩)
theorem ZjD {n m:Nat} {p:Addr} (h:α.Nodup) (a:α[n]?=some p) (b:α[m]?=some p):n=m:=by
 obtain ⟨h1,e1⟩:=List.getElem?_eq_some_iff.mp a
 obtain ⟨h2,e2⟩:=List.getElem?_eq_some_iff.mp b
 exact (List.getElem_inj h).mp (e1.trans e2.symm)
theorem HR.wrO {M:Sto} {n:Nat} {p:Addr} {o:HO} {so:SO} (h:HR K H α M) (e:α[n]?=some p) (ex:Ext K H (upd H p o) α α) (r:SOk K (upd H p o) α p so):HR K (upd H p o) α (M.set n so):=by
 have hn:n < M.length:=by rw[<- h.len];exact (List.getElem?_eq_some_iff.mp e).1
 refine ⟨by rw[List.length_set];exact h.len,h.nd,fun k q so' e' m=> ?_⟩
 by_cases hk:k=n
 ·subst hk
  rw[e] at e'
  cases e'
  rw[List.getElem?_set_self hn] at m
  cases m
  exact r
 ·rw[List.getElem?_set_ne (Ne.symm hk)] at m
  have hq:q≠p:=fun z=>hk (ZjD h.nd (z ▸ e') e)
  exact (h.ob k q so' e' m).mono ex (Z1 hq)
theorem HR.wr {M:Sto} {n:Nat} {p:Addr} {xs ys:List V} {ds:List D} (h:HR K H α M) (e:RefK H α 0 n p) (hp:H p=some (.lst ys)) (r:Reps K H α xs ds):HR K (upd H p (.lst xs)) α (M.set n (.lst ds)):=
 h.wrO e.at' (Ext.wr hp) (.inl ⟨xs,ZJ,Reps.mono (Ext.wr hp) r⟩)
end
inductive Out (β:Type) where
 |ok (a:β) (M:Sto)
 |exc (c:Str) (M:Sto)
 |bad
noncomputable def Out.bind {β γ:Type} (o:Out β) (f:β->Sto->Out γ):Out γ:=match o with
 | .ok a M=>f a M
 | .exc c M=> .exc c M
 | .bad=> .bad
inductive Fl where
 |nx (ρ:Ro) (M:Sto)
 |ret (d:D) (M:Sto)
 |brk (ρ:Ro) (M:Sto)
 |cnt (ρ:Ro) (M:Sto)
 |exc (c:Str) (M:Sto)
 |bad
noncomputable def OG {β γ:Type} (K:PySem.W.Frag) (R:Hp->List Addr->γ->β->Prop) (H:Hp) (α:List Addr) (ξ:XK) (Q:γ->Hp->Prop):Out β->Prop
 | .ok d M'=> ∀ v H' α',Ext K H H' α α'->HR K H' α' M'->R H' α' v d->Q v H'
 | .exc c M'=> ∀ C H' α',PySem.W.nsIn K mainGlobals c=some (some (.ref C))->Ext K H H' α α'->HR K H' α' M'->ξ (.ref C) none H'
 | .bad=>False
theorem OG.ext {β γ:Type} {K:PySem.W.Frag} {R:Hp->List Addr->γ->β->Prop} {H H1:Hp} {α α1:List Addr} {ξ:XK} {Q:γ->Hp->Prop} {o:Out β} (h:OG K R H α ξ Q o) (e:Ext K H H1 α α1):OG K R H1 α1 ξ Q o:=by
 cases o with
 |ok d M'=>exact fun v H' α' e'=>h v H' α' (e.trans e')
 |exc c M'=>exact fun C H' α' n e'=>h C H' α' n (e.trans e')
 |bad=>exact h
noncomputable abbrev OP (K:PySem.W.Frag):=OG K (Rep K)
noncomputable abbrev OT (K:PySem.W.Frag):=OG (β:=Bool) (γ:=Bool) K (fun _ _ v d=>v=d)
noncomputable abbrev OA (K:PySem.W.Frag):=OG K (Reps K)
noncomputable def SR (K:PySem.W.Frag) (H:Hp) (α:List Addr) (σ:L2.St) (ρ:Ro):Prop:=σ.length=ρ.length/\ ∀ (i:Nat) (d:D),ρ[i]?=some (some d)-> ∃ v,σ[i]?=some (some v)/\Rep K H α v d
theorem SR.mono {K:PySem.W.Frag} {H H':Hp} {α α':List Addr} {σ:L2.St} {ρ:Ro} (h:SR K H α σ ρ) (e:Ext K H H' α α'):SR K H' α' σ ρ:=
 ⟨h.1,fun i d q=>let ⟨v,a,b⟩:=h.2 i d q;⟨v,a,Rep.mono e b⟩⟩
theorem SR.set {K:PySem.W.Frag} {H:Hp} {α:List Addr} {σ:L2.St} {ρ:Ro} {v:V} {d:D} (h:SR K H α σ ρ) (i:Nat) (r:Rep K H α v d):SR K H α (σ.set i (some v)) (ρ.set i (some d)):=by
 refine ⟨by rw[List.length_set,List.length_set];exact h.1,fun j e q=> ?_⟩
 by_cases hj:j=i
 ·subst hj
  have hl:j < ρ.length:=by
   have:=(List.getElem?_eq_some_iff.mp q).1
   rw[List.length_set] at this
   exact this
  rw[List.getElem?_set_self hl] at q
  cases q
  exact ⟨v,by rw[List.getElem?_set_self (by rw[h.1];exact hl)],r⟩
 ·rw[List.getElem?_set_ne (Ne.symm hj)] at q
  rw[List.getElem?_set_ne (Ne.symm hj)]
  exact h.2 j e q
noncomputable abbrev Ev:=Ro->Sto->Out D
noncomputable abbrev Tv:=Ro->Sto->Out Bool
noncomputable abbrev Av:=Ro->Sto->Out (List D)
noncomputable abbrev Sv:=Ro->Sto->Fl
noncomputable def DE (X:Cx) (ξ:XK) (e:Expr) (f:Ev):Prop:= ∃ t:TE,PE X e t/\ ∀ σ ρ H α M Q,SR X.K H α σ ρ->HR X.K H α M->OP X.K H α ξ Q (f ρ M)->t σ H Q
noncomputable def DT (X:Cx) (ξ:XK) (e:Expr) (f:Tv):Prop:= ∃ t:TT,PT X e t/\ ∀ σ ρ H α M Q,SR X.K H α σ ρ->HR X.K H α M->OT X.K H α ξ Q (f ρ M)->t σ H Q
noncomputable def DW (X:Cx) (ξ:XK) (e:Expr) (f:Tv):Prop:= ∃ t:TT,PW X e t/\ ∀ σ ρ H α M Q,SR X.K H α σ ρ->HR X.K H α M->OT X.K H α ξ Q (f ρ M)->t σ H Q
noncomputable def DA (X:Cx) (ξ:XK) (es:List Expr) (f:Av):Prop:= ∃ t:TA,PA X es t/\ ∀ σ ρ H α M Q,SR X.K H α σ ρ->HR X.K H α M->OA X.K H α ξ Q (f ρ M)->t σ H Q
theorem OG.seq {β γ β' γ':Type} {K:PySem.W.Frag} {R:Hp->List Addr->γ->β->Prop} {R':Hp->List Addr->γ'->β'->Prop} {H:Hp} {α:List Addr} {ξ:XK} {Q:γ'->Hp->Prop} {Q1:γ->Hp->Prop} {o:Out β} {f:β->Sto->Out β'}
  (h:OG K R' H α ξ Q (o.bind f)) (k: ∀ d M' v H' α',Ext K H H' α α'->HR K H' α' M'->R H' α' v d->OG K R' H' α' ξ Q (f d M')->Q1 v H'):OG K R H α ξ Q1 o:=by
 cases o with
 |ok d M'=>exact fun v H' α' e hr r=>k d M' v H' α' e hr r (OG.ext (o:=f d M') h e)
 |exc c M'=>exact h
 |bad=>exact h
section
variable {X:Cx} {ξ:XK} {a b e:Expr} {fa fb:Ev} {pos:Pos}
noncomputable def Zg (i:Nat):Ev:=fun ρ M=>match ρ[i]? with | some (some d)=> .ok d M | _=> .bad
noncomputable def eC (d:D):Ev:=fun _ M=> .ok d M
theorem Zb (i:Nat) {x:Str} (hN:X.N[i]?=some x:=by rfl) (hv:Vis X.env.scope x:=by first | exact Or.inl rfl | exact Or.inr (Or.inl rfl) | exact Or.inr (Or.inr rfl)) (hd:(x == ("__debug__":Str))=false:=by decide)
  (hcd:(x == ("__classdict__":Str))=false:=by decide):DE X ξ (.Name x pos) (Zg i):=by
 refine ⟨_,ZmO hN hv hd hcd,fun σ ρ H α M Q s h q=> ?_⟩
 unfold Zg at q
 cases e:ρ[i]? with
 |none=>rw[e] at q;exact q.elim
 |some o=>
  cases o with
  |none=>rw[e] at q;exact q.elim
  |some d=>
   rw[e] at q
   obtain ⟨v,h1,h2⟩:=s.2 i d e
   exact ⟨v,h1,q v H α Ext.refl h h2⟩
theorem Ze {i:Int} {j pos}:DE X ξ (.Constant (.int i) j pos) (eC (.int i)):=⟨_,ZmP,fun _ _ H α M _ _ h q=>q _ H α Ext.refl h (.int i)⟩
theorem Zaz {i:Bool} {j pos}:DE X ξ (.Constant (.bool i) j pos) (eC (.bl i)):=⟨_,ZpY,fun _ _ H α M _ _ h q=>q _ H α Ext.refl h (.bl i)⟩
theorem Zh2 {j pos}:DE X ξ (.Constant .none j pos) (eC .non):=⟨_,ZmQ,fun _ _ H α M _ _ h q=>q _ H α Ext.refl h .non⟩
theorem Zbb {x:Str} {j pos}:DE X ξ (.Constant (.str x) j pos) (eC (.str x)):=⟨_,ZmR,fun _ _ H α M _ _ h q=>q _ H α Ext.refl h (.str x)⟩
noncomputable abbrev Bo:=D->D->Sto->Out D
noncomputable def e2 (f:Bo) (fa fb:Ev):Ev:=fun ρ M=>(fa ρ M).bind fun x M1=>(fb ρ M1).bind fun y M2=>f x y M2
noncomputable def BO (X:Cx) (ξ:XK) (r:R2) (f:Bo):Prop:= ∀ H α M v w x y Q,HR X.K H α M->Rep X.K H α v x->Rep X.K H α w y->OP X.K H α ξ Q (f x y M)->r v w H Q
theorem two {r:R2} {f:Bo} (hb:BO X ξ r f) {ta tb:TE} (qa: ∀ σ ρ H α M Q,SR X.K H α σ ρ->HR X.K H α M->OP X.K H α ξ Q (fa ρ M)->ta σ H Q)
  (qb: ∀ σ ρ H α M Q,SR X.K H α σ ρ->HR X.K H α M->OP X.K H α ξ Q (fb ρ M)->tb σ H Q): ∀ σ ρ H α M Q,SR X.K H α σ ρ->HR X.K H α M->OP X.K H α ξ Q (e2 f fa fb ρ M)->tOp r ta tb σ H Q:=by
 intro σ ρ H α M Q s h q
 refine qa σ ρ H α M _ s h (OG.seq q fun x M1 v H1 α1 e1 h1 r1 q1=> ?_)
 refine qb σ ρ H1 α1 M1 _ (s.mono e1) h1 (OG.seq q1 fun y M2 w H2 α2 e2 h2 r2 q2=> ?_)
 exact hb H2 α2 M2 v w x y Q h2 (Rep.mono e2 r1) r2 q2
theorem Zg3 {op:Operator} {r:R2} {f:Bo} (ho:OpR X (binaryOp op) r) (hf:BO X ξ r f) (ha:DE X ξ a fa) (hb:DE X ξ b fb):DE X ξ (.BinOp a op b pos) (e2 f fa fb):=by
 obtain ⟨ta,ha,qa⟩:=ha
 obtain ⟨tb,hb,qb⟩:=hb
 exact ⟨_,Zp7 ho ha hb,two hf qa qb⟩
theorem ZaN {op:CmpOp} {r:R2} {f:Bo} (ho:OpR X (compareOp op) r) (hf:BO X ξ r f) (ha:DE X ξ a fa) (hb:DE X ξ b fb) (hm:behindInMarks op b=false:=by first | exact Zkr _ | with_unfolding_all rfl):DE X ξ (.Compare a [op] [b] pos) (e2 f fa fb):=by
 obtain ⟨ta,ha,qa⟩:=ha
 obtain ⟨tb,hb,qb⟩:=hb
 exact ⟨_,Zlk ho ha hb hm,two hf qa qb⟩
noncomputable def tv (f:Ev):Tv:=fun ρ M=>(f ρ M).bind fun x M1=>match x with | .bl k=> .ok k M1 | _=> .bad
theorem Znj {t:TE} {f:Ev} (qa: ∀ σ ρ H α M Q,SR X.K H α σ ρ->HR X.K H α M->OP X.K H α ξ Q (f ρ M)->t σ H Q): ∀ σ ρ H α M Q,SR X.K H α σ ρ->HR X.K H α M->OT X.K H α ξ Q (tv f ρ M)->Zm8 t σ H Q:=by
 intro σ ρ H α M Q s h q
 refine qa σ ρ H α M _ s h (OG.seq q fun x M1 v H1 α1 e1 h1 r1 q1=> ?_)
 cases r1 with
 |bl k=>exact ⟨k,rfl,q1 k H1 α1 Ext.refl h1 rfl⟩
 |_=>exact q1.elim
theorem Zw {op:CmpOp} {r:R2} {f:Bo} (ho:OpR X (compareOp op) r) (hf:BO X ξ r f) (ha:DE X ξ a fa) (hb:DE X ξ b fb) (hm:behindInMarks op b=false:=by first | exact Zkr _ | with_unfolding_all rfl):DT X ξ (.Compare a [op] [b] pos) (tv (e2 f fa fb)):=by
 obtain ⟨ta,ha,qa⟩:=ha
 obtain ⟨tb,hb,qb⟩:=hb
 exact ⟨_,Zll ho ha hb hm,Znj (two hf qa qb)⟩
theorem ZG (h:DE X ξ e fa) (he: ∀ whole,isTrue e X.env whole=(do let v <- whole;standAt e.pos;holding [v] (truthy v)):=by intro _;rfl):DT X ξ e (tv fa):=by
 obtain ⟨ta,ha,qa⟩:=h
 exact ⟨_,ZmS ha he,Znj qa⟩
variable {ga gb:Tv} {Zdc:List Expr}
noncomputable def ZcX (f g:Tv):Tv:=fun ρ M=>(f ρ M).bind fun k M1=>if k=true then g ρ M1 else .ok false M1
noncomputable def Zb2 (f g:Tv):Tv:=fun ρ M=>(f ρ M).bind fun k M1=>if k=true then .ok true M1 else g ρ M1
noncomputable def Zaa (f:Tv):Tv:=fun ρ M=>(f ρ M).bind fun k M1=> .ok (!k) M1
theorem ZbS (ha:DT X ξ a ga):DW X ξ (.BoolOp .And [a] pos) ga:=let ⟨_,h,q⟩:=ha;⟨_,pw_and1 h,q⟩
theorem ZaD (ha:DT X ξ a ga):DW X ξ (.BoolOp .Or [a] pos) ga:=let ⟨_,h,q⟩:=ha;⟨_,pw_or1 h,q⟩
theorem ZcG (ha:DT X ξ a ga) (hb:DW X ξ (.BoolOp .And (b :: Zdc) pos) gb):DW X ξ (.BoolOp .And (a :: b :: Zdc) pos) (ZcX ga gb):=by
 obtain ⟨ta,ha,qa⟩:=ha
 obtain ⟨tb,hb,qb⟩:=hb
 refine ⟨_,pw_and ha hb,fun σ ρ H α M Q s h q=> ?_⟩
 refine qa σ ρ H α M _ s h (OG.seq q fun k M1 v H1 α1 e1 h1 r1 q1=> ?_)
 cases r1
 cases k with
 |true=>exact Zkw (qb σ ρ H1 α1 M1 Q (s.mono e1) h1 q1)
 |false=>exact Zkv (q1 false H1 α1 Ext.refl h1 rfl)
theorem ZaA (ha:DT X ξ a ga) (hb:DW X ξ (.BoolOp .Or (b :: Zdc) pos) gb):DW X ξ (.BoolOp .Or (a :: b :: Zdc) pos) (Zb2 ga gb):=by
 obtain ⟨ta,ha,qa⟩:=ha
 obtain ⟨tb,hb,qb⟩:=hb
 refine ⟨_,pw_or ha hb,fun σ ρ H α M Q s h q=> ?_⟩
 refine qa σ ρ H α M _ s h (OG.seq q fun k M1 v H1 α1 e1 h1 r1 q1=> ?_)
 cases r1
 cases k with
 |true=>exact Zkw (q1 true H1 α1 Ext.refl h1 rfl)
 |false=>exact Zkv (qb σ ρ H1 α1 M1 Q (s.mono e1) h1 q1)
theorem ZcH (h:DW X ξ e ga):DT X ξ e ga:=let ⟨_,h,q⟩:=h;⟨_,h.pt,q⟩
theorem ZQ (ha:DT X ξ a ga):DT X ξ (.UnaryOp .Not a pos) (Zaa ga):=by
 obtain ⟨ta,ha,qa⟩:=ha
 refine ⟨_,ZmT ha,fun σ ρ H α M Q s h q=> ?_⟩
 refine qa σ ρ H α M _ s h (OG.seq q fun k M1 v H1 α1 e1 h1 r1 q1=> ?_)
 cases r1
 exact q1 (!k) H1 α1 Ext.refl h1 rfl
noncomputable def ZaT (f g:Ev):Ev:=fun ρ M=>(f ρ M).bind fun x M1=>match x with | .bl k=>if k=true then g ρ M1 else .ok (.bl false) M1 | _=> .bad
noncomputable def Znk (f g:Ev):Ev:=fun ρ M=>(f ρ M).bind fun x M1=>match x with | .bl k=>if k=true then .ok (.bl true) M1 else g ρ M1 | _=> .bad
noncomputable def Zg4 (f:Ev):Ev:=fun ρ M=>(f ρ M).bind fun x M1=>match x with | .bl k=> .ok (.bl (!k)) M1 | _=> .bad
theorem ZbB {op} (ha:DE X ξ a fa):DE X ξ (.BoolOp op [a] pos) fa:=let ⟨_,h,q⟩:=ha;⟨_,ZmU h,q⟩
theorem ZaE (ha:DE X ξ a fa) (hb:DE X ξ (.BoolOp .And (b :: Zdc) pos) fb):DE X ξ (.BoolOp .And (a :: b :: Zdc) pos) (ZaT fa fb):=by
 obtain ⟨ta,ha,qa⟩:=ha
 obtain ⟨tb,hb,qb⟩:=hb
 refine ⟨_,ZmV ha hb,fun σ ρ H α M Q s h q=> ?_⟩
 refine qa σ ρ H α M _ s h (OG.seq q fun x M1 v H1 α1 e1 h1 r1 q1=> ?_)
 cases r1 with
 |bl k=>
  refine ⟨k,rfl,?_⟩
  cases k with
  |true=>exact Zkw (qb σ ρ H1 α1 M1 Q (s.mono e1) h1 q1)
  |false=>exact Zkv (q1 _ H1 α1 Ext.refl h1 (.bl false))
 |_=>exact q1.elim
theorem Zqg (ha:DE X ξ a fa) (hb:DE X ξ (.BoolOp .Or (b :: Zdc) pos) fb):DE X ξ (.BoolOp .Or (a :: b :: Zdc) pos) (Znk fa fb):=by
 obtain ⟨ta,ha,qa⟩:=ha
 obtain ⟨tb,hb,qb⟩:=hb
 refine ⟨_,Zp1 ha hb,fun σ ρ H α M Q s h q=> ?_⟩
 refine qa σ ρ H α M _ s h (OG.seq q fun x M1 v H1 α1 e1 h1 r1 q1=> ?_)
 cases r1 with
 |bl k=>
  refine ⟨k,rfl,?_⟩
  cases k with
  |true=>exact Zkw (q1 _ H1 α1 Ext.refl h1 (.bl true))
  |false=>exact Zkv (qb σ ρ H1 α1 M1 Q (s.mono e1) h1 q1)
 |_=>exact q1.elim
theorem Zky (ha:DE X ξ a fa):DE X ξ (.UnaryOp .Not a pos) (Zg4 fa):=by
 obtain ⟨ta,ha,qa⟩:=ha
 refine ⟨_,ZmW ha,fun σ ρ H α M Q s h q=> ?_⟩
 refine qa σ ρ H α M _ s h (OG.seq q fun x M1 v H1 α1 e1 h1 r1 q1=> ?_)
 cases r1 with
 |bl k=>exact ⟨k,rfl,q1 _ H1 α1 Ext.refl h1 (.bl (!k))⟩
 |_=>exact q1.elim
noncomputable def eIf (c:Tv) (f g:Ev):Ev:=fun ρ M=>(c ρ M).bind fun k M1=>if k=true then f ρ M1 else g ρ M1
variable {es:List Expr} {fs:Av}
noncomputable def aNil:Av:=fun _ M=> .ok [] M
noncomputable def Zc (f:Ev) (g:Av):Av:=fun ρ M=>(f ρ M).bind fun x M1=>(g ρ M1).bind fun xs M2=> .ok (x :: xs) M2
theorem Zd:DA X ξ [] aNil:=⟨_,Zkt,fun _ _ H α M _ _ h q=>q _ H α Ext.refl h .nil⟩
theorem Za (ha:DE X ξ e fa) (hr:DA X ξ es fs) (hs:starEach (e :: es) X.env=(false,eval e X.env) :: starEach es X.env:=by rfl):DA X ξ (e :: es) (Zc fa fs):=by
 obtain ⟨ta,ha,qa⟩:=ha
 obtain ⟨tb,hb,qb⟩:=hr
 refine ⟨_,Zf3 ha hb hs,fun σ ρ H α M Q s h q=> ?_⟩
 refine qa σ ρ H α M _ s h (OG.seq q fun x M1 v H1 α1 e1 h1 r1 q1=> ?_)
 refine qb σ ρ H1 α1 M1 _ (s.mono e1) h1 (OG.seq q1 fun y M2 w H2 α2 e2 h2 r2 q2=> ?_)
 exact q2 _ H2 α2 Ext.refl h2 (.cons (Rep.mono e2 r1) r2)
noncomputable def Zao (f:Av):Ev:=fun ρ M=>(f ρ M).bind fun xs M1=>if xs.length<=1000 then .ok (.tup xs) M1 else .bad
noncomputable def Zcn (f:Av):Ev:=fun ρ M=>(f ρ M).bind fun xs M1=>if xs.length<=1000 then .ok (.ref M1.length) (M1 ++ [.lst xs]) else .bad
theorem small {n:Nat} (h:n<=1000):n<=sizeLine:=Nat.le_of_lt (ZhW h)
theorem Zx {x1} (ha:DA X ξ es fs):DE X ξ (.Tuple es x1 pos) (Zao fs):=by
 obtain ⟨ta,ha,qa⟩:=ha
 refine ⟨_,Zm9 ha,fun σ ρ H α M Q s h q=> ?_⟩
 refine qa σ ρ H α M _ s h (OG.seq q fun xs M1 vs H1 α1 e1 h1 r1 q1=> ?_)
 by_cases hl:xs.length<=1000
 ·rw[if_pos hl] at q1
  refine ⟨by rw[r1.length];exact small hl,fun p hp=>q1 _ _ α1 (Ext.new0 hp) (h1.tup hp) (.tup ZJ (Reps.mono (Ext.new0 hp) r1))⟩
 ·rw[if_neg hl] at q1
  exact q1.elim
theorem HR.last {K:PySem.W.Frag} {H:Hp} {α:List Addr} {M:Sto} (h:HR K H α M) (p:Addr):(α ++ [p])[M.length]?=some p:=by
 rw[<- h.len,List.getElem?_append_right (Nat.le_refl _),Nat.sub_self]
 rfl
theorem Z2 (ha:DA X ξ es fs):DE X ξ (.List es pos) (Zcn fs):=by
 obtain ⟨ta,ha,qa⟩:=ha
 refine ⟨_,Zna ha,fun σ ρ H α M Q s h q=> ?_⟩
 refine qa σ ρ H α M _ s h (OG.seq q fun xs M1 vs H1 α1 e1 h1 r1 q1=> ?_)
 by_cases hl:xs.length<=1000
 ·rw[if_pos hl] at q1
  refine ⟨by rw[r1.length];exact small hl,fun p hp=>q1 _ _ (α1 ++ [p]) (Ext.new hp) (h1.new hp r1) (.ref ⟨h1.last p,Kn.lst ZJ⟩)⟩
 ·rw[if_neg hl] at q1
  exact q1.elim
end
end DL
end
section
namespace DL
open PySem PySem.Spec PyProof.Rows L2
open PySem.SeqAt (EqAt RcAt RcNeAt)
noncomputable def Zau (i j:Int):Prop:=Builtin.Int.intBits i<=64\/Builtin.Int.intBits j<=64\/(Builtin.Int.intBits i<=60000000/\Builtin.Int.intBits j<=60000000)
noncomputable instance (i j:Int):Decidable (Zau i j):=by unfold Zau;infer_instance
theorem Zau.ok {i j:Int} (h:Zau i j):IntMulOk i j:=by
 rcases h with h | h | ⟨h1,h2⟩
 ·exact .of_left h
 ·exact .of_right h
 ·exact .of_le h1 h2 (by decide)
theorem Zg5 {i j:Int} (m n:Nat) (h1:i.natAbs < 2 ^ m) (h2:j.natAbs < 2 ^ n) (hm:m<=60000000:=by decide) (hn:n<=60000000:=by decide):Zau i j:=
 .inr (.inr ⟨Nat.le_trans (intBits_le_iff.mpr h1) hm,Nat.le_trans (intBits_le_iff.mpr h2) hn⟩)
noncomputable def ZbE (j:Int):Prop:=j≠0/\j.natAbs.log2 < 9000
noncomputable instance (j:Int):Decidable (ZbE j):=by unfold ZbE;infer_instance
section
variable {X:Cx}
theorem Zly:OpR X (binaryOp .Mult) (rI Zau fun i j=> .int (i * j)):=opI fun _ _ _ _ _ _ _ hc q=>mul_int q hc.ok
theorem ZjE:OpR X (binaryOp .FloorDiv) (rI (fun _ j=>ZbE j) fun i j=> .int (i.fdiv j)):=opI fun _ _ _ _ _ _ _ hc q=>floordiv_int hc.1 q (.inl (PyProof.noPylong_of_log2 hc.2))
end
noncomputable def dAdd:Bo:=fun x y M=>match x,y with
 | .int i,.int j=> .ok (.int (i + j)) M
 | .str i,.str j=>if i.length + j.length<=100000 then .ok (.str (i ++ j)) M else .bad
 | .ref n,.ref m=>match M[n]?,M[m]? with
  |some (.lst xs),some (.lst ys)=>if xs.length + ys.length<=10000000 then .ok (.ref M.length) (M ++ [.lst (xs ++ ys)]) else .bad
  |_,_=> .bad
 | .tup xs,.tup ys=>if xs.length + ys.length<=100000/\xs≠[] then .ok (.tup (xs ++ ys)) M else .bad
 |_,_=> .bad
noncomputable def dSub:Bo:=fun x y M=>match x,y with | .int i,.int j=> .ok (.int (i - j)) M | _,_=> .bad
noncomputable def dMul:Bo:=fun x y M=>match x,y with | .int i,.int j=>if Zau i j then .ok (.int (i * j)) M else .bad | _,_=> .bad
noncomputable def dDiv:Bo:=fun x y M=>match x,y with | .int i,.int j=>if ZbE j then .ok (.int (i.fdiv j)) M else .bad | _,_=> .bad
noncomputable def dMod:Bo:=fun x y M=>match x,y with | .int i,.int j=>if j≠0 then .ok (.int (i.fmod j)) M else .bad | _,_=> .bad
noncomputable def dPow:Bo:=fun x y M=>match x,y with | .int i,.int j=>if 0<=j/\j<=1000000/\i.natAbs < 2 ^ 64 then .ok (.int (i ^ j.toNat)) M else .bad | _,_=> .bad
noncomputable def dLt:Bo:=fun x y M=>match x,y with | .int i,.int j=> .ok (.bl (decide (i < j))) M | _,_=> .bad
noncomputable def dLe:Bo:=fun x y M=>match x,y with | .int i,.int j=> .ok (.bl (decide (i<=j))) M | _,_=> .bad
noncomputable def dGt:Bo:=fun x y M=>match x,y with | .int i,.int j=> .ok (.bl (decide (j < i))) M | _,_=> .bad
noncomputable def dGe:Bo:=fun x y M=>match x,y with | .int i,.int j=> .ok (.bl (decide (j<=i))) M | _,_=> .bad
theorem Znl {n:Nat} (h:n<=100000):n<=sizeLine:=Nat.le_trans h (by decide)
section
variable {X:Cx} {ξ:XK}
theorem ZcI {r:R2} {f:Bo} {C:Int->Int->Prop} [∀ i j,Decidable (C i j)] {g:Int->Int->D} {gV:Int->Int->V} (hg: ∀ H α i j,Rep X.K H α (gV i j) (g i j))
  (hf: ∀ x y M,f x y M=match x,y with | .int i,.int j=>if C i j then .ok (g i j) M else .bad | _,_=> .bad) (hr: ∀ i j H Q,C i j->Q (gV i j) H->r (.int i) (.int j) H Q):BO X ξ r f:=by
 intro H α M v w x y Q h rv rw' q
 rw[hf] at q
 cases rv<;>first | exact q.elim | skip
 cases rw'<;>first | exact q.elim | skip
 rename_i i j
 by_cases c:C i j
 ·simp only[if_pos c] at q
  exact hr i j H Q c (q _ H α Ext.refl h (hg H α i j))
 ·simp only[if_neg c] at q
  exact q.elim
theorem Znm:BO X ξ (rI0 fun i j=> .int (i - j)) dSub:=ZcI (C:=fun _ _=>True) (fun _ _ i j=> .int (i - j)) (fun x y M=>by cases x<;>cases y<;>simp[dSub]) fun i j H Q _ q=>⟨i,j,rfl,rfl,q⟩
theorem Znn:BO X ξ (rI Zau fun i j=> .int (i * j)) dMul:=ZcI (C:=Zau) (fun _ _ i j=> .int (i * j)) (fun x y M=>by cases x<;>cases y<;>rfl) fun i j H Q c q=>⟨i,j,rfl,rfl,c,q⟩
theorem Zno:BO X ξ (rI (fun _ j=>ZbE j) fun i j=> .int (i.fdiv j)) dDiv:=ZcI (C:=fun _ j=>ZbE j) (fun _ _ i j=> .int (i.fdiv j)) (fun x y M=>by cases x<;>cases y<;>rfl) fun i j H Q c q=>⟨i,j,rfl,rfl,c,q⟩
theorem Znp:BO X ξ (rI (fun _ j=>j≠0) fun i j=> .int (i.fmod j)) dMod:=ZcI (C:=fun _ j=>j≠0) (fun _ _ i j=> .int (i.fmod j)) (fun x y M=>by cases x<;>cases y<;>rfl) fun i j H Q c q=>⟨i,j,rfl,rfl,c,q⟩
theorem Znq:BO X ξ (rI ZrX fun i j=> .int (i ^ j.toNat)) dPow:=ZcI (C:=fun i j=>0<=j/\j<=1000000/\i.natAbs < 2 ^ 64) (fun _ _ i j=> .int (i ^ j.toNat)) (fun x y M=>by cases x<;>cases y<;>rfl) fun i j H Q c q=>⟨i,j,rfl,rfl,c,q⟩
theorem Zdr:BO X ξ (rI0 fun i j=> .bl (decide (i < j))) dLt:=ZcI (C:=fun _ _=>True) (fun _ _ i j=> .bl _) (fun x y M=>by cases x<;>cases y<;>simp[dLt]) fun i j H Q _ q=>⟨i,j,rfl,rfl,q⟩
theorem Zh3:BO X ξ (rI0 fun i j=> .bl (decide (i<=j))) dLe:=ZcI (C:=fun _ _=>True) (fun _ _ i j=> .bl _) (fun x y M=>by cases x<;>cases y<;>simp[dLe]) fun i j H Q _ q=>⟨i,j,rfl,rfl,q⟩
theorem Zlz:BO X ξ (rI0 fun i j=> .bl (decide (j < i))) dGt:=ZcI (C:=fun _ _=>True) (fun _ _ i j=> .bl _) (fun x y M=>by cases x<;>cases y<;>simp[dGt]) fun i j H Q _ q=>⟨i,j,rfl,rfl,q⟩
theorem ZjF:BO X ξ (rI0 fun i j=> .bl (decide (j<=i))) dGe:=ZcI (C:=fun _ _=>True) (fun _ _ i j=> .bl _) (fun x y M=>by cases x<;>cases y<;>simp[dGe]) fun i j H Q _ q=>⟨i,j,rfl,rfl,q⟩
theorem ZlA:OpR X (binaryOp .Add) (fun x y H Q=>(rI0 (fun i j=> .int (i + j)) x y H Q\/(∃ i j,x= .str i/\y= .str j/\i.length + j.length<=sizeLine/\Q (.str (i ++ j)) H))\/(rCat x y H Q\/Zlq X.K x y H Q)):=
 OpR.or (OpR.or Zm4 ZgZ) (OpR.or Znh Zlr)
theorem Znr:BO X ξ (fun x y H Q=>(rI0 (fun i j=> .int (i + j)) x y H Q\/(∃ i j,x= .str i/\y= .str j/\i.length + j.length<=sizeLine/\Q (.str (i ++ j)) H))\/(rCat x y H Q\/Zlq X.K x y H Q)) dAdd:=by
 intro H α M v w x y Q h rv rw' q
 unfold dAdd at q
 split at q
 ·rename_i i j
  cases rv
  cases rw'
  exact .inl (.inl ⟨i,j,rfl,rfl,q _ H α Ext.refl h (.int (i + j))⟩)
 ·rename_i i j
  cases rv
  cases rw'
  split at q
  ·rename_i c
   exact .inl (.inr ⟨i,j,rfl,rfl,Znl c,q _ H α Ext.refl h (.str _)⟩)
  ·exact q.elim
 ·rename_i n m
  cases rv with
  | @ref p _ hp=>
   cases rw' with
   | @ref p2 _ hp2=>
    split at q
    ·rename_i ds ds2 e1 e2
     split at q
     ·rename_i c
      obtain ⟨xs,g1,r1⟩:=h.at hp e1
      obtain ⟨ys,g2,r2⟩:=h.at hp2 e2
      refine .inr (.inl ⟨p,p2,xs,ys,rfl,rfl,g1,g2,by rw[r1.length,r2.length];exact Nat.le_trans c (by decide),fun l hl=> ?_⟩)
      exact q _ _ (α ++ [l]) (Ext.new hl) (h.new hl (r1.append r2)) (.ref ⟨h.last l,Kn.lst ZJ⟩)
     ·exact q.elim
    ·exact q.elim
 ·rename_i ds ds2
  cases rv with
  | @tup p xs _ hp rp=>
   cases rw' with
   | @tup p2 xs2 _ hp2 rp2=>
    split at q
    ·rename_i c
     have nx:xs≠[]:=fun z=>c.2 (by have:=rp.length;rw[z] at this;exact List.eq_nil_of_length_eq_zero this.symm)
     refine .inr (.inr ⟨p,p2,xs,xs2,rfl,rfl,(SqT.of hp),(SqT.of hp2),nx,by rw[rp.length,rp2.length];exact Znl c.1,fun z=> ?_,fun _ l hl=> ?_⟩)
     ·subst z
      cases rp2
      rw[List.append_nil] at q
      exact q _ H α Ext.refl h (.tup hp rp)
     ·exact q _ _ α (Ext.new0 hl) (h.tup hl) (.tup ZJ (Reps.mono (Ext.new0 hl) (rp.append rp2)))
    ·exact q.elim
 ·exact q.elim
variable {a b e:Expr} {fa fb:Ev} {pos:Pos}
theorem ZC (ha:DE X ξ a fa) (hb:DE X ξ b fb):DE X ξ (.BinOp a .Add b pos) (e2 dAdd fa fb):=Zg3 ZlA Znr ha hb
theorem Zat (ha:DE X ξ a fa) (hb:DE X ξ b fb):DE X ξ (.BinOp a .Sub b pos) (e2 dSub fa fb):=Zg3 Zm5 Znm ha hb
theorem ZK (ha:DE X ξ a fa) (hb:DE X ξ b fb):DE X ξ (.BinOp a .Mult b pos) (e2 dMul fa fb):=Zg3 Zly Znn ha hb
theorem Zbo (ha:DE X ξ a fa) (hb:DE X ξ b fb):DE X ξ (.BinOp a .FloorDiv b pos) (e2 dDiv fa fb):=Zg3 ZjE Zno ha hb
theorem Zbc (ha:DE X ξ a fa) (hb:DE X ξ b fb):DE X ξ (.BinOp a .Mod b pos) (e2 dMod fa fb):=Zg3 Zli Znp ha hb
theorem Zfh (ha:DE X ξ a fa) (hb:DE X ξ b fb):DE X ξ (.BinOp a .Pow b pos) (e2 dPow fa fb):=Zg3 Zm6 Znq ha hb
noncomputable def ZgC (f:Ev):Ev:=fun ρ M=>(f ρ M).bind fun x M1=>match x with | .int i=> .ok (.int (-i)) M1 | _=> .bad
theorem Zcr (ha:DE X ξ a fa):DE X ξ (.UnaryOp .USub a pos) (ZgC fa):=by
 obtain ⟨ta,ha,qa⟩:=ha
 refine ⟨_,Zp8 Zm7 ha,fun σ ρ H α M Q s h q=> ?_⟩
 refine qa σ ρ H α M _ s h (OG.seq q fun x M1 v H1 α1 e1 h1 r1 q1=> ?_)
 cases r1 with
 |int i=>exact ⟨i,rfl,q1 _ H1 α1 Ext.refl h1 (.int (-i))⟩
 |_=>exact q1.elim
noncomputable def atD (xs:List D) (i:Int) (M:Sto):Out D:=match atI xs i with | some d=> .ok d M | none=> .bad
noncomputable def dIx:Bo:=fun x y M=>match x,y with
 | .tup xs,.int i=>atD xs i M
 | .rol xs,.int i=>atD xs i M
 | .ref n,.int i=>match M[n]? with | some (.lst xs)=>atD xs i M | _=> .bad
 |_,_=> .bad
theorem Reps.atI {K:PySem.W.Frag} {H:Hp} {α:List Addr} {vs:List V} {ds:List D} {i:Int} {d:D} (r:Reps K H α vs ds) (h:L2.atI ds i=some d): ∃ v,L2.atI vs i=some v/\Rep K H α v d:=by
 unfold L2.atI at h ⊢
 rw[r.length]
 cases e:ixN ds.length i with
 |none=>rw[e] at h;cases h
 |some j=>
  rw[e] at h
  exact r.get h
theorem Zqh:BO X ξ (fun x y H Q=>ZrY X.K x y H Q\/ZrZ X.K x y H Q) dIx:=by
 intro H α M v w x y Q h rv rw' q
 have at': ∀ {ds:List D} {i:Int},OP X.K H α ξ Q (atD ds i M)-> ∃ d,L2.atI ds i=some d/\OP X.K H α ξ Q (.ok d M):=fun {ds i} q=>by
  unfold atD at q
  cases e:L2.atI ds i with
  |none=>rw[e] at q;exact q.elim
  |some d=>rw[e] at q;exact ⟨d,rfl,q⟩
 unfold dIx at q
 split at q
 ·rename_i ds i
  cases rw'
  cases rv with
  | @tup p xs _ hp rp=>
   obtain ⟨d,e,q⟩:=at' q
   obtain ⟨v,h1,h2⟩:=rp.atI e
   exact .inr ⟨p,xs,i,v,rfl,rfl,(SqT.of hp),h1,q v H α Ext.refl h h2⟩
 ·rename_i ds i
  cases rw'
  cases rv with
  | @rol p xs _ hp rp=>
   obtain ⟨d,e,q⟩:=at' q
   obtain ⟨v,h1,h2⟩:=rp.atI e
   exact .inl ⟨p,xs,i,v,rfl,rfl,hp.sq,h1,q v H α Ext.refl h h2⟩
 ·rename_i n i
  cases rw'
  cases rv with
  | @ref p _ hp=>
   split at q
   ·rename_i ds e1
    obtain ⟨d,e,q⟩:=at' q
    obtain ⟨xs,g1,r1⟩:=h.at hp e1
    obtain ⟨v,h1,h2⟩:=r1.atI e
    exact .inl ⟨p,xs,i,v,rfl,rfl,SqL.of g1,h1,q v H α Ext.refl h h2⟩
   ·exact q.elim
 ·exact q.elim
theorem Zq (ha:DE X ξ a fa) (hb:DE X ξ b fb) (hs:ZhT b:=by exact fun _ _=>rfl):DE X ξ (.Subscript a b pos) (e2 dIx fa fb):=by
 obtain ⟨ta,ha,qa⟩:=ha
 obtain ⟨tb,hb,qb⟩:=hb
 exact ⟨_,Zqd (IxR.or Zlu Zne) ha hb hs,two Zqh qa qb⟩
end
inductive Kd where
 |non | bl (b:Bool) | int (i:Int) | str (x:Str) | tup (xs:List D) | lst (xs:List D)
noncomputable def kd (M:Sto):D->Option Kd
 | .non=>some .non
 | .bl b=>some (.bl b)
 | .int i=>some (.int i)
 | .str x=>some (.str x)
 | .tup xs=>some (.tup xs)
 | .rol xs=>some (.lst xs)
 | .con xs=>some (.tup xs)
 | .ref n=>match M[n]? with | some (.lst xs)=>some (.lst xs) | _=>none
 | .err _ _=>none
 | .dk _=>none
 | .dt _=>none
 | .fn _=>none
noncomputable def eqL (f:D->D->Option Bool):List D->List D->Option Bool
 | [],[]=>some true
 |x :: xs,y :: ys=>match f x y with | some a=>(match eqL f xs ys with | some b=>some (a && b) | none=>none) | none=>none
 |_,_=>some false
noncomputable def eqK (f:D->D->Option Bool):Kd->Kd->Option Bool
 | .non,.non=>some true
 | .bl a,.bl b=>some (a == b)
 | .bl a,.int b=>some ((if a then 1 else 0) == b)
 | .int a,.bl b=>some (a == (if b then 1 else 0))
 | .int a,.int b=>some (a == b)
 | .str a,.str b=>some (a == b)
 | .tup xs,.tup ys=>eqL f xs ys
 | .lst xs,.lst ys=>if xs.length=ys.length then eqL f xs ys else some false
 |_,_=>some false
noncomputable def eqF:Nat->Sto->D->D->Option Bool
 |0,_,_,_=>none
 |n + 1,M,x,y=>match kd M x,kd M y with | some a,some b=>eqK (eqF n M) a b | _,_=>none
inductive Vw (X:Cx) (H:Hp) (α:List Addr) (s:Shared):Kd->Value->Prop where
 |non:Vw X H α s .non .none
 |bl (b:Bool):Vw X H α s (.bl b) (.bool b)
 |int (i:Int) (t:Tok):Vw X H α s (.int i) (.int i t)
 |str (x:Str) (t:Tok):Vw X H α s (.str x) (.str x t)
 |tup {p:Addr} {xs:List V} {ds:List D} {its:List Value}:s.heap.IsTuple p its.toArray->Zam xs its->Reps X.K H α xs ds->Vw X H α s (.tup ds) (.ref p)
 |lst {p:Addr} {xs:List V} {ds:List D} {its:List Value}:s.heap.IsList p its.toArray->Zam xs its->Reps X.K H α xs ds->Vw X H α s (.lst ds) (.ref p)
section
variable {X:Cx} {ξ:XK} {pins:List (Addr × Obj)} {σ:L2.St} {H:Hp} {s:Shared} {α:List Addr} {M:Sto}
theorem vw (I:Inv X pins σ H s) (h:HR X.K H α M) {v:V} {x:D} {u:Value} {k:Kd} (r:Rep X.K H α v x) (ru:Zax v u) (e:kd M x=some k):Vw X H α s k u:=by
 cases r with
 |non=>cases e;cases ru;exact .non
 |bl b=>cases e;cases ru;exact .bl b
 |int i=>cases e;obtain ⟨t,rfl⟩:=ru;exact .int i t
 |str x=>cases e;obtain ⟨t,rfl⟩:=ru;exact .str x t
 |err _ _ _=>cases e
 |dk _=>cases e
 |dt _=>cases e
 |fn _=>cases e
 | @tup p xs ds hp rp=>
  cases e;cases ru
  obtain ⟨its,h1,h2,_⟩:=I.tuple (SqT.of hp)
  exact .tup h2 h1 rp
 | @con p xs ds hp rp=>
  cases e;cases ru
  obtain ⟨its,h1,h2,_⟩:=I.tuple hp.sq
  exact .tup h2 h1 rp
 | @rol p xs ds hp rp=>
  cases e;cases ru
  obtain ⟨its,h1,h2,_⟩:=I.list hp.sq
  exact .lst h2.isList h1 rp
 | @ref p n hp=>
  cases ru
  cases e1:M[n]? with
  |none=>simp only[kd,e1] at e;cases e
  |some o=>
   cases o with
   |lst ds=>
    simp only[kd,e1] at e
    cases e
    obtain ⟨xs,g1,r1⟩:=h.at hp e1
    obtain ⟨its,h1,h2,_⟩:=I.list (SqL.of g1)
    exact .lst h2.isList h1 r1
noncomputable def Eq3 (A:Around) (s:Shared) (u z:Value) (b:Bool):Prop:=EqAt A s u z b/\RcAt A s u z b/\RcNeAt A s u z (!b)
theorem Zh4 {f:D->D->Option Bool}: ∀ {xs ys:List D} {b:Bool},eqL f xs ys=some b->
  (∀ (j:Nat) x y,xs[j]?=some x->ys[j]?=some y-> ∃ c,f x y=some c)/\
  b=((List.range (min xs.length ys.length)).all (fun j=>match xs[j]?,ys[j]? with | some x,some y=>(f x y).getD false | _,_=>false) && xs.length == ys.length)
 | [],[],b,e=>by
  simp only[eqL,Option.some.injEq] at e
  subst e
  exact ⟨fun j x y h=>(by simp at h),(by simp)⟩
 |x :: xs,[],b,e=>by
  simp only[eqL,Option.some.injEq] at e
  subst e
  exact ⟨fun j x y h1 h2=>(by simp at h2),(by simp)⟩
 | [],y :: ys,b,e=>by
  simp only[eqL,Option.some.injEq] at e
  subst e
  exact ⟨fun j x y h1 h2=>(by simp at h1),(by simp)⟩
 |x :: xs,y :: ys,b,e=>by
  cases e1:f x y with
  |none=>simp only[eqL,e1] at e;cases e
  |some a=>
   cases e2:eqL f xs ys with
   |none=>simp only[eqL,e1,e2] at e;cases e
   |some c=>
    simp only[eqL,e1,e2,Option.some.injEq] at e
    subst e
    obtain ⟨h1,h2⟩:=Zh4 e2
    refine ⟨fun j x' y' g1 g2=> ?_,?_⟩
    ·cases j with
     |zero=>
      simp at g1 g2
      subst g1 g2
      exact ⟨a,e1⟩
     |succ j=>
      simp at g1 g2
      exact h1 j x' y' g1 g2
    ·have em:min (x :: xs).length (y :: ys).length=min xs.length ys.length + 1:=by simp only[List.length_cons];omega
     rw[em,List.range_succ_eq_map,List.all_cons,List.all_map,h2]
     simp[e1,Bool.and_assoc,Function.comp_def]
theorem ZjG (I:Inv X pins σ H s) (h:HR X.K H α M): ∀ (n:Nat) {v:V} {x y:D} {b:Bool},Rep X.K H α v x->Rep X.K H α v y->eqF n M x y=some b->b=true:=by
 intro n
 induction n with
 |zero=>intro v x y b _ _ e;simp only[eqF] at e;cases e
 |succ n ih=>
  have lists: ∀ (vs:List V) (xs ys:List D) (b:Bool),Reps X.K H α vs xs->Reps X.K H α vs ys->eqL (eqF n M) xs ys=some b->b=true:=by
   intro vs
   induction vs with
   |nil=>
    intro xs ys b r1 r2 e
    cases r1;cases r2
    simp only[eqL,Option.some.injEq] at e
    exact e.symm
   |cons v vs iv=>
    intro xs ys b r1 r2 e
    cases r1 with
    |cons p1 t1=>
     cases r2 with
     |cons p2 t2=>
      rename_i d1 ds1 d2 ds2
      cases e1:eqF n M d1 d2 with
      |none=>simp only[eqL,e1] at e;cases e
      |some a=>
       cases e2:eqL (eqF n M) ds1 ds2 with
       |none=>simp only[eqL,e1,e2] at e;cases e
       |some c=>
        simp only[eqL,e1,e2,Option.some.injEq] at e
        rw[<- e,ih p1 p2 e1,iv _ _ _ t1 t2 e2]
        rfl
  intro v x y b r1 r2 e
  have nl: ∀ {p:Addr} {xs ys:List V},SqT X.K H p xs->SqL X.K H p ys->False:=fun {p xs ys} a c=>by
   obtain ⟨i1,_,⟨o1,g1,c1,_⟩,_⟩:=I.tuple a
   obtain ⟨i2,_,⟨o2,_,g2,c2,_⟩,_⟩:=I.list c
   rw[g1] at g2
   cases g2
   rw[c1] at c2
   exact absurd c2 (by decide)
  have ll: ∀ {p:Addr} {n:Nat} {ds:List D},RefK H α 0 n p->M[n]?=some (.lst ds)-> ∃ vs,SqL X.K H p vs/\Reps X.K H α vs ds:=fun {p n ds} a c=>by
   obtain ⟨xs,g1,r1⟩:=h.at a c
   exact ⟨xs,SqL.of g1,r1⟩
  cases r1 with
  |non=>cases r2;simp only[eqF,kd,eqK,Option.some.injEq] at e;exact e.symm
  |bl c=>cases r2;simp only[eqF,kd,eqK,Option.some.injEq,beq_self_eq_true] at e;exact e.symm
  |int c=>cases r2;simp only[eqF,kd,eqK,Option.some.injEq,beq_self_eq_true] at e;exact e.symm
  |str c=>cases r2;simp only[eqF,kd,eqK,Option.some.injEq,beq_self_eq_true] at e;exact e.symm
  |err _ _ _=>simp[eqF,kd] at e
  |dk _=>simp[eqF,kd] at e
  |dt _=>simp[eqF,kd] at e
  |fn _=>simp[eqF,kd] at e
  | @tup p xs ds hp rp=>
   cases r2 with
   | @tup _ xs2 ds2 hp2 rp2=>
    cases I.tuple_inj (SqT.of hp) (SqT.of hp2)
    simp only[eqF,kd,eqK] at e
    exact lists _ _ _ _ rp rp2 e
   | @con _ xs2 ds2 hp2 rp2=>
    cases I.tuple_inj (SqT.of hp) hp2.sq
    simp only[eqF,kd,eqK] at e
    exact lists _ _ _ _ rp rp2 e
   | @rol _ xs2 ds2 hp2 rp2=>exact (nl (SqT.of hp) hp2.sq).elim
   |err _ _ _=>simp[eqF,kd] at e
   |dk _=>simp[eqF,kd] at e
   |dt _=>simp[eqF,kd] at e
   |fn _=>simp[eqF,kd] at e
   | @ref _ n2 hp2=>
    obtain ⟨ys,g⟩:=h.some_at hp2
    exact (nl (SqT.of hp) (SqL.of g)).elim
  | @con p xs ds hp rp=>
   cases r2 with
   | @tup _ xs2 ds2 hp2 rp2=>
    cases I.tuple_inj hp.sq (SqT.of hp2)
    simp only[eqF,kd,eqK] at e
    exact lists _ _ _ _ rp rp2 e
   | @con _ xs2 ds2 hp2 rp2=>
    cases I.tuple_inj hp.sq hp2.sq
    simp only[eqF,kd,eqK] at e
    exact lists _ _ _ _ rp rp2 e
   | @rol _ xs2 ds2 hp2 rp2=>exact (nl hp.sq hp2.sq).elim
   |err _ _ _=>simp[eqF,kd] at e
   |dk _=>simp[eqF,kd] at e
   |dt _=>simp[eqF,kd] at e
   |fn _=>simp[eqF,kd] at e
   | @ref _ n2 hp2=>
    obtain ⟨ys,g⟩:=h.some_at hp2
    exact (nl hp.sq (SqL.of g)).elim
  | @rol p xs ds hp rp=>
   cases r2 with
   | @tup _ xs2 ds2 hp2 rp2=>exact (nl (SqT.of hp2) hp.sq).elim
   | @con _ xs2 ds2 hp2 rp2=>exact (nl hp2.sq hp.sq).elim
   |err _ _ _=>simp[eqF,kd] at e
   |dk _=>simp[eqF,kd] at e
   |dt _=>simp[eqF,kd] at e
   |fn _=>simp[eqF,kd] at e
   | @rol _ xs2 ds2 hp2 rp2=>
    cases I.list_inj hp.sq hp2.sq
    simp only[eqF,kd,eqK,if_pos (rp.length.symm.trans rp2.length)] at e
    exact lists _ _ _ _ rp rp2 e
   | @ref _ n2 hp2=>
    cases e1:M[n2]? with
    |none=>simp only[eqF,kd,e1] at e;cases e
    |some o=>
     cases o with
     |lst ds2=>
      obtain ⟨ys,g,r⟩:=ll hp2 e1
      cases I.list_inj hp.sq g
      simp only[eqF,kd,e1,eqK,if_pos (rp.length.symm.trans r.length)] at e
      exact lists _ _ _ _ rp r e
  | @ref p n1 hp=>
   cases e0:M[n1]? with
   |none=>simp only[eqF,kd,e0] at e;cases e
   |some o0=>
    cases o0 with
    |lst ds=>
     obtain ⟨xs,g0,rp⟩:=ll hp e0
     cases r2 with
     | @tup _ xs2 ds2 hp2 rp2=>exact (nl (SqT.of hp2) g0).elim
     | @con _ xs2 ds2 hp2 rp2=>exact (nl hp2.sq g0).elim
     |err _ _ _=>simp[eqF,kd,e0] at e
     |dk _=>simp[eqF,kd,e0] at e
     |dt _=>simp[eqF,kd,e0] at e
     |fn _=>simp[eqF,kd,e0] at e
     | @rol _ xs2 ds2 hp2 rp2=>
      cases I.list_inj g0 hp2.sq
      simp only[eqF,kd,e0,eqK,if_pos (rp.length.symm.trans rp2.length)] at e
      exact lists _ _ _ _ rp rp2 e
     | @ref _ n2 hp2=>
      cases e1:M[n2]? with
      |none=>simp only[eqF,kd,e0,e1] at e;cases e
      |some o=>
       cases o with
       |lst ds2=>
        obtain ⟨ys,g,r⟩:=ll hp2 e1
        cases I.list_inj g0 g
        simp only[eqF,kd,e0,e1,eqK,if_pos (rp.length.symm.trans r.length)] at e
        exact lists _ _ _ _ rp r e
end
end DL
end
section
namespace DL
open PySem PySem.Spec PyProof.Rows L2
open PySem.SeqAt (EqAt RcAt RcNeAt)
section
variable {X:Cx} {ξ:XK} {pins:List (Addr × Obj)} {σ:L2.St} {H:Hp} {s:Shared} {α:List Addr} {M:Sto}
theorem ZgD {A:Around} {n:Nat} {xs1 xs2:List V} {ds1 ds2:List D} {i1 i2:List Value} {b:Bool} (v1:Zam xs1 i1) (v2:Zam xs2 i2) (r1:Reps X.K H α xs1 ds1) (r2:Reps X.K H α xs2 ds2)
  (ih: ∀ (x y:D) (v w:V) (u z:Value) (b:Bool),eqF n M x y=some b->Rep X.K H α v x->Rep X.K H α w y->Zax v u->Zax w z->EqAt A s u z b) (e:eqL (eqF n M) ds1 ds2=some b):
  ∃ f:Nat->Bool,(∀ (j:Nat) (h1:j < i1.toArray.size) (h2:j < i2.toArray.size),EqAt A s i1.toArray[j] i2.toArray[j] (f j))/\b=((List.range (min i1.toArray.size i2.toArray.size)).all f && i1.toArray.size == i2.toArray.size):=by
 obtain ⟨g1,g2⟩:=Zh4 e
 have l1:i1.toArray.size=ds1.length:=by rw[List.size_toArray,<- v1.length,r1.length]
 have l2:i2.toArray.size=ds2.length:=by rw[List.size_toArray,<- v2.length,r2.length]
 refine ⟨_,fun j h1 h2=> ?_,by rw[l1,l2];exact g2⟩
 have k1:j < ds1.length:=by rw[<- l1];exact h1
 have k2:j < ds2.length:=by rw[<- l2];exact h2
 obtain ⟨c,hc⟩:=g1 j _ _ (List.getElem?_eq_getElem k1) (List.getElem?_eq_getElem k2)
 obtain ⟨v,a1,a2⟩:=r1.get (List.getElem?_eq_getElem k1)
 obtain ⟨w,b1,b2⟩:=r2.get (List.getElem?_eq_getElem k2)
 obtain ⟨u,a3,a4⟩:=v1.get a1
 obtain ⟨z,b3,b4⟩:=v2.get b1
 have q:=ih _ _ v w u z c hc a2 b2 a4 b4
 simp only[List.getElem?_eq_getElem k1,List.getElem?_eq_getElem k2,hc,Option.getD_some]
 have e1:i1.toArray[j]=u:=by
  have:=List.getElem?_eq_some_iff.mp a3
  obtain ⟨_,z⟩:=this
  simpa using z
 have e2:i2.toArray[j]=z:=by
  have:=List.getElem?_eq_some_iff.mp b3
  obtain ⟨_,z⟩:=this
  simpa using z
 rw[e1,e2]
 exact q
theorem Zh5 (I:Inv X pins σ H s) (h:HR X.K H α M) {n:Nat} {x y:D} {v w:V} {p q:Addr} {b:Bool} {A:Around} (e:eqF n M x y=some b) (rx:Rep X.K H α v x) (ry:Rep X.K H α w y) (rv:Zax v (.ref p)) (rw':Zax w (.ref q))
  (k:RcAt A s (.ref p) (.ref q) b) (k':RcNeAt A s (.ref p) (.ref q) (!b)):Eq3 A s (.ref p) (.ref q) b:=by
 refine ⟨?_,k,k'⟩
 by_cases c:p=q
 ·subst c
  cases Zax.inj rv rw'
  rw[ZjG I h n rx ry e]
  exact EqAt.same _
 ·exact EqAt.of_refs c k
theorem eq3 (I:Inv X pins σ H s) (h:HR X.K H α M): ∀ (n:Nat) (x y:D) (v w:V) (u z:Value) (b:Bool) (A:Around),A.units + n < cLine->eqF n M x y=some b->Rep X.K H α v x->Rep X.K H α w y->Zax v u->Zax w z->Eq3 A s u z b:=by
 intro n
 induction n with
 |zero=>intro x y v w u z b A _ e;simp only[eqF] at e;cases e
 |succ n ih=>
  intro x y v w u z b A hn e rx ry rv rw'
  have hu:A.units < cLine:=by omega
  have e0:=e
  unfold eqF at e
  cases ka:kd M x with
  |none=>rw[ka] at e;cases e
  |some ka'=>
   cases kb:kd M y with
   |none=>rw[ka,kb] at e;cases e
   |some kb'=>
    rw[ka,kb] at e
    have va:=vw I h rx rv ka
    have vb:=vw I h ry rw' kb
    have deep: ∀ (x y:D) (v w:V) (u z:Value) (b:Bool),eqF n M x y=some b->Rep X.K H α v x->Rep X.K H α w y->Zax v u->Zax w z->EqAt A.in1 s u z b:=fun x y v w u z b e a1 a2 a3 a4=>
     (ih x y v w u z b A.in1 (by rw[Around.in1_units];omega) e a1 a2 a3 a4).1
    cases va with
    |non=>
     cases vb<;>simp only[eqK,Option.some.injEq] at e<;>subst e
     ·exact ⟨EqAt.same _,.none_none,.none_none⟩
     ·exact ⟨.none_bool _,.none_bool _,.none_bool _⟩
     ·exact ⟨.none_int _ _,.none_int _ _,.none_int _ _⟩
     ·exact ⟨.none_str _ _,.none_str _ _,.none_str _ _⟩
     ·rename_i g _ _;exact ⟨.none_tuple g hu,.none_tuple g hu,.none_tuple g hu⟩
     ·rename_i g _ _;exact ⟨.none_list g hu,.none_list g hu,.none_list g hu⟩
    |bl c=>
     cases vb<;>simp only[eqK,Option.some.injEq] at e<;>subst e
     ·exact ⟨.bool_none _,.bool_none _,.bool_none _⟩
     ·exact ⟨.bool_bool _ _,.bool_bool _ _,.bool_bool _ _⟩
     ·exact ⟨.bool_int _ _ _,.bool_int _ _ _,.bool_int _ _ _⟩
     ·exact ⟨.bool_str _ _ _,.bool_str _ _ _,.bool_str _ _ _⟩
     ·rename_i g _ _;exact ⟨.bool_tuple _ g hu,.bool_tuple _ g hu,.bool_tuple _ g hu⟩
     ·rename_i g _ _;exact ⟨.bool_list _ g hu,.bool_list _ g hu,.bool_list _ g hu⟩
    |int c t=>
     cases vb<;>simp only[eqK,Option.some.injEq] at e<;>subst e
     ·exact ⟨.int_none _ _,.int_none _ _,.int_none _ _⟩
     ·exact ⟨.int_bool _ _ _,.int_bool _ _ _,.int_bool _ _ _⟩
     ·exact ⟨.int_int _ _ _ _,.int_int _ _ _ _,.int_int _ _ _ _⟩
     ·exact ⟨.int_str _ _ _ _,.int_str _ _ _ _,.int_str _ _ _ _⟩
     ·rename_i g _ _;exact ⟨.int_tuple _ _ g hu,.int_tuple _ _ g hu,.int_tuple _ _ g hu⟩
     ·rename_i g _ _;exact ⟨.int_list _ _ g hu,.int_list _ _ g hu,.int_list _ _ g hu⟩
    |str c t=>
     cases vb<;>simp only[eqK,Option.some.injEq] at e<;>subst e
     ·exact ⟨.str_none _ _,.str_none _ _,.str_none _ _⟩
     ·exact ⟨.str_bool _ _ _,.str_bool _ _ _,.str_bool _ _ _⟩
     ·exact ⟨.str_int _ _ _ _,.str_int _ _ _ _,.str_int _ _ _ _⟩
     ·exact ⟨.str_str _ _ _ _,.str_str _ _ _ _,.str_str _ _ _ _⟩
     ·rename_i g _ _;exact ⟨.str_tuple _ _ g hu,.str_tuple _ _ g hu,.str_tuple _ _ g hu⟩
     ·rename_i g _ _;exact ⟨.str_list _ _ g hu,.str_list _ _ g hu,.str_list _ _ g hu⟩
    | @tup p xs ds its g1 w1 q1=>
     cases vb with
     | @tup p2 xs2 ds2 its2 g2 w2 q2=>
      simp only[eqK] at e
      obtain ⟨f,hf,hb⟩:=ZgD w1 w2 q1 q2 deep e
      subst hb
      exact Zh5 I h e0 rx ry rv rw' (.tuples g1 g2 hu hf) (.tuples g1 g2 hu hf)
     | @lst p2 xs2 ds2 its2 g2 w2 q2=>
      simp only[eqK,Option.some.injEq] at e
      subst e
      exact Zh5 I h e0 rx ry rv rw' (.tuple_list g1 g2 hu) (.tuple_list g1 g2 hu)
     |non=>simp only[eqK,Option.some.injEq] at e;subst e;exact ⟨.tuple_none g1 hu,.tuple_none g1 hu,.tuple_none g1 hu⟩
     |bl c=>simp only[eqK,Option.some.injEq] at e;subst e;exact ⟨.tuple_bool _ g1 hu,.tuple_bool _ g1 hu,.tuple_bool _ g1 hu⟩
     |int c t=>simp only[eqK,Option.some.injEq] at e;subst e;exact ⟨.tuple_int _ _ g1 hu,.tuple_int _ _ g1 hu,.tuple_int _ _ g1 hu⟩
     |str c t=>simp only[eqK,Option.some.injEq] at e;subst e;exact ⟨.tuple_str _ _ g1 hu,.tuple_str _ _ g1 hu,.tuple_str _ _ g1 hu⟩
    | @lst p xs ds its g1 w1 q1=>
     cases vb with
     | @lst p2 xs2 ds2 its2 g2 w2 q2=>
      simp only[eqK] at e
      have l1:its.toArray.size=ds.length:=by rw[List.size_toArray,<- w1.length,q1.length]
      have l2:its2.toArray.size=ds2.length:=by rw[List.size_toArray,<- w2.length,q2.length]
      by_cases c:ds.length=ds2.length
      ·rw[if_pos c] at e
       have hs:its.toArray.size=its2.toArray.size:=by rw[l1,l2,c]
       obtain ⟨f,hf,hb⟩:=ZgD w1 w2 q1 q2 deep e
       rw[hs,Nat.min_self,beq_self_eq_true,Bool.and_true,<- hs] at hb
       subst hb
       exact Zh5 I h e0 rx ry rv rw' (.lists g1 g2 hs hu hf) (.lists g1 g2 hs hu hf)
      ·rw[if_neg c] at e
       have e':false=b:=Option.some.inj e
       subst e'
       have hs:(its.toArray.size != its2.toArray.size)=true:=by rw[l1,l2];simpa using c
       exact Zh5 I h e0 rx ry rv rw' (.lists_lengths g1 g2 hs hu) (.lists_lengths g1 g2 hs hu)
     | @tup p2 xs2 ds2 its2 g2 w2 q2=>
      simp only[eqK,Option.some.injEq] at e
      subst e
      exact Zh5 I h e0 rx ry rv rw' (.list_tuple g1 g2 hu) (.list_tuple g1 g2 hu)
     |non=>simp only[eqK,Option.some.injEq] at e;subst e;exact ⟨.list_none g1 hu,.list_none g1 hu,.list_none g1 hu⟩
     |bl c=>simp only[eqK,Option.some.injEq] at e;subst e;exact ⟨.list_bool _ g1 hu,.list_bool _ g1 hu,.list_bool _ g1 hu⟩
     |int c t=>simp only[eqK,Option.some.injEq] at e;subst e;exact ⟨.list_int _ _ g1 hu,.list_int _ _ g1 hu,.list_int _ _ g1 hu⟩
     |str c t=>simp only[eqK,Option.some.injEq] at e;subst e;exact ⟨.list_str _ _ g1 hu,.list_str _ _ g1 hu,.list_str _ _ g1 hu⟩
end
section
variable {X:Cx} {ξ:XK}
noncomputable def ZpM (X:Cx) (neg:Bool):R2:=fun v w H Q=> ∃ α M x y b,HR X.K H α M/\Rep X.K H α v x/\Rep X.K H α w y/\eqF 12 M x y=some b/\Q (.bl (neg ^^ b)) H
theorem ZI (hu:X.A.units + 64 < cLine):OpR X (compareOp .Eq) (ZpM X false):=by
 intro pins s σ H v w u z Q I rv rw' ⟨α,M,x,y,b,h,rx,ry,e,q⟩
 refine (eq3 I h 12 x y v w u z b X.A (by omega) e rx ry rv rw').2.1 _ _ _ _ ⟨.bl b,H,I,rfl,?_⟩
 simpa using q
theorem Zah (hu:X.A.units + 64 < cLine):OpR X (compareOp .NotEq) (ZpM X true):=by
 intro pins s σ H v w u z Q I rv rw' ⟨α,M,x,y,b,h,rx,ry,e,q⟩
 refine (eq3 I h 12 x y v w u z b X.A (by omega) e rx ry rv rw').2.2 _ _ _ _ ⟨.bl (!b),H,I,rfl,?_⟩
 simpa using q
noncomputable def dEq:Bo:=fun x y M=>match eqF 12 M x y with | some b=> .ok (.bl b) M | none=> .bad
noncomputable def dNe:Bo:=fun x y M=>match eqF 12 M x y with | some b=> .ok (.bl (!b)) M | none=> .bad
theorem Z3:BO X ξ (ZpM X false) dEq:=by
 intro H α M v w x y Q h rv rw' q
 unfold dEq at q
 cases e:eqF 12 M x y with
 |none=>rw[e] at q;exact q.elim
 |some b=>rw[e] at q;exact ⟨α,M,x,y,b,h,rv,rw',e,by simpa using q _ H α Ext.refl h (.bl b)⟩
theorem Zbp:BO X ξ (ZpM X true) dNe:=by
 intro H α M v w x y Q h rv rw' q
 unfold dNe at q
 cases e:eqF 12 M x y with
 |none=>rw[e] at q;exact q.elim
 |some b=>rw[e] at q;exact ⟨α,M,x,y,b,h,rv,rw',e,by simpa using q _ H α Ext.refl h (.bl (!b))⟩
noncomputable def Zh6:V->Bool
 | .non=>true
 | .bl _=>true
 |_=>false
noncomputable def rIs (neg:Bool):R2:=fun v w H Q=>Zh6 w=true/\Q (.bl (neg ^^ decide (v=w))) H
theorem ZgE {v w:V} {u z:Value} (rv:Zax v u) (rw':Zax w z) (p:Zh6 w=true):plainIs u z=true/\(u == z)=decide (v=w):=by
 cases w with
 |non=>
  cases rw'
  cases v with
  |non=>cases rv;exact ⟨rfl,rfl⟩
  |bl b=>cases rv;exact ⟨rfl,by rw[decide_eq_false (fun z=>(nomatch z))];rfl⟩
  |int b=>obtain ⟨t,rfl⟩:=rv;exact ⟨rfl,by rw[decide_eq_false (fun z=>(nomatch z))];rfl⟩
  |str b=>obtain ⟨t,rfl⟩:=rv;exact ⟨rfl,by rw[decide_eq_false (fun z=>(nomatch z))];rfl⟩
  |byt b=>obtain ⟨t,rfl⟩:=rv;exact ⟨rfl,by rw[decide_eq_false (fun z=>(nomatch z))];rfl⟩
  |flt b=>obtain ⟨t,rfl⟩:=rv;exact ⟨rfl,by rw[decide_eq_false (fun z=>(nomatch z))];rfl⟩
  |ref b=>cases rv;exact ⟨rfl,by rw[decide_eq_false (fun z=>(nomatch z))];rfl⟩
  |ty b=>cases rv;exact ⟨rfl,by rw[decide_eq_false (fun z=>(nomatch z))];rfl⟩
 |bl c=>
  cases rw'
  cases v with
  |non=>cases rv;exact ⟨rfl,by rw[decide_eq_false (fun z=>(nomatch z))];rfl⟩
  |bl b=>cases rv;refine ⟨rfl,?_⟩;cases b<;>cases c<;>rfl
  |int b=>obtain ⟨t,rfl⟩:=rv;exact ⟨rfl,by rw[decide_eq_false (fun z=>(nomatch z))];rfl⟩
  |str b=>obtain ⟨t,rfl⟩:=rv;exact ⟨rfl,by rw[decide_eq_false (fun z=>(nomatch z))];rfl⟩
  |byt b=>obtain ⟨t,rfl⟩:=rv;exact ⟨rfl,by rw[decide_eq_false (fun z=>(nomatch z))];rfl⟩
  |flt b=>obtain ⟨t,rfl⟩:=rv;exact ⟨rfl,by rw[decide_eq_false (fun z=>(nomatch z))];rfl⟩
  |ref b=>cases rv;exact ⟨rfl,by rw[decide_eq_false (fun z=>(nomatch z))];rfl⟩
  |ty b=>cases rv;exact ⟨rfl,by rw[decide_eq_false (fun z=>(nomatch z))];rfl⟩
 |_=>cases p
theorem Zns:OpR X (compareOp .Is) (rIs false):=by
 intro pins s σ H v w u z Q I rv rw' ⟨p,q⟩
 obtain ⟨h1,h2⟩:=ZgE rv rw' p
 refine wpAny_is_plain h1 ⟨.bl (u == z),H,I,rfl,?_⟩
 rw[h2]
 simpa using q
theorem Zh7:OpR X (compareOp .IsNot) (rIs true):=by
 intro pins s σ H v w u z Q I rv rw' ⟨p,q⟩
 obtain ⟨h1,h2⟩:=ZgE rv rw' p
 refine wpAny_isNot_plain h1 ⟨.bl (!(u == z)),H,I,rfl,?_⟩
 rw[h2]
 simpa using q
noncomputable def isP:D->D->Option Bool
 | .non,.non=>some true
 | .bl a,.bl b=>some (a == b)
 |_,.non=>some false
 |_,.bl _=>some false
 |_,_=>none
noncomputable def dIs:Bo:=fun x y M=>match isP x y with | some b=> .ok (.bl b) M | none=> .bad
noncomputable def dIsNot:Bo:=fun x y M=>match isP x y with | some b=> .ok (.bl (!b)) M | none=> .bad
theorem Zkz {K:PySem.W.Frag} {H:Hp} {α:List Addr} {v w:V} {x y:D} {b:Bool} (rv:Rep K H α v x) (rw':Rep K H α w y) (e:isP x y=some b):Zh6 w=true/\decide (v=w)=b:=by
 unfold isP at e
 split at e
 ·cases rv;cases rw';cases e;exact ⟨rfl,rfl⟩
 ·rename_i c d
  cases rv;cases rw';cases e
  refine ⟨rfl,?_⟩
  cases c<;>cases d<;>rfl
 ·rename_i hx
  cases rw';cases e
  refine ⟨rfl,decide_eq_false fun z=> ?_⟩
  subst z
  cases rv
  exact hx rfl
 ·rename_i c hx
  cases rw';cases e
  refine ⟨rfl,decide_eq_false fun z=> ?_⟩
  subst z
  cases rv
  exact hx _ rfl
 ·cases e
theorem Zqi:BO X ξ (rIs false) dIs:=by
 intro H α M v w x y Q h rv rw' q
 unfold dIs at q
 cases e:isP x y with
 |none=>rw[e] at q;exact q.elim
 |some b=>
  rw[e] at q
  obtain ⟨p,d⟩:=Zkz rv rw' e
  exact ⟨p,by rw[d];simpa using q _ H α Ext.refl h (.bl b)⟩
theorem ZjH:BO X ξ (rIs true) dIsNot:=by
 intro H α M v w x y Q h rv rw' q
 unfold dIsNot at q
 cases e:isP x y with
 |none=>rw[e] at q;exact q.elim
 |some b=>
  rw[e] at q
  obtain ⟨p,d⟩:=Zkz rv rw' e
  exact ⟨p,by rw[d];simpa using q _ H α Ext.refl h (.bl (!b))⟩
noncomputable def Znt:D->Bool
 | .non=>true
 | .bl _=>true
 | .int _=>true
 | .str _=>true
 |_=>false
noncomputable def Ztc:D->D->Bool
 | .non,.non=>true
 | .bl a,.bl b=>a == b
 | .bl a,.int b=>(if a then 1 else 0) == b
 | .int a,.bl b=>a == (if b then 1 else 0)
 | .int a,.int b=>a == b
 | .str a,.str b=>a == b
 |_,_=>false
noncomputable def Zer (M:Sto):D->Option (List D)
 | .tup xs=>some xs
 | .rol xs=>some xs
 | .con xs=>some xs
 | .ref n=>match M[n]? with | some (.lst xs)=>some xs | _=>none
 |_=>none
theorem Zh8 {K:PySem.W.Frag} {H:Hp} {α:List Addr} {M:Sto} (h:HR K H α M) {v:V} {x:D} {ds:List D} (r:Rep K H α v x) (e:Zer M x=some ds): ∃ p xs,v= .ref p/\(SqL K H p xs\/SqT K H p xs)/\Reps K H α xs ds:=by
 cases r with
 | @tup p xs ds hp rp=>cases e;exact ⟨p,xs,rfl,.inr (SqT.of hp),rp⟩
 | @con p xs ds hp rp=>cases e;exact ⟨p,xs,rfl,.inr hp.sq,rp⟩
 | @rol p xs ds hp rp=>cases e;exact ⟨p,xs,rfl,.inl hp.sq,rp⟩
 | @ref p n hp=>
  cases e1:M[n]? with
  |none=>simp only[Zer,e1] at e;cases e
  |some o=>
   cases o with
   |lst es=>
    simp only[Zer,e1] at e
    cases e
    obtain ⟨xs,g1,r1⟩:=h.at hp e1
    exact ⟨p,xs,rfl,.inl (SqL.of g1),r1⟩
 |_=>cases e
theorem ZjI {K:PySem.W.Frag} {H:Hp} {α:List Addr} {M:Sto} (h:HR K H α M) {v:V} {x:D} {ds:List D} (r:Rep K H α v x) (e:Zer M x=some ds) (nc: ∀ ys,x≠ .con ys): ∃ p xs,v= .ref p/\(SqL K H p xs\/H p=some (.tup xs))/\Reps K H α xs ds:=by
 cases r with
 |con _ _=>exact absurd rfl (nc _)
 | @tup p xs ds hp rp=>cases e;exact ⟨p,xs,rfl,.inr hp,rp⟩
 | @rol p xs ds hp rp=>cases e;exact ⟨p,xs,rfl,.inl hp.sq,rp⟩
 | @ref p n hp=>
  cases e1:M[n]? with
  |none=>simp only[Zer,e1] at e;cases e
  |some o=>
   cases o with
   |lst es=>
    simp only[Zer,e1] at e
    cases e
    obtain ⟨xs,g1,r1⟩:=h.at hp e1
    exact ⟨p,xs,rfl,.inl (SqL.of g1),r1⟩
 |_=>cases e
noncomputable def inD (x y:D) (M:Sto):Option Bool:=match Zer M y with | some ds=>if Znt x=true/\ds.all Znt=true then some (ds.any fun y=>Ztc y x) else none | none=>none
variable {e:Expr} {es:List Expr} {fs:Av} {fa:Ev} {p pos:Pos} {x:Str} {id T:String} {r:List V->Hp->VK->Prop} {f:List D->Sto->Out D}
noncomputable def Zk (f:List D->Sto->Out D) (fs:Av):Ev:=fun ρ M=>(fs ρ M).bind f
noncomputable def CO (X:Cx) (ξ:XK) (r:List V->Hp->VK->Prop) (f:List D->Sto->Out D):Prop:= ∀ H α M vs ds Q,HR X.K H α M->Reps X.K H α vs ds->OP X.K H α ξ Q (f ds M)->r vs H Q
theorem Zn (hc:Zcm X (.builtin id) r) (hf:CO X ξ r f) (hm:X.mg x=none) (hv:bootBuiltins x=some (.builtin id)) (ha:DA X ξ (e :: es) fs) (hg:Gl X x:=by rfl) (hn:x≠"__name__":=by decide) (hdb:(x == ("__debug__":Str))=false:=by decide)
  (he:starEach (e :: es) X.env=(false,eval e X.env) :: starEach es X.env:=by rfl) (hpl:(backTo pos (starEach es X.env)).any (·.1)=false:=by rfl):DE X ξ (.Call (.Name x p) (e :: es) [] pos) (Zk f fs):=by
 obtain ⟨ta,ha,qa⟩:=ha
 refine ⟨_,Zgx hc hg hm hv ha hn hdb he hpl,fun σ ρ H α M Q s h q=> ?_⟩
 exact qa σ ρ H α M _ s h (OG.seq q fun ds M1 vs H1 α1 e1 h1 r1 q1=>hf H1 α1 M1 vs ds Q h1 r1 q1)
theorem Zai (hc:Zcm X (.type T) r) (hf:CO X ξ r f) (hm:X.mg x=none) (hv:bootBuiltins x=some (.type T)) (ha:DA X ξ (e :: es) fs) (hg:Gl X x:=by rfl) (hn:x≠"__name__":=by decide) (hdb:(x == ("__debug__":Str))=false:=by decide)
  (he:starEach (e :: es) X.env=(false,eval e X.env) :: starEach es X.env:=by rfl) (hpl:(backTo pos (starEach es X.env)).any (·.1)=false:=by rfl):DE X ξ (.Call (.Name x p) (e :: es) [] pos) (Zk f fs):=by
 obtain ⟨ta,ha,qa⟩:=ha
 refine ⟨_,ZhQ hc hg hm hv ha hn hdb he hpl,fun σ ρ H α M Q s h q=> ?_⟩
 exact qa σ ρ H α M _ s h (OG.seq q fun ds M1 vs H1 α1 e1 h1 r1 q1=>hf H1 α1 M1 vs ds Q h1 r1 q1)
noncomputable def bLen:List D->Sto->Out D:=fun ds M=>match ds with
 | [x]=>match Zer M x with | some xs=> .ok (.int xs.length) M | none=> .bad
 |_=> .bad
theorem ZL:CO X ξ (fun xs H Q=> ∃ p ys,xs=[.ref p]/\(SqL X.K H p ys\/SqT X.K H p ys)/\Q (.int ys.length) H) bLen:=by
 intro H α M vs ds Q h rs q
 unfold bLen at q
 cases rs with
 |nil=>exact q.elim
 | @cons v x vs ds r t=>
  cases t with
  |cons _ _=>exact q.elim
  |nil=>
  cases e:Zer M x with
  |none=>simp only[e] at q;exact q.elim
  |some ys=>
   simp only[e] at q
   obtain ⟨p,xs,rfl,h2,h3⟩:=Zh8 h r e
   exact ⟨p,xs,rfl,h2,by rw[h3.length];exact q _ H α Ext.refl h (.int _)⟩
noncomputable def bAbs:List D->Sto->Out D:=fun ds M=>match ds with | [.int i]=> .ok (.int (if i < 0 then -i else i)) M | _=> .bad
theorem Zfi:CO X ξ (fun xs H Q=> ∃ i,xs=[.int i]/\Q (.int (if i < 0 then -i else i)) H) bAbs:=by
 intro H α M vs ds Q h rs q
 unfold bAbs at q
 split at q
 ·cases rs with
  |cons r t=>
   cases t
   cases r
   exact ⟨_,rfl,q _ H α Ext.refl h (.int _)⟩
 ·exact q.elim
noncomputable def bMax:List D->Sto->Out D:=fun ds M=>match ds with | [.int i,.int j]=> .ok (.int (if j > i then j else i)) M | _=> .bad
noncomputable def bMin:List D->Sto->Out D:=fun ds M=>match ds with | [.int i,.int j]=> .ok (.int (if j < i then j else i)) M | _=> .bad
theorem ZkA {g:Int->Int->Int} {f:List D->Sto->Out D} (hf: ∀ ds M,f ds M=match ds with | [.int i,.int j]=> .ok (.int (g i j)) M | _=> .bad):CO X ξ (fun xs H Q=> ∃ i j,xs=[.int i,.int j]/\Q (.int (g i j)) H) f:=by
 intro H α M vs ds Q h rs q
 rw[hf] at q
 split at q
 ·rename_i i j
  cases rs with
  |cons r t=>
   cases t with
   |cons r' t'=>
    cases t'
    cases r
    cases r'
    exact ⟨i,j,rfl,q _ H α Ext.refl h (.int _)⟩
 ·exact q.elim
theorem ZkB:CO X ξ (fun xs H Q=> ∃ i j,xs=[.int i,.int j]/\Q (.int (if j > i then j else i)) H) bMax:=ZkA (g:=fun i j=>if j > i then j else i) fun ds M=>rfl
theorem Znu:CO X ξ (fun xs H Q=> ∃ i j,xs=[.int i,.int j]/\Q (.int (if j < i then j else i)) H) bMin:=ZkA (g:=fun i j=>if j < i then j else i) fun ds M=>rfl
noncomputable def bInt:List D->Sto->Out D:=fun ds M=>match ds with | [.int i]=> .ok (.int i) M | [.bl k]=> .ok (.int (if k then 1 else 0)) M | _=> .bad
theorem Znv:CO X ξ (fun xs H Q=>(∃ i,xs=[.int i]/\Q (.int i) H)\/ ∃ k,xs=[.bl k]/\Q (.int (if k then 1 else 0)) H) bInt:=by
 intro H α M vs ds Q h rs q
 unfold bInt at q
 split at q
 ·cases rs with
  |cons r t=>
   cases t
   cases r
   exact .inl ⟨_,rfl,q _ H α Ext.refl h (.int _)⟩
 ·cases rs with
  |cons r t=>
   cases t
   cases r
   exact .inr ⟨_,rfl,q _ H α Ext.refl h (.int _)⟩
 ·exact q.elim
noncomputable def bList:List D->Sto->Out D:=fun ds M=>match ds with
 | [x]=>match Zer M x with | some xs=> .ok (.ref M.length) (M ++ [.lst xs]) | none=> .bad
 |_=> .bad
theorem Zes:CO X ξ (fun xs H Q=> ∃ p ys,xs=[.ref p]/\(SqL X.K H p ys\/SqT X.K H p ys)/\ ∀ l,H l=none->Q (.ref l) (upd H l (.lst ys))) bList:=by
 intro H α M vs ds Q h rs q
 unfold bList at q
 cases rs with
 |nil=>exact q.elim
 | @cons v x vs ds r t=>
  cases t with
  |cons _ _=>exact q.elim
  |nil=>
  cases e:Zer M x with
  |none=>simp only[e] at q;exact q.elim
  |some ys=>
   simp only[e] at q
   obtain ⟨p,xs,rfl,h2,h3⟩:=Zh8 h r e
   exact ⟨p,xs,rfl,h2,fun l hl=>q _ _ (α ++ [l]) (Ext.new hl) (h.new hl h3) (.ref ⟨h.last l,Kn.lst ZJ⟩)⟩
noncomputable def Zbq (M:Sto) (x:D):Option String:=match kd M x with
 |some .non=>some "NoneType"
 |some (.bl _)=>some "bool"
 |some (.int _)=>some "int"
 |some (.str _)=>some "str"
 |some (.tup _)=>some "tuple"
 |some (.lst _)=>some "list"
 |none=>none
noncomputable def ZcD (t T:String):Bool:=t == T || (t == "bool" && T == "int")
noncomputable def ZdC (T:String) (f:Ev):Ev:=fun ρ M=>(f ρ M).bind fun x M1=>match Zbq M1 x with | some t=> .ok (.bl (ZcD t T)) M1 | none=> .bad
noncomputable def Ztd (X:Cx) (T:String):List V->Hp->VK->Prop:=fun vs H Q=> ∃ v α M x t,vs=[v,.ty T]/\HR X.K H α M/\Rep X.K H α v x/\Zbq M x=some t/\Q (.bl (ZcD t T)) H
structure Kit (K:PySem.W.Frag) (T:String):Prop where
 non:PySem.W.kitOne K (.type "NoneType") (.type T)=some (ZcD "NoneType" T)
 bl:PySem.W.kitOne K (.type "bool") (.type T)=some (ZcD "bool" T)
 int:PySem.W.kitOne K (.type "int") (.type T)=some (ZcD "int" T)
 str:PySem.W.kitOne K (.type "str") (.type T)=some (ZcD "str" T)
 tup:PySem.W.kitOne K (.type "tuple") (.type T)=some (ZcD "tuple" T)
 lst:PySem.W.kitOne K (.type "list") (.type T)=some (ZcD "list" T)
theorem Zh9 {K:PySem.W.Frag}:Kit K "int":=⟨rfl,rfl,rfl,rfl,rfl,rfl⟩
theorem Zet {K:PySem.W.Frag}:Kit K "bool":=⟨rfl,rfl,rfl,rfl,rfl,rfl⟩
theorem ZaO {K:PySem.W.Frag}:Kit K "tuple":=⟨rfl,rfl,rfl,rfl,rfl,rfl⟩
theorem Zay {K:PySem.W.Frag}:Kit K "list":=⟨rfl,rfl,rfl,rfl,rfl,rfl⟩
theorem ZjJ (kt:Kit X.K T):Zcm X (.builtin "isinstance") (Ztd X T):=by
 intro pins s σ H vs us Q I rs ⟨v,α,M,x,t,e1,h,rx,et,q⟩
 subst e1
 obtain ⟨u,w,rfl,ru,rw'⟩:=Zjv rs
 cases rw'
 unfold Zbq at et
 cases ek:kd M x with
 |none=>rw[ek] at et;cases et
 |some k=>
  rw[ek] at et
  have va:=vw I h rx ru ek
  have fin: ∀ tk,EP X pins σ Q (.bool (ZcD t T)) { s with toks:=tk }:=fun tk=>⟨.bl _,H,I.tok tk,rfl,q⟩
  cases va with
  |non=>cases et;exact PySem.W.kia_one PySem.W.kitx_none I.kIn True.intro kt.non (fun z=>nomatch z) fin
  |bl b=>cases et;exact PySem.W.kia_one PySem.W.kitx_bool I.kIn True.intro kt.bl (fun z=>nomatch z) fin
  |int i t=>cases et;exact PySem.W.kia_one PySem.W.kitx_int I.kIn True.intro kt.int (fun z=>nomatch z) fin
  |str i t=>cases et;exact PySem.W.kia_one PySem.W.kitx_str I.kIn True.intro kt.str (fun z=>nomatch z) fin
  |tup g _ _=>cases et;obtain ⟨o,h1,h2,_⟩:=g;exact PySem.W.kia_one PySem.W.kitx_tuple I.kIn ⟨o,h1,h2⟩ kt.tup (fun z=>nomatch z) fin
  |lst g _ _=>cases et;obtain ⟨o,h1,h2,_⟩:=g;exact PySem.W.kia_one PySem.W.kitx_list I.kIn ⟨o,h1,h2⟩ kt.lst (fun z=>nomatch z) fin
theorem Z7 {y:Str} {p2:Pos} (kt:Kit X.K T) (hm:X.mg "isinstance"=none) (hmT:X.mg y=none) (hvT:bootBuiltins y=some (.type T)) (ha:DE X ξ e fa) (hg:Gl X "isinstance":=by rfl) (hgT:Gl X y:=by rfl) (hn:y≠"__name__":=by decide) (hdb:(y == ("__debug__":Str))=false:=by decide)
  (he:starEach [e,.Name y p2] X.env=(false,eval e X.env) :: starEach [.Name y p2] X.env:=by rfl) (he2:starEach [.Name y p2] X.env=(false,eval (.Name y p2) X.env) :: starEach [] X.env:=by rfl) (hpl:(backTo pos (starEach [.Name y p2] X.env)).any (·.1)=false:=by rfl):DE X ξ (.Call (.Name "isinstance" p) [e,.Name y p2] [] pos) (ZdC T fa):=by
 obtain ⟨ta,ha,qa⟩:=ha
 refine ⟨_,Zgx (ZjJ kt) hg hm (by with_unfolding_all rfl) (Zf3 ha (Zf3 (Zlb hgT hmT hvT (v:= .ty T) rfl hn hdb) Zkt he2) he) (by decide) (by decide) he hpl,fun σ ρ H α M Q s h q=> ?_⟩
 refine qa σ ρ H α M _ s h (OG.seq q fun x M1 v H1 α1 e1 h1 r1 q1=> ?_)
 cases et:Zbq M1 x with
 |none=>simp only[et] at q1;exact q1.elim
 |some t=>
  simp only[et] at q1
  exact ⟨v,α1,M1,x,t,rfl,h1,r1,et,q1 _ H1 α1 Ext.refl h1 (.bl _)⟩
end
end DL
end
section
namespace DL
open PySem PySem.Spec PyProof.Rows L2
noncomputable def CXE (P:Program) (w:World):CXT:=fun outer H s E e s'=> ∃ (ea C:Addr) (dct:Option Addr) (B:Heap) (H':Hp),e= .ref ea/\s'.os=s.os/\AllBare s'.gens/\Un (frs outer) [] H H' s.heap s'.heap/\HOk P w H' s'.heap/\
 DQ.Fly B outer ea (.ref C) dct .none s'.heap/\(∀ b u,H' b=some u-> ∃ o,B.get? b=some o)/\(∀ b o,s.heap.get? b=some o->b ∉ frs outer-> ∃ o',B.get? b=some o')/\E (.ref C) dct H'
structure Thr (X:Cx) (ξ:XK):Prop where
 own:PassesOwn (model X.prog X.w) X.A X.env X.xe
 ps:ZhO (CXE X.prog X.w) X ξ
 mak: ∀ (pins:List (Addr × Obj)) (σ:L2.St) (H:Hp) (s:Shared) (h':Heap) (e:Addr) (oe:Obj) (vs:Array Value) (C:Addr),Inv X pins σ H s->(∀ b o,s.heap.get? b=some o->h'.get? b=some o)->s.heap.get? e=none->h'.get? e=some oe->oe.cls= .ref C->oe.dict=none->
  oe.data= .fields vs->vs[1]?=some .none->vs[2]?=some .none->ξ (.ref C) none H->X.xe (.ref e) { s with heap:=h' }
theorem Zfj {h b1 b2:Heap}: ∀ {l:List Env},h.FunFrames b1 l->(∀ b∈frs l,b2.get? b=none)->h.FunFrames b2 l
 | [],_,_=>trivial
 |env :: r,⟨h1,⟨L,o,h2,h3,h4,h5⟩,h6⟩,k=>⟨h1,⟨L,o,h2,k L (by unfold frs;rw[List.filterMap_cons,h2];exact List.mem_cons_self),h4,h5⟩,Zfj h6 fun b hb=>k b (by
   unfold frs
   rw[List.filterMap_cons,h2]
   exact List.mem_cons_of_mem _ hb)⟩
section
variable {X:Cx} {pins:List (Addr × Obj)} {σ:L2.St} {H H':Hp} {s:Shared} {h1 h2 B:Heap}
theorem ZkC (hx:X.ex=[]) (I:Inv X pins σ H s) (u:Un (frs X.stack) [] H H' s.heap h1) (hok:HOk X.prog X.w H' h1) (t1: ∀ b q,H' b=some q-> ∃ o,B.get? b=some o) (t2: ∀ b o,s.heap.get? b=some o->b ∉ frs X.stack-> ∃ o',B.get? b=some o')
  (st1:B.StaysIn h1) (st2:B.StaysIn h2) (up:h1.UpToSlots h2):Un X.fs [] X.H₀ H' X.s₀.heap h2/\HOk X.prog X.w H' h2/\ ∀ b o,X.s₀.heap.get? b=some o->b ∉ X.fs-> ∃ o',B.get? b=some o':=by
 have kB: ∀ b ob o,B.get? b=some ob->h1.get? b=some o->h2.get? b=some o:=fun b ob o e x=>by
  have z:=st1 b ob e
  rw[x] at z
  cases z
  exact st2 b _ e
 have nx: ∀ b,b ∉ X.ex:=fun b=>by rw[hx];simp
 have nL: ∀ b o,X.s₀.heap.get? b=some o->b ∉ X.fs->b ∉ frs X.stack:=fun b o e n z=>by
  rcases List.mem_cons.mp (I.stkSub b z) with q | q
  ·exact absurd (Heap.lt_size e) (by rw[q];exact Nat.not_lt_of_le I.ok.above)
  ·exact n q
 have th: ∀ b o,X.s₀.heap.get? b=some o->b ∉ X.fs-> ∃ o',B.get? b=some o':=fun b o e n=>by
  obtain ⟨o',e'⟩:=I.base.there b o e (nx b)
  exact t2 b o' e' (nL b o e n)
 have sl: ∀ b o,X.s₀.heap.get? b=some o->X.H₀ b=none->b∈X.fs-> ∃ sl,h2.get? b=some { o with slots:=sl }:=fun b o e n hb=>by
  obtain ⟨s1,e1⟩:=I.base.slot b o e n hb (nx b)
  obtain ⟨s2,e2⟩:=u.any e1 (I.base.free b o e n (nx b)) (by simp)
  obtain ⟨_,o',g1,g2⟩:=I.ok.funs.mem hb
  rw[e] at g1
  cases g1
  obtain ⟨s3,e3⟩:=up b _ e2 g2
  exact ⟨s3,e3⟩
 refine ⟨⟨fun b o e n hb _=> ?_,fun b o e n hb _=>sl b o e n hb,fun b o e n _=> ?_,fun b o e _=> ?_,fun b xs e=>u.tups b xs (I.base.tups b xs e),fun b o xs e=>u.frzs b o xs (I.base.frzs b o xs e),fun b ps e=> ?_⟩,fun a o e=> ?_,th⟩
 ·obtain ⟨ob,g⟩:=th b o e hb
  exact kB b ob o g (u.keep b o (I.base.keep b o e n hb (nx b)) (I.base.free b o e n (nx b)) (nL b o e hb) (by simp))
 ·obtain ⟨o',e'⟩:=I.base.there b o e (nx b)
  exact u.free b o' e' (I.base.free b o e n (nx b)) (by simp)
 ·by_cases hb:b∈X.fs
  ·obtain ⟨s1,e1⟩:=sl b o e (I.ok.frf b hb) hb
   exact ⟨_,e1⟩
  ·obtain ⟨ob,g⟩:=th b o e hb
   exact ⟨ob,st2 b ob g⟩
 ·obtain ⟨m1,e1⟩:=I.base.tbls b ps e
  obtain ⟨m2,e2⟩:=u.tbls b _ e1
  exact ⟨m1 ++ m2,by rw[e2,Array.append_assoc]⟩
 ·refine (hok a o e).stay (fun b q hb x=> ?_) (fun _ q=>q) fun _ _ q=>q
  have tr: ∃ q,H' b=some q:=by
   rcases hb with z | z
   ·exact ⟨o,z ▸ e⟩
   ·exact ⟨_,z⟩
  obtain ⟨q',z⟩:=tr
  obtain ⟨ob,g⟩:=t1 b q' z
  exact kB b ob q g x
end
theorem ZjK {P:Program} {w:World} {H:Hp} {h:Heap} {a:Addr} {o:HO} (x:Zcy P w H h a o): ∃ ob,h.get? a=some ob:=by
 cases o with
 |lst xs=>obtain ⟨_,_,_,_,e⟩:=x;exact ⟨_,e⟩
 |tup xs=>obtain ⟨_,_,_,ob,e,_⟩:=x;exact ⟨_,e⟩
 |dK kvs=>obtain ⟨_,_,_,_,o,_,_,e,_⟩:=x;exact ⟨_,e⟩
 |dT kvs=>obtain ⟨_,_,_,_,o,_,_,e,_⟩:=x;exact ⟨_,e⟩
 |set S n=>obtain ⟨o,_,_,_,e,_⟩:=x;exact ⟨_,e⟩
 |ins C dx fs=>obtain ⟨_,_,_,e,_⟩:=x;exact ⟨_,e⟩
 |own y=>exact x
 |xd fs=>obtain ⟨_,⟨_,_,_,e,_⟩,_⟩:=x;exact ⟨_,e⟩
 |rng lo hi=>obtain ⟨_,_,_,e⟩:=x;exact ⟨_,e⟩
 |frz ob u=>obtain ⟨e,_⟩:=x;exact ⟨_,e⟩
 |tbl ps=>exact ⟨_,(show h.get? a=some _ from x)⟩
 |met f y=>exact ⟨_,(show h.get? a=some _ from x)⟩
 |ext φ=>obtain ⟨_,e,_⟩:=x;exact e
noncomputable def Zjj (h:Heap) (l:List Addr):Heap:=Zji h fun b=>if b∈l then some (.own 0) else none
theorem ZgF {h:Heap} {l:List Addr} {b:Addr} {o:Obj} (e:h.get? b=some o) (n:b ∉ l):(Zjj h l).get? b=some o:=Zgu e (if_neg n)
theorem Zf6 {h:Heap} {l:List Addr} {b:Addr} {o:Obj} (e:(Zjj h l).get? b=some o):h.get? b=some o/\b ∉ l:=by
 obtain ⟨a,n⟩:=ZhE e
 refine ⟨a,fun z=> ?_⟩
 simp only[if_pos z] at n
 cases n
theorem Zia {h:Heap} {l:List Addr} {b:Addr} (n:b∈l):(Zjj h l).get? b=none:=by
 cases q:(Zjj h l).get? b with
 |none=>rfl
 |some o=>exact absurd n (Zf6 q).2
theorem Znw {P:Program} {w:World} {K:PySem.W.Frag} {mg:Str->Option Value} {base:Heap} {N:List Str} {qual:Str} {scope:Scope} {f:Addr} {cd:Value} {A:Around} {outer:List Env} {s:Shared} {H:Hp} {E:XK}:
  Thr (Zf1 (CXE P w) P w K mg base N qual scope f cd A outer s H E) E:=by
 refine ⟨PassesOwn.leaving,fun pins σ H1 s1 e s2 I h=> ?_,fun pins σ H1 s1 h' e oe vs C I k hn he hc hdi hd v1 v2 q=> ?_⟩
 ·obtain ⟨ea,C,dct,B,H2,rfl,os,bare,un,hok,fl,t1,t2,q⟩:=h
  refine DQ.ZhX (outer:=outer) I.ok.frames rfl fl fun h3 f3 up=> ?_
  obtain ⟨a1,a2,a3⟩:=ZkC rfl I un hok t1 t2 fl.stay f3.stay up
  exact ⟨ea,C,dct,B,H2,rfl,os.trans I.os,bare,a1,a2,f3,t1,a3,q⟩
 ·have st:=I.stack
  have t2: ∀ b o,s1.heap.get? b=some o->b ∉ frs (Zf1 (CXE P w) P w K mg base N qual scope f cd A outer s H E).stack-> ∃ o',(Zjj s1.heap (frs (Zf1 (CXE P w) P w K mg base N qual scope f cd A outer s H E).stack)).get? b=some o':=fun b o x n=>⟨o,ZgF x n⟩
  have hs:(Zjj s1.heap (frs (Zf1 (CXE P w) P w K mg base N qual scope f cd A outer s H E).stack)).StaysIn h':=fun b o x=>k b o (Zf6 x).1
  have hl:h'.FunFrames (Zjj s1.heap (frs (Zf1 (CXE P w) P w K mg base N qual scope f cd A outer s H E).stack)) (Zf1 (CXE P w) P w K mg base N qual scope f cd A outer s H E).stack:=
   (Zfj st fun b hb=>Zia hb).of_keeps fun b o x _=>⟨o,k b o x,rfl⟩
  have hb:(Zjj s1.heap (frs (Zf1 (CXE P w) P w K mg base N qual scope f cd A outer s H E).stack)).get? e=none:=by
   cases z:(Zjj s1.heap (frs (Zf1 (CXE P w) P w K mg base N qual scope f cd A outer s H E).stack)).get? e with
   |none=>rfl
   |some o=>
    have:=(Zf6 z).1
    rw[hn] at this
    cases this
  have t1: ∀ b u,H1 b=some u-> ∃ o,(Zjj s1.heap (frs (Zf1 (CXE P w) P w K mg base N qual scope f cd A outer s H E).stack)).get? b=some o:=fun b u x=>by
   obtain ⟨o,g⟩:=ZjK (I.hok b u x)
   exact ⟨o,ZgF g fun z=>by rw[I.stkFree b z] at x;cases x⟩
  refine DQ.ZhY (s:={ s1 with heap:=h' }) (outer:=outer) I.ok.frames rfl hl he hs hb hd v1 v2 fun h3 f3 up=> ?_
  obtain ⟨a1,a2,a3⟩:=ZkC rfl I (Un.kept k) (I.hok.kept k) t1 t2 hs f3.stay up
  rw[hc,hdi] at f3
  exact ⟨e,C,none,_,H1,rfl,I.os,I.bare,a1,a2,f3,t1,a3,q⟩
end DL
end
section
namespace DL
open PySem PySem.Spec PyProof.Rows L2
noncomputable def FP (K:PySem.W.Frag) (H:Hp) (α:List Addr) (ξ:XK) (Dn:Ends):Fl->Prop
 | .nx ρ' M'=> ∀ σ' H' α',Ext K H H' α α'->HR K H' α' M'->SR K H' α' σ' ρ'->Dn.nx σ' H'
 | .brk ρ' M'=> ∀ σ' H' α',Ext K H H' α α'->HR K H' α' M'->SR K H' α' σ' ρ'->Dn.bk σ' H'
 | .cnt ρ' M'=> ∀ σ' H' α',Ext K H H' α α'->HR K H' α' M'->SR K H' α' σ' ρ'->Dn.ct σ' H'
 | .ret d M'=> ∀ v H' α',Ext K H H' α α'->HR K H' α' M'->Rep K H' α' v d->Dn.rt v H'
 | .exc c M'=> ∀ C H' α',PySem.W.nsIn K mainGlobals c=some (some (.ref C))->Ext K H H' α α'->HR K H' α' M'->ξ (.ref C) none H'
 | .bad=>False
theorem FP.ext {K:PySem.W.Frag} {H H1:Hp} {α α1:List Addr} {ξ:XK} {Dn:Ends} {o:Fl} (h:FP K H α ξ Dn o) (e:Ext K H H1 α α1):FP K H1 α1 ξ Dn o:=by
 cases o with
 |nx ρ M=>exact fun σ' H' α' e'=>h σ' H' α' (e.trans e')
 |brk ρ M=>exact fun σ' H' α' e'=>h σ' H' α' (e.trans e')
 |cnt ρ M=>exact fun σ' H' α' e'=>h σ' H' α' (e.trans e')
 |ret d M=>exact fun v H' α' e'=>h v H' α' (e.trans e')
 |exc c M=>exact fun C H' α' n e'=>h C H' α' n (e.trans e')
 |bad=>exact h
noncomputable def DS (X:Cx) (ξ:XK) (st:Stmt) (g:Sv):Prop:= ∃ t:TS,PS X st t/\ ∀ σ ρ H α M Dn,SR X.K H α σ ρ->HR X.K H α M->FP X.K H α ξ Dn (g ρ M)->t Dn σ H
noncomputable def DSs (X:Cx) (ξ:XK) (st:List Stmt) (g:Sv):Prop:= ∃ t:TS,PSs X st t/\ ∀ σ ρ H α M Dn,SR X.K H α σ ρ->HR X.K H α M->FP X.K H α ξ Dn (g ρ M)->t Dn σ H
noncomputable def Zba {β:Type} (o:Out β) (k:β->Sto->Fl):Fl:=match o with
 | .ok a M=>k a M
 | .exc c M=> .exc c M
 | .bad=> .bad
theorem FP.seq {β γ:Type} {K:PySem.W.Frag} {R:Hp->List Addr->γ->β->Prop} {H:Hp} {α:List Addr} {ξ:XK} {Dn:Ends} {Q1:γ->Hp->Prop} {o:Out β} {f:β->Sto->Fl}
  (h:FP K H α ξ Dn (Zba o f)) (k: ∀ d M' v H' α',Ext K H H' α α'->HR K H' α' M'->R H' α' v d->FP K H' α' ξ Dn (f d M')->Q1 v H'):OG K R H α ξ Q1 o:=by
 cases o with
 |ok d M'=>exact fun v H' α' e hr r=>k d M' v H' α' e hr r (FP.ext (o:=f d M') h e)
 |exc c M'=>exact h
 |bad=>exact h
noncomputable def ZD (g h:Sv):Sv:=fun ρ M=>match g ρ M with
 | .nx ρ1 M1=>h ρ1 M1
 |o=>o
noncomputable def sNil:Sv:=fun ρ M=> .nx ρ M
noncomputable def ZN (f:Ev):Sv:=fun ρ M=>Zba (f ρ M) fun d M1=> .ret d M1
noncomputable def Znx:Sv:=fun _ M=> .ret .non M
noncomputable def Zds (f:Ev):Sv:=fun ρ M=>Zba (f ρ M) fun _ M1=> .nx ρ M1
noncomputable def sIf (c:Tv) (g h:Sv):Sv:=fun ρ M=>Zba (c ρ M) fun k M1=>if k=true then g ρ M1 else h ρ M1
noncomputable def Zte:Sv:=fun ρ M=> .brk ρ M
noncomputable def Ztf:Sv:=fun ρ M=> .cnt ρ M
noncomputable def sBad:Sv:=fun _ _=> .bad
noncomputable abbrev Tg:=D->Ro->Option Ro
noncomputable abbrev Tgs:=List D->Ro->Option Ro
noncomputable def gNm (i:Nat):Tg:=fun d ρ=>some (ρ.set i (some d))
noncomputable def gNl:Tgs:=fun ds ρ=>match ds with | []=>some ρ | _=>none
noncomputable def gCs (g:Tg) (gs:Tgs):Tgs:=fun ds ρ=>match ds with | d :: r=>(match g d ρ with | some ρ1=>gs r ρ1 | none=>none) | []=>none
noncomputable def gTp (gs:Tgs):Tg:=fun d ρ=>match d with | .tup ds=>gs ds ρ | _=>none
noncomputable def Z4 (g:Tg) (f:Ev):Sv:=fun ρ M=>Zba (f ρ M) fun d M1=>match g d ρ with | some ρ1=> .nx ρ1 M1 | none=> .bad
noncomputable def Ze3 (i j:Nat) (fs:Av):Sv:=fun ρ M=>Zba (fs ρ M) fun ds M1=>match ds with | [v,w]=> .nx ((ρ.set i (some v)).set j (some w)) M1 | _=> .bad
noncomputable def ZpN (fo fi fe:Ev):Sv:=fun ρ M=>Zba (fe ρ M) fun d M1=>Zba (fo ρ M1) fun o M2=>Zba (fi ρ M2) fun i M3=>match o,i with
 | .ref n,.int k=>(match M3[n]? with
  |some (.lst xs)=>(match ixN xs.length k with | some j=> .nx ρ (M3.set n (.lst (xs.set j d))) | none=> .bad)
  |_=> .bad)
 |_,_=> .bad
section
variable {X:Cx} {ξ:XK} {st:Stmt} {sts:List Stmt} {g h:Sv} {e:Expr} {f:Ev} {pos:Pos} {c:Expr} {fc:Tv}
theorem Zo:DSs X ξ [] sNil:=⟨_,Zlc,fun σ ρ H α M Dn s h q=>q σ H α Ext.refl h s⟩
theorem Zf (h1:DS X ξ st g) (h2:DSs X ξ sts h):DSs X ξ (st :: sts) (ZD g h):=by
 obtain ⟨t1,p1,q1⟩:=h1
 obtain ⟨t2,p2,q2⟩:=h2
 refine ⟨_,Zjm p1 p2,fun σ ρ H α M Dn s hh q=>q1 σ ρ H α M { Dn with nx:=t2 Dn } s hh ?_⟩
 unfold ZD at q
 cases e:g ρ M with
 |nx ρ1 M1=>rw[e] at q;exact fun σ' H' α' ex hr sr=>q2 σ' ρ1 H' α' M1 Dn sr hr (FP.ext q ex)
 |brk ρ1 M1=>rw[e] at q;exact q
 |cnt ρ1 M1=>rw[e] at q;exact q
 |ret d M1=>rw[e] at q;exact q
 |exc c M1=>rw[e] at q;exact q
 |bad=>rw[e] at q;exact q
theorem Zj (h1:DS X ξ st g):DSs X ξ [st] g:=let ⟨_,p,q⟩:=h1;⟨_,Zld p,q⟩
theorem Zm (he:DE X ξ e f):DS X ξ (.Return (some e) pos) (ZN f):=by
 obtain ⟨t,p,q⟩:=he
 exact ⟨_,ZmX p,fun σ ρ H α M Dn s hh w=>q σ ρ H α M _ s hh (FP.seq w fun d M1 v H1 α1 e1 h1 r1 w1=>w1 v H1 α1 Ext.refl h1 r1)⟩
theorem Zb3 (he:DE X ξ e f) (hs:swapsWith e none pos.line X.env=pure false:=by rfl):DS X ξ (.Expr e pos) (Zds f):=by
 obtain ⟨t,p,q⟩:=he
 exact ⟨_,Zle p hs,fun σ ρ H α M Dn s hh w=>q σ ρ H α M _ s hh (FP.seq w fun d M1 v H1 α1 e1 h1 r1 w1=>w1 σ H1 α1 Ext.refl h1 (s.mono e1))⟩
theorem ZF {a b:List Stmt} (hc:DT X ξ c fc) (ha:DSs X ξ a g) (hb:DSs X ξ b h):DS X ξ (.If c a b pos) (sIf fc g h):=by
 obtain ⟨tc,pc,qc⟩:=hc
 obtain ⟨ta,pa,qa⟩:=ha
 obtain ⟨tb,pb,qb⟩:=hb
 refine ⟨_,Zp3 pc pa pb,fun σ ρ H α M Dn s hh w=>qc σ ρ H α M _ s hh (FP.seq w fun k M1 v H1 α1 e1 h1 r1 w1=> ?_)⟩
 cases r1
 cases k with
 |true=>exact Zkw (qa σ ρ H1 α1 M1 Dn (s.mono e1) h1 w1)
 |false=>exact Zkv (qb σ ρ H1 α1 M1 Dn (s.mono e1) h1 w1)
theorem Zcs:DS X ξ st sBad:=⟨_,Zjn,fun σ ρ H α M Dn s h q=>q⟩
noncomputable def DG (X:Cx) (tg:Expr) (g:Tg):Prop:= ∃ t:TG,PG X tg t/\ ∀ v d σ ρ H α ρ' Q,SR X.K H α σ ρ->Rep X.K H α v d->g d ρ=some ρ'->(∀ σ',SR X.K H α σ' ρ'->Q σ' H)->t v σ H Q
noncomputable def DGs (X:Cx) (tgs:List Expr) (g:Tgs):Prop:= ∃ t:TGs,PGs X tgs t/\ ∀ vs ds σ ρ H α ρ' Q,SR X.K H α σ ρ->Reps X.K H α vs ds->g ds ρ=some ρ'->(∀ σ',SR X.K H α σ' ρ'->Q σ' H)->t vs σ H Q
theorem Zp (i:Nat) {x:Str} (hN:X.N.Nodup) (hi:X.N[i]?=some x:=by rfl) (hx:Loc X.env.scope x:=by first | exact Or.inl rfl | exact Or.inr rfl) (hm:X.may i=true:=by rfl) (hf:X.fn x=true\/X.env.scope.names.lookup x=some .local:=by first | exact .inl rfl | exact .inr rfl | assumption):DG X (.Name x pos) (gNm i):=by
 refine ⟨_,Zlf hN hi hx hm hf,fun v d σ ρ H α ρ' Q s r e k=> ?_⟩
 cases e
 exact k _ (s.set i r)
theorem ZX:DGs X [] gNl:=by
 refine ⟨_,Zlg,fun vs ds σ ρ H α ρ' Q s r e k=> ?_⟩
 cases r with
 |nil=>cases e;exact ⟨rfl,k _ s⟩
 |cons _ _=>cases e
theorem Zv {es:List Expr} {g:Tg} {gs:Tgs} (h1:DG X e g) (h2:DGs X es gs) (hs:(assignEach (e :: es) X.env).map (·.2)=assign e X.env :: (assignEach es X.env).map (·.2):=by rfl):DGs X (e :: es) (gCs g gs):=by
 obtain ⟨t1,p1,q1⟩:=h1
 obtain ⟨t2,p2,q2⟩:=h2
 refine ⟨_,Zjo p1 p2 hs,fun vs ds σ ρ H α ρ' Q s r e k=> ?_⟩
 cases r with
 |nil=>cases e
 |cons r rr=>
  rename_i v d vs ds
  cases e1:g d ρ with
  |none=>simp only[gCs,e1] at e;cases e
  |some ρ1=>
   simp only[gCs,e1] at e
   exact ⟨v,vs,rfl,q1 v d σ ρ H α ρ1 _ s r e1 fun σ' s'=>q2 vs ds σ' ρ1 H α ρ' Q s' rr e k⟩
theorem Zav {es:List Expr} {k:Nat} {gs:Tgs} {n:Nat} (hc:X.calm=true) (h:DGs X es gs) (hn:(assignEach es X.env).length=n:=by rfl) (hlen: ∀ ds ρ ρ',gs ds ρ=some ρ'->ds.length=n) (hst:(assignEach es X.env).findIdx? (·.1)=none:=by rfl):DG X (.Tuple es k pos) (gTp gs):=by
 obtain ⟨t,p,q⟩:=h
 refine ⟨_,ZmZ hc p hn hst,fun v d σ ρ H α ρ' Q s r e k=> ?_⟩
 cases r with
 | @tup a xs ds hp rp=>
  have e':gs ds ρ=some ρ':=e
  exact ⟨a,xs,rfl,(SqT.of hp),by rw[rp.length];exact hlen ds ρ ρ' e',q xs ds σ ρ H α ρ' Q s rp e' k⟩
 |_=>cases e
theorem ZY {ds:List D} {ρ ρ':Ro} (h:gNl ds ρ=some ρ'):ds.length=0:=by cases ds with | nil=>rfl | cons _ _=>cases h
theorem ZA {g:Tg} {gs:Tgs} {n:Nat} (h: ∀ ds ρ ρ',gs ds ρ=some ρ'->ds.length=n) (ds:List D) (ρ ρ':Ro) (e:gCs g gs ds ρ=some ρ'):ds.length=n + 1:=by
 cases ds with
 |nil=>cases e
 |cons d r=>
  cases e1:g d ρ with
  |none=>simp only[gCs,e1] at e;cases e
  |some ρ1=>simp only[gCs,e1] at e;rw[List.length_cons,h r ρ1 ρ' e]
theorem Zy (i:Nat) {x:Str} {pos':Pos} (hN:X.N.Nodup) (he:DE X ξ e f) (hi:X.N[i]?=some x:=by rfl) (hx:Loc X.env.scope x:=by first | exact Or.inl rfl | exact Or.inr rfl) (hm:X.may i=true:=by rfl) (hs:swapsWith e (some (.Name x pos')) pos.line X.env=pure false:=by rfl) (hf:X.fn x=true\/X.env.scope.names.lookup x=some .local:=by first | exact .inl rfl | exact .inr rfl | assumption):
  DS X ξ (.Assign [.Name x pos'] e pos) (Z4 (gNm i) f):=by
 obtain ⟨t,p,q⟩:=he
 exact ⟨_,Zm1 hN hi hx hm p hs hf,fun σ ρ H α M Dn s hh w=>q σ ρ H α M _ s hh (FP.seq w fun d M1 v H1 α1 e1 h1 r1 w1=>w1 _ H1 α1 Ext.refl h1 ((s.mono e1).set i r1))⟩
theorem Zeh {tg:Expr} {gt:Tg} (he:DE X ξ e f) (hg:DG X tg gt) (hs:swapsWithSole [tg] e pos.line X.env=pure false:=by rfl) (hw:swappedStores [tg] e X.env=pure none:=by rfl)
  (h1:(assignEach [tg] X.env).map (·.2)=[assign tg X.env]:=by rfl):DS X ξ (.Assign [tg] e pos) (Z4 gt f):=by
 obtain ⟨t,p,q⟩:=he
 obtain ⟨tt,pt,qt⟩:=hg
 refine ⟨_,Zm0 p pt hs hw h1,fun σ ρ H α M Dn s hh w=>q σ ρ H α M _ s hh (FP.seq w fun d M1 v H1 α1 e1 h1 r1 w1=> ?_)⟩
 cases eg:gt d ρ with
 |none=>simp only[eg] at w1;exact w1.elim
 |some ρ1=>
  simp only[eg] at w1
  exact qt v d σ ρ H1 α1 ρ1 _ (s.mono e1) r1 eg fun σ' s'=>w1 σ' H1 α1 Ext.refl h1 s'
theorem ZcJ (i j:Nat) {x y:Str} {a b:Expr} {fs:Av} {px py pt:Pos} {kt k2 pt2} (hc:X.calm=true) (hN:X.N.Nodup) (ha:DA X ξ [a,b] fs) (hi:X.N[i]?=some x:=by rfl) (hj:X.N[j]?=some y:=by rfl) (mi:X.may i=true:=by rfl) (mj:X.may j=true:=by rfl) (hij:i≠j:=by decide)
  (hx:X.env.scope.names.lookup x=some .local:=by rfl) (hy:X.env.scope.names.lookup y=some .local:=by rfl)
  (hw:swappedStores [.Tuple [.Name x px,.Name y py] kt pt] (.Tuple [a,b] k2 pt2) X.env=pure (some [x,y]):=by rfl)
  (hs:swapsWithSole [.Tuple [.Name x px,.Name y py] kt pt] (.Tuple [a,b] k2 pt2) pos.line X.env=pure false:=by rfl):
  DS X ξ (.Assign [.Tuple [.Name x px,.Name y py] kt pt] (.Tuple [a,b] k2 pt2) pos) (Ze3 i j fs):=by
 obtain ⟨t,p,q⟩:=ha
 refine ⟨_,Zm2 hc mi mj hN hi hj hij hx hy p hw hs,fun σ ρ H α M Dn s hh w=>q σ ρ H α M _ s hh (FP.seq w fun ds M1 vs H1 α1 e1 h1 r1 w1=> ?_)⟩
 match r1 with
 | .nil=>exact w1.elim
 | .cons _ .nil=>exact w1.elim
 | .cons _ (.cons _ (.cons _ _))=>exact w1.elim
 | .cons r (.cons r' .nil)=>exact ⟨_,_,rfl,w1 _ H1 α1 Ext.refl h1 (((s.mono e1).set i r).set j r')⟩
noncomputable def whN (c:Tv) (g:Sv):Nat->Ro->Sto->Option Fl
 |0,_,_=>none
 |n + 1,ρ,M=>match c ρ M with
  | .ok true M1=>(match g ρ M1 with
   | .nx ρ2 M2=>whN c g n ρ2 M2
   | .cnt ρ2 M2=>whN c g n ρ2 M2
   | .brk ρ2 M2=>some (.nx ρ2 M2)
   |o=>some o)
  | .ok false M1=>some (.nx ρ M1)
  | .exc e M1=>some (.exc e M1)
  | .bad=>some .bad
theorem ZdD {c:Tv} {g:Sv}: ∀ {n:Nat} {ρ:Ro} {M:Sto} {o:Fl},whN c g n ρ M=some o-> ∀ k,whN c g (n + k) ρ M=some o
 |0,_,_,_,e,_=>by simp only[whN] at e;cases e
 |n + 1,ρ,M,o,e,k=>by
  have ek:n + 1 + k=(n + k) + 1:=by omega
  rw[ek]
  unfold whN at e ⊢
  cases ec:c ρ M with
  |bad=>rw[ec] at e;exact e
  |exc x M1=>rw[ec] at e;exact e
  |ok b M1=>
   rw[ec] at e
   cases b with
   |false=>exact e
   |true=>
    cases eg:g ρ M1 with
    |nx ρ2 M2=>simp only[eg] at e ⊢;exact ZdD e k
    |cnt ρ2 M2=>simp only[eg] at e ⊢;exact ZdD e k
    |brk ρ2 M2=>simp only[eg] at e ⊢;exact e
    |ret d M2=>simp only[eg] at e ⊢;exact e
    |exc x M2=>simp only[eg] at e ⊢;exact e
    |bad=>simp only[eg] at e ⊢;exact e
open Classical in
noncomputable def sWh (c:Tv) (g:Sv):Sv:=fun ρ M=>if h: ∃ o n,whN c g n ρ M=some o then Classical.choose h else .bad
theorem Zdd {c:Tv} {g:Sv} {n:Nat} {ρ:Ro} {M:Sto} {o:Fl} (e:whN c g n ρ M=some o):sWh c g ρ M=o:=by
 have hx: ∃ o n,whN c g n ρ M=some o:=⟨o,n,e⟩
 unfold sWh
 rw[dif_pos hx]
 obtain ⟨m,em⟩:=Classical.choose_spec hx
 have h1:=ZdD em n
 have h2:=ZdD e m
 rw[Nat.add_comm] at h2
 rw[h1] at h2
 exact Option.some.inj h2
theorem Zib {c:Tv} {g:Sv} {ρ:Ro} {M:Sto} (e:sWh c g ρ M≠ .bad): ∃ n,whN c g n ρ M=some (sWh c g ρ M):=by
 by_cases hx: ∃ o n,whN c g n ρ M=some o
 ·obtain ⟨o,n,h⟩:=hx
  exact ⟨n,by rw[Zdd h];exact h⟩
 ·unfold sWh at e
  rw[dif_neg hx] at e
  exact absurd rfl e
theorem Zfk {c:Tv} {g:Sv} {ρ:Ro} {M M1:Sto} (h:c ρ M= .ok false M1):sWh c g ρ M= .nx ρ M1:=Zdd (n:=1) (by simp only[whN,h])
theorem ZgG {c:Tv} {g:Sv} {ρ ρ2:Ro} {M M1 M2:Sto} (h:c ρ M= .ok true M1) (h2:g ρ M1= .nx ρ2 M2) (hb:sWh c g ρ2 M2≠ .bad):sWh c g ρ M=sWh c g ρ2 M2:=by
 obtain ⟨n,e⟩:=Zib hb
 exact Zdd (n:=n + 1) (by simp only[whN,h,h2];exact e)
theorem ZdE {body:List Stmt} (hp:PassesOwn (model X.prog X.w) X.A X.env X.xe) (hc:DT X ξ c fc) (hb:DSs X ξ body g):DS X ξ (.While c body [] pos) (sWh fc g):=by
 obtain ⟨tc,pc,qc⟩:=hc
 obtain ⟨tb,pb,qb⟩:=hb
 refine ⟨_,Zjp hp pc pb,fun σ ρ H α M Dn s hh w=> ?_⟩
 have nb:sWh fc g ρ M≠ .bad:=fun z=>by rw[z] at w;exact w
 obtain ⟨n,en⟩:=Zib nb
 generalize sWh fc g ρ M=o at w en
 refine ⟨fun m σ' H'=> ∃ ρ' α' M',Ext X.K H H' α α'/\SR X.K H' α' σ' ρ'/\HR X.K H' α' M'/\whN fc g m ρ' M'=some o,⟨n,ρ,α,M,Ext.refl,s,hh,en⟩,?_⟩
 rintro m σ1 H1 ⟨ρ1,α1,M1,e1,s1,h1,en1⟩
 cases m with
 |zero=>simp only[whN] at en1;cases en1
 |succ m=>
  refine qc σ1 ρ1 H1 α1 M1 _ s1 h1 ?_
  unfold whN at en1
  cases ec:fc ρ1 M1 with
  |bad=>rw[ec] at en1;cases en1;exact w.elim
  |exc x M2=>
   rw[ec] at en1;cases en1
   exact fun C H' α' nn ex hr=>w C H' α' nn (e1.trans ex) hr
  |ok b M2=>
   rw[ec] at en1
   intro v H2 α2 e2 h2 ev
   cases ev
   cases b with
   |false=>
    cases en1
    exact Zkv (w σ1 H2 α2 (e1.trans e2) h2 (s1.mono e2))
   |true=>
    refine Zkw ⟨fun σ' H'=> ∃ ρ' α' M',Ext X.K H H' α α'/\SR X.K H' α' σ' ρ'/\HR X.K H' α' M'/\whN fc g m ρ' M'=some o,fun σ' H' z=>⟨m,Nat.lt_succ_self m,z⟩,?_⟩
    refine qb σ1 ρ1 H2 α2 M2 _ (s1.mono e2) h2 ?_
    have e12:=e1.trans e2
    cases eg:g ρ1 M2 with
    |nx ρ2 M3=>simp only[eg] at en1;exact fun σ' H' α' ex hr sr=>⟨ρ2,α',M3,e12.trans ex,sr,hr,en1⟩
    |cnt ρ2 M3=>simp only[eg] at en1;exact fun σ' H' α' ex hr sr=>⟨ρ2,α',M3,e12.trans ex,sr,hr,en1⟩
    |brk ρ2 M3=>simp only[eg] at en1;cases en1;exact fun σ' H' α' ex hr sr=>w σ' H' α' (e12.trans ex) hr sr
    |ret d M3=>simp only[eg] at en1;cases en1;exact fun v H' α' ex hr sr=>w v H' α' (e12.trans ex) hr sr
    |exc x M3=>simp only[eg] at en1;cases en1;exact fun C H' α' nn ex hr=>w C H' α' nn (e12.trans ex) hr
    |bad=>simp only[eg] at en1;cases en1;exact w.elim
noncomputable def Zco (tg:Tg) (g:Sv):List D->Ro->Sto->Fl
 | [],ρ,M=> .nx ρ M
 |d :: r,ρ,M=>match tg d ρ with
  |none=> .bad
  |some ρ1=>(match g ρ1 M with
   | .nx ρ2 M2=>Zco tg g r ρ2 M2
   | .cnt ρ2 M2=>Zco tg g r ρ2 M2
   | .brk ρ2 M2=> .nx ρ2 M2
   |o=>o)
noncomputable def Zhx (tg:Tg) (g:Sv) (n:Nat):Nat->Nat->Ro->Sto->Fl
 |f,i,ρ,M=>match M[n]? with
  |some (.lst xs)=>(match xs[i]? with
   |none=> .nx ρ M
   |some d=>(match f with
    |0=> .bad
    |f + 1=>(match tg d ρ with
     |none=> .bad
     |some ρ1=>(match g ρ1 M with
      | .nx ρ2 M2=>Zhx tg g n f (i + 1) ρ2 M2
      | .cnt ρ2 M2=>Zhx tg g n f (i + 1) ρ2 M2
      | .brk ρ2 M2=> .nx ρ2 M2
      |o=>o))))
  |none=> .bad
noncomputable def ZcK (lo:Int) (n:Nat):List D:=(List.range n).map fun (i:Nat)=>D.int (lo + i)
noncomputable def ZkD (tg:Tg) (g:Sv) (d:D) (ρ:Ro) (M:Sto):Fl:=match d with
 | .tup xs=>Zco tg g xs ρ M
 | .rol xs=>Zco tg g xs ρ M
 | .ref n=>(match M[n]? with | some (.lst xs)=>Zhx tg g n xs.length 0 ρ M | none=> .bad)
 |_=> .bad
noncomputable def Zny (tg:Tg) (f:Ev) (g:Sv):Sv:=fun ρ M=>Zba (f ρ M) fun d M1=>ZkD tg g d ρ M1
noncomputable def Zde (tg:Tg) (fs:Av) (g:Sv):Sv:=fun ρ M=>Zba (fs ρ M) fun ds M1=>match ds with
 | [.int j]=>if -(2 ^ 62)<=j/\j < 2 ^ 62 then Zco tg g (ZcK 0 j.toNat) ρ M1 else .bad
 |_=> .bad
noncomputable def Zic (tg:Tg) (fs:Av) (g:Sv):Sv:=fun ρ M=>Zba (fs ρ M) fun ds M1=>match ds with
 | [.int i,.int j]=>if -(2 ^ 62)<=i/\i < 2 ^ 62/\ -(2 ^ 62)<=j/\j < 2 ^ 62 then Zco tg g (ZcK i (j - i).toNat) ρ M1 else .bad
 |_=> .bad
theorem ZgH {lo:Int} {n i:Nat} (h:i < n):(ZcK lo n)[i]?=some (.int (lo + i)):=by
 unfold ZcK
 rw[List.getElem?_map,List.getElem?_range h]
 rfl
theorem Zeu {lo:Int} {n:Nat}:(ZcK lo n).length=n:=by unfold ZcK;rw[List.length_map,List.length_range]
theorem Zid {lo:Int} {n i:Nat} (h:i < n):(ZcK lo n).drop i= .int (lo + i) :: (ZcK lo n).drop (i + 1):=by
 have hl:i < (ZcK lo n).length:=by rw[Zeu];exact h
 have e:=ZgH (lo:=lo) h
 rw[List.getElem?_eq_getElem hl] at e
 rw[List.drop_eq_getElem_cons hl,Option.some.inj e]
theorem ZjL {tg:Expr} {gt:Tg} {tt:TG} {tb:TS} {Dn:Ends} {H H1:Hp} {α α1:List Addr} {o:Fl} {k:Ro->Sto->Fl} (w:FP X.K H α ξ Dn o)
  (qt: ∀ v d σ ρ H α ρ' Q,SR X.K H α σ ρ->Rep X.K H α v d->gt d ρ=some ρ'->(∀ σ',SR X.K H α σ' ρ'->Q σ' H)->tt v σ H Q) (qb: ∀ σ ρ H α M Dn,SR X.K H α σ ρ->HR X.K H α M->FP X.K H α ξ Dn (g ρ M)->tb Dn σ H)
  {v:V} {d:D} {σ1:L2.St} {ρ1:Ro} {M1:Sto} (e1:Ext X.K H H1 α α1) (s1:SR X.K H1 α1 σ1 ρ1) (h1:HR X.K H1 α1 M1) (r:Rep X.K H1 α1 v d)
  (en:(match gt d ρ1 with | none=>Fl.bad | some ρ2=>(match g ρ2 M1 with | .nx ρ3 M3=>k ρ3 M3 | .cnt ρ3 M3=>k ρ3 M3 | .brk ρ3 M3=> .nx ρ3 M3 | o=>o))=o)
  {N:L2.St->Hp->Prop} (hN: ∀ σ' H',(∃ ρ' α' M',Ext X.K H H' α α'/\SR X.K H' α' σ' ρ'/\HR X.K H' α' M'/\k ρ' M'=o)->N σ' H'):tt v σ1 H1 fun σ2 H2=>tb { Dn with nx:=N,ct:=N,bk:=Dn.nx } σ2 H2:=by
 cases eg:gt d ρ1 with
 |none=>rw[eg] at en;cases en;exact w.elim
 |some ρ2=>
  simp only[eg] at en
  refine qt v d σ1 ρ1 H1 α1 ρ2 _ s1 r eg fun σ2 s2=>qb σ2 ρ2 H1 α1 M1 _ s2 h1 ?_
  cases ex:g ρ2 M1 with
  |nx ρ3 M3=>simp only[ex] at en;exact fun σ' H' α' e2 hr sr=>hN _ _ ⟨ρ3,α',M3,e1.trans e2,sr,hr,en⟩
  |cnt ρ3 M3=>simp only[ex] at en;exact fun σ' H' α' e2 hr sr=>hN _ _ ⟨ρ3,α',M3,e1.trans e2,sr,hr,en⟩
  |brk ρ3 M3=>simp only[ex] at en;cases en;exact fun σ' H' α' e2 hr sr=>w σ' H' α' (e1.trans e2) hr sr
  |ret d M3=>simp only[ex] at en;cases en;exact fun v H' α' e2 hr sr=>w v H' α' (e1.trans e2) hr sr
  |exc x M3=>simp only[ex] at en;cases en;exact fun C H' α' nn e2 hr=>w C H' α' nn (e1.trans e2) hr
  |bad=>simp only[ex] at en;cases en;exact w.elim
theorem Znz {tg:Expr} {gt:Tg} {tt:TG} {tb:TS} {Dn:Ends} {H:Hp} {α:List Addr} {lo:Int} {n:Nat} {σ:L2.St} {ρ:Ro} {M:Sto}
  (qt: ∀ v d σ ρ H α ρ' Q,SR X.K H α σ ρ->Rep X.K H α v d->gt d ρ=some ρ'->(∀ σ',SR X.K H α σ' ρ'->Q σ' H)->tt v σ H Q) (qb: ∀ σ ρ H α M Dn,SR X.K H α σ ρ->HR X.K H α M->FP X.K H α ξ Dn (g ρ M)->tb Dn σ H)
  (s:SR X.K H α σ ρ) (hh:HR X.K H α M) (w:FP X.K H α ξ Dn (Zco gt g (ZcK lo n) ρ M)):
  ∃ W:Nat->Nat->L2.St->Hp->Prop,(∃ m,W 0 m σ H)/\ ∀ i m σ H,W i m σ H->
   ((Itr lo n).stop i H/\Dn.nx σ H)\/((Itr lo n).go i H/\ ∃ N:L2.St->Hp->Prop,(∀ σ' H',N σ' H'-> ∃ m',m' < m/\W (i + 1) m' σ' H')/\ ∀ x H',(Itr lo n).yld i H x H'->tt x σ H' fun σ2 H2=>tb { Dn with nx:=N,ct:=N,bk:=Dn.nx } σ2 H2):=by
 generalize ho:Zco gt g (ZcK lo n) ρ M=o at w
 refine ZhJ (fun i σ' H'=> ∃ ρ' α' M',Ext X.K H H' α α'/\SR X.K H' α' σ' ρ'/\HR X.K H' α' M'/\Zco gt g ((ZcK lo n).drop i) ρ' M'=o) ⟨ρ,α,M,Ext.refl,s,hh,ho⟩ ?_ ?_
 ·rintro i σ1 H1 hi ⟨ρ1,α1,M1,e1,s1,h1,en⟩
  rw[Zid hi] at en
  exact ZjL (tg:=tg) w qt qb e1 s1 h1 (.int (lo + i)) en (fun σ' H' z=>z)
 ·rintro σ1 H1 ⟨ρ1,α1,M1,e1,s1,h1,en⟩
  rw[List.drop_eq_nil_of_le (by rw[Zeu];exact Nat.le_refl _)] at en
  cases en
  exact w σ1 H1 α1 e1 h1 s1
theorem ZdF {tg a:Expr} {gt:Tg} {fs:Av} {body:List Stmt} {p p2:Pos} (hp:PassesOwn (model X.prog X.w) X.A X.env X.xe) (hm:X.mg "range"=none) (ha:DA X ξ [a] fs) (hg:DG X tg gt) (hb:DSs X ξ body g)
  (hgl:Gl X "range":=by rfl) (hs:starEach [a] X.env=[(false,eval a X.env)]:=by rfl) (hf: ∀ x,foldedSetIterable (.Call (.Name "range" p) [a] [] p2) X.env x=pure x:=by intro _;rfl):DS X ξ (.For tg (.Call (.Name "range" p) [a] [] p2) body [] pos) (Zde gt fs g):=by
 obtain ⟨ta,pa,qa⟩:=ha
 obtain ⟨tt,pt,qt⟩:=hg
 obtain ⟨tb,pb,qb⟩:=hb
 refine ⟨_,ZhI hp (Ze7 hgl hm pa hs) pt pb hf,fun σ ρ H α M Dn s hh w=>qa σ ρ H α M _ s hh (FP.seq w fun ds M1 vs H1 α1 e1 h1 r1 w1=> ?_)⟩
 match r1 with
 | .nil=>exact w1.elim
 | .cons r (.cons _ _)=>cases r<;>exact w1.elim
 | .cons r .nil=>
  cases r with
  |int j=>
   by_cases c: -(2 ^ 62)<=j/\j < 2 ^ 62
   ·simp only[if_pos c] at w1
    exact ⟨j,rfl,c.1,c.2,Znz (tg:=tg) qt qb (s.mono e1) h1 w1⟩
   ·simp only[if_neg c] at w1
    exact w1.elim
  |_=>exact w1.elim
noncomputable def Ztg (K:PySem.W.Frag) (tl:TE):TI:=fun σ H R=>tl σ H fun x H1=> ∃ a,x= .ref a/\(((∃ xs,SqL K H1 a xs)/\R (Itl K a) H1)\/((∃ xs,SqT K H1 a xs)/\R (Itt K a) H1))
theorem ZkE {tg l:Expr} {tl:TE} (hl:PE X l tl):PI X tg l (Ztg X.K tl):=by
 intro pins s σ H R I h
 refine thn (hl pins s σ H _ I h) fun v s1 ⟨x,H1,I1,r1,q1⟩=> ?_
 obtain ⟨a,e,q⟩:=q1
 subst e
 cases r1
 have fp: ∀ b∈[s1.heap.objs.size],Ze6 X pins H1 b:=fun b hb=>by
  have e:b=s1.heap.objs.size:=by simpa using hb
  subst e
  exact I1.fpOk (Nat.le_refl _) (I1.hok.fresh (Nat.le_refl _))
 rcases q with ⟨⟨xs,hq⟩,q⟩ | ⟨⟨xs,hq⟩,q⟩
 ·obtain ⟨its,rv,p,hz⟩:=I1.list hq
  refine wpAny_pyIter_list p.isList ?_
  exact ⟨s1.heap.objs.size,[s1.heap.objs.size],_,_,H1,rfl,I1.kept (t':=s1.toks) fun b o e=>Heap.get?_push_of_some _ e,ZhG a _,⟨_,Heap.get?_push_size _ rfl,rfl,rfl⟩,fp,q⟩
 ·obtain ⟨its,rv,p,hz⟩:=I1.tuple hq
  refine wpAny_pyIter_tuple (show s1.heap.IsTuple a its.toArray from p) ?_
  exact ⟨s1.heap.objs.size,[s1.heap.objs.size],_,_,H1,rfl,I1.kept (t':=s1.toks) fun b o e=>Heap.get?_push_of_some _ e,ZgX a _,⟨_,Heap.get?_push_size _ rfl,rfl,rfl⟩,fp,q⟩
theorem ZkF {tg l:Expr} {gt:Tg} {f:Ev} {body:List Stmt} (hp:PassesOwn (model X.prog X.w) X.A X.env X.xe) (hl:DE X ξ l f) (hg:DG X tg gt) (hb:DSs X ξ body g)
  (hf: ∀ x,foldedSetIterable l X.env x=pure x:=by intro _;rfl):DS X ξ (.For tg l body [] pos) (Zny gt f g):=by
 obtain ⟨ta,pa,qa⟩:=hl
 obtain ⟨tt,pt,qt⟩:=hg
 obtain ⟨tb,pb,qb⟩:=hb
 refine ⟨_,ZhI hp (ZkE pa) pt pb hf,fun σ ρ H α M Dn s hh w=>qa σ ρ H α M _ s hh (FP.seq w fun d M1 v H1 α1 e1 h1 r1 w1=> ?_)⟩
 have s1:=s.mono e1
 have pure_: ∀ (ds:List D) (xs:List V),Reps X.K H1 α1 xs ds->FP X.K H1 α1 ξ Dn (Zco gt g ds ρ M1)-> ∀ (i:Nat) σ' H',(∃ ρ' α' M',Ext X.K H1 H' α1 α'/\SR X.K H' α' σ' ρ'/\HR X.K H' α' M'/\Zco gt g (ds.drop i) ρ' M'=Zco gt g ds ρ M1)->
   (∀ x,xs[i]?=some x->tt x σ' H' fun σ2 H2=>tb { Dn with nx:=fun σ H=> ∃ ρ' α' M',Ext X.K H1 H α1 α'/\SR X.K H α' σ ρ'/\HR X.K H α' M'/\Zco gt g (ds.drop (i + 1)) ρ' M'=Zco gt g ds ρ M1,ct:=fun σ H=> ∃ ρ' α' M',Ext X.K H1 H α1 α'/\SR X.K H α' σ ρ'/\HR X.K H α' M'/\Zco gt g (ds.drop (i + 1)) ρ' M'=Zco gt g ds ρ M1,bk:=Dn.nx } σ2 H2)/\
   (i=xs.length->Dn.nx σ' H'):=by
  intro ds xs r w1 i σ' H' ⟨ρ',α',M',ex,sr,hr,en⟩
  refine ⟨fun x hx=> ?_,fun hi=> ?_⟩
  ·have hi:i < ds.length:=by rw[<- r.length];exact (List.getElem?_eq_some_iff.mp hx).1
   obtain ⟨v,g1,g2⟩:=r.get (List.getElem?_eq_getElem hi)
   rw[hx] at g1
   cases g1
   rw[List.drop_eq_getElem_cons hi] at en
   exact ZjL (tg:=tg) w1 qt qb ex sr hr (Rep.mono ex g2) en (fun σ' H' z=>z)
  ·rw[hi,r.length,List.drop_length] at en
   have en':Fl.nx ρ' M'=Zco gt g ds ρ M1:=en
   rw[<- en'] at w1
   exact w1 σ' H' α' ex hr sr
 cases r1 with
 | @tup p xs ds hp rp=>
  have w2:FP X.K H1 α1 ξ Dn (Zco gt g ds ρ M1):=w1
  refine ⟨p,rfl,.inr ⟨⟨xs,(SqT.of hp)⟩,Zlh (K:=X.K) (a:=p) (xs:=xs) (fun i σ' H'=> ∃ ρ' α' M',Ext X.K H1 H' α1 α'/\SR X.K H' α' σ' ρ'/\HR X.K H' α' M'/\Zco gt g (ds.drop i) ρ' M'=Zco gt g ds ρ M1) ⟨ρ,α1,M1,Ext.refl,s1,h1,rfl⟩ ?_ ?_ ?_⟩⟩
  ·rintro i σ' H' _ ⟨ρ',α',M',ex,_⟩
   exact SqT.of (ex.tup _ _ hp)
  ·intro i x σ' H' hx z
   exact (pure_ ds xs rp w2 i σ' H' z).1 x hx
  ·intro σ' H' z
   exact (pure_ ds xs rp w2 _ σ' H' z).2 rfl
 | @rol p xs ds hp rp=>
  have w2:FP X.K H1 α1 ξ Dn (Zco gt g ds ρ M1):=w1
  refine ⟨p,rfl,.inl ⟨⟨xs,hp.sq⟩,Zjs (K:=X.K) (a:=p) (xs:=xs) (fun i σ' H'=> ∃ ρ' α' M',Ext X.K H1 H' α1 α'/\SR X.K H' α' σ' ρ'/\HR X.K H' α' M'/\Zco gt g (ds.drop i) ρ' M'=Zco gt g ds ρ M1) ⟨ρ,α1,M1,Ext.refl,s1,h1,rfl⟩ ?_ ?_ ?_⟩⟩
  ·rintro i σ' H' _ ⟨ρ',α',M',ex,_⟩
   exact (ex.rol _ _ hp).sq
  ·intro i x σ' H' hx z
   exact (pure_ ds xs rp w2 i σ' H' z).1 x hx
  ·intro σ' H' z
   exact (pure_ ds xs rp w2 _ σ' H' z).2 rfl
 | @ref p n hp=>
  cases em:M1[n]? with
  |none=>simp only[ZkD,em] at w1;exact w1.elim
  |some so=>
   cases so with
   |lst ds=>
    simp only[ZkD,em] at w1
    obtain ⟨xs0,g0,r0⟩:=h1.at hp em
    generalize eo:Zhx gt g n ds.length 0 ρ M1=o at w1
    refine ⟨p,rfl,.inl ⟨⟨xs0,SqL.of g0⟩,fun i m σ' H'=> ∃ ρ' α' M',Ext X.K H1 H' α1 α'/\SR X.K H' α' σ' ρ'/\HR X.K H' α' M'/\Zhx gt g n m i ρ' M'=o,⟨ds.length,ρ,α1,M1,Ext.refl,s1,h1,eo⟩,?_⟩⟩
    rintro i m σ' H' ⟨ρ',α',M',ex,sr,hr,en⟩
    unfold Zhx at en
    cases em2:M'[n]? with
    |none=>simp only[em2] at en;cases en;exact w1.elim
    |some so2=>
     cases so2 with
     |lst ds2=>
      simp only[em2] at en
      obtain ⟨xs,g1,g2⟩:=hr.at (ex.get hp) em2
      cases ei:ds2[i]? with
      |none=>
       simp only[ei] at en
       cases en
       refine .inl ⟨⟨xs,SqL.of g1,?_⟩,w1 σ' H' α' ex hr sr⟩
       rw[g2.length]
       exact List.getElem?_eq_none_iff.mp ei
      |some d=>
       simp only[ei] at en
       obtain ⟨v,k1,k2⟩:=g2.get ei
       cases m with
       |zero=>cases en;exact w1.elim
       |succ m=>
        refine .inr ⟨⟨xs,v,SqL.of g1,k1⟩,fun σ2 H2=> ∃ ρ' α' M',Ext X.K H1 H2 α1 α'/\SR X.K H2 α' σ2 ρ'/\HR X.K H2 α' M'/\Zhx gt g n m (i + 1) ρ' M'=o,fun σ2 H2 z=>⟨m,Nat.lt_succ_self m,z⟩,fun x H2 y=> ?_⟩
        obtain ⟨ey,y⟩:=y
        subst ey
        have ev:=y xs (SqL.of g1)
        rw[k1] at ev
        cases ev
        exact ZjL (tg:=tg) w1 qt qb ex sr hr k2 en (fun σ' H' z=>z)
 |_=>exact w1.elim
end
noncomputable def fnF (g:Sv) (n k:Nat):List D->Sto->Out D:=fun ds M=>if ds.length=n then (match g (ds.map some ++ List.replicate k none) M with
 | .ret d M'=> .ok d M'
 | .nx _ M'=> .ok .non M'
 | .exc c M'=> .exc c M'
 |_=> .bad) else .bad
noncomputable def spD (K:PySem.W.Frag) (F:List D->Sto->Out D):Sp:=fun vs H Q E=> ∃ ds α M,Reps K H α vs ds/\HR K H α M/\OP K H α E Q (F ds M)
theorem Zfl: ∀ {ds:List D} {k i:Nat} {d:D},(ds.map some ++ List.replicate k none)[i]?=some (some d)->ds[i]?=some d
 | [],k,i,d,h=>by
  rw[List.map_nil,List.nil_append] at h
  have:=List.mem_of_getElem? h
  rw[List.mem_replicate] at this
  cases this.2
 |x :: r,k,0,d,h=>by simpa using h
 |x :: r,k,i + 1,d,h=>by
  rw[List.map_cons,List.cons_append,List.getElem?_cons_succ] at h
  rw[List.getElem?_cons_succ]
  exact Zfl h
theorem SR.start {K:PySem.W.Frag} {H:Hp} {α:List Addr} {N:List Str} {vs:List V} {ds:List D} {k:Nat} (r:Reps K H α vs ds) (hk:k=N.length - ds.length):SR K H α (start N vs) (ds.map some ++ List.replicate k none):=by
 unfold L2.start
 refine ⟨by simp only[List.length_append,List.length_map,List.length_replicate,r.length,hk],fun i d h=> ?_⟩
 obtain ⟨v,h1,h2⟩:=r.get (Zfl h)
 refine ⟨v,?_,h2⟩
 have hl:i < vs.length:=(List.getElem?_eq_some_iff.mp h1).1
 rw[List.getElem?_append_left (by rw[List.length_map];exact hl),List.getElem?_map,h1]
 rfl
section
variable {P:Program} {w:World} {K:PySem.W.Frag} {mg:Str->Option Value} {base:Heap}
theorem ZM {x qual:Str} {st:Stmt} {f:Addr} {fd:FuncData} {N ps:List Str} {k n m:Nat} {g:Sv} (F:Fun K x qual st f fd) (S:FnScope N ps (Zh st)) (hn:n=ps.length) (hm:m=N.length - n)
  (hb: ∀ (cdv:Value) (A:Around) (outer:List Env) (s:Shared) (H:Hp) (E:XK),Room k (A.deeper (envOfC qual (Zh st) s.heap.objs.size f cdv))->Thr (Zf1 (CXE P w) P w K mg base N qual (Zh st) f cdv A outer s H E) E->DSs (Zf1 (CXE P w) P w K mg base N qual (Zh st) f cdv A outer s H E) E (Zr st) g):
  FnOk P w K mg base (CXE P w) (k + 1) f fd ps (spD K (fnF g n m)):=by
 obtain ⟨oc,od,kV,doc,pm,an,cdv,ct,osl,rfl,lk,hcd⟩:=F.ex
 refine Zqb lk hcd S (fun vs H Q E h=> ?_) (fun A outer s H vs Q E hr h=> ?_)
 ·obtain ⟨ds,α,M,r,_,q⟩:=h
  by_cases c:ds.length=n
  ·rw[r.length,c,hn]
  ·simp only[fnF,if_neg c] at q
   exact q.elim
 ·obtain ⟨ds,α,M,r,hh,q⟩:=h
  obtain ⟨t,p,w'⟩:=hb cdv A outer s H E hr Znw
  by_cases c:ds.length=n
  ·simp only[fnF,if_pos c] at q
   refine ⟨t,p,w' _ _ H α M _ (SR.start (N:=N) r (k:=m) (by rw[hm,c])) hh ?_⟩
   cases e:g (ds.map some ++ List.replicate m none) M with
   |nx ρ' M'=>simp only[e] at q;exact fun σ' H' α' ex hr sr=>q _ H' α' ex hr .non
   |ret d M'=>simp only[e] at q;exact q
   |exc x M'=>simp only[e] at q;exact q
   |brk ρ' M'=>simp only[e] at q;exact q.elim
   |cnt ρ' M'=>simp only[e] at q;exact q.elim
   |bad=>simp only[e] at q;exact q.elim
  ·simp only[fnF,if_neg c] at q
   exact q.elim
end
section
variable {X:Cx} {ξ:XK} {k:Nat} {f:Addr} {fd:FuncData} {ps:List Str} {F:List D->Sto->Out D} {x:Str} {p pos:Pos} {e:Expr} {es:List Expr} {fs:Av}
theorem ZlB (G:FnOk X.prog X.w X.K X.mg X.base (CXE X.prog X.w) k f fd ps (spD X.K F)) (T:Thr X ξ) (hr:Room k X.A) (hm:X.mg x=some (.ref f)) (hk:PySem.W.keepIn X.K (.ref f)=true) (hb:Zf4 X.K fd ps []) (ha:DA X ξ (e :: es) fs) (hg:Gl X x:=by rfl)
  (hdb:(x == ("__debug__":Str))=false:=by decide) (he:starEach (e :: es) X.env=(false,eval e X.env) :: starEach es X.env:=by rfl) (hpl:(backTo pos (starEach es X.env)).any (·.1)=false:=by rfl):DE X ξ (.Call (.Name x p) (e :: es) [] pos) (Zk F fs):=by
 obtain ⟨t,pa,qa⟩:=ha
 refine ⟨_,Zlm G hr hg hm hk hb .nil T.ps pa hdb he hpl,fun σ ρ H α M Q s hh q=>qa σ ρ H α M _ s hh (OG.seq q fun ds M1 vs H1 α1 e1 h1 r1 q1=> ?_)⟩
 rw[List.append_nil]
 exact ⟨ds,α1,M1,r1,h1,q1⟩
end
end DL
end
section
namespace DL
open PySem PySem.Spec PyProof.Rows L2
theorem Zfm:bootBuiltins "abs"=some (.builtin "abs"):=by decide +kernel
theorem Zie:bootBuiltins "int"=some (.type "int"):=by decide +kernel
theorem Zf7:bootBuiltins "bool"=some (.type "bool"):=by decide +kernel
theorem Zaj:bootBuiltins "list"=some (.type "list"):=by decide +kernel
theorem Zab:bootBuiltins "tuple"=some (.type "tuple"):=by decide +kernel
theorem ZkG:bootBuiltins "max"=some (.builtin "max"):=by decide +kernel
theorem ZkH:bootBuiltins "min"=some (.builtin "min"):=by decide +kernel
theorem ZcL:bootBuiltins "all"=some (.builtin "all"):=by decide +kernel
noncomputable def Cal (P:Program) (w:World) (K:PySem.W.Frag) (mg:Str->Option Value) (base:Heap) (x:Str) (k n:Nat) (F:List D->Sto->Out D):Prop:=
 ∃ (f:Addr) (fd:FuncData) (ps:List Str),FnOk P w K mg base (CXE P w) k f fd ps (spD K F)/\mg x=some (.ref f)/\PySem.W.keepIn K (.ref f)=true/\ps.length=n/\Zf4 K fd ps []
theorem Zi {X:Cx} {ξ:XK} {k n:Nat} {F:List D->Sto->Out D} {x:Str} {p pos:Pos} {e:Expr} {es:List Expr} {fs:Av} (C:Cal X.prog X.w X.K X.mg X.base x k n F) (T:Thr X ξ) (hr:Room k X.A) (ha:DA X ξ (e :: es) fs) (hg:Gl X x:=by rfl)
  (hdb:(x == ("__debug__":Str))=false:=by decide) (he:starEach (e :: es) X.env=(false,eval e X.env) :: starEach es X.env:=by rfl) (hpl:(backTo pos (starEach es X.env)).any (·.1)=false:=by rfl):DE X ξ (.Call (.Name x p) (e :: es) [] pos) (Zk F fs):=by
 obtain ⟨f,fd,ps,G,hm,hk,_,hb⟩:=C
 exact ZlB G T hr hm hk hb ha hg hdb he hpl
theorem ZnA {K:PySem.W.Frag} {H:Hp} {a:Addr} {ns:List Int} {n:Nat} {F:List D->Sto->Out D} (hl:ns.length<=n) (hO:ZpL H) (hS:SqL K H a (ns.map V.int)) (h: ∃ M',F [.rol (ns.map D.int)] []= .ok (.bl true) M'):
  spD K F [.ref a] H (fun v _=>v= .bl true) (fun _ _ _=>False):=by
 obtain ⟨M',e⟩:=h
 have hF:SqF K H a (ns.map V.int):=by
  rcases hS with (h | ⟨o,h⟩) | h
  ·rcases hO a with z | ⟨o,xs,z⟩
   ·rw[h] at z;cases z
   ·rw[h] at z;cases z
  ·exact .inl ⟨o,h⟩
  ·exact .inr h
 refine ⟨[.rol (ns.map D.int)],[],[],.cons (.rol hF (Reps.ints ns)) .nil,HR.nil,?_⟩
 rw[e]
 intro v H' α' _ _ r
 cases r
 rfl
end DL
end
section
namespace DL
open PySem PySem.Spec PyProof.Rows L2
inductive Src where
 |pur (ds:List D)
 |sto (n:Nat)
 |zip (n m:Nat)
 |enu (n:Nat)
 |rev (n l:Nat)
 |zips (ns:List Nat)
 |dct (n:Nat)
noncomputable def Zif (M:Sto) (i:Nat):List Nat->Option (Option (List D))
 | []=>some (some [])
 |n :: ns=>match M[n]? with
  |none=>none
  |some (.lst xs)=>match Zif M i ns with
   |none=>none
   |some r=>match xs[i]?,r with | some x,some ds=>some (some (x :: ds)) | _,_=>some none
noncomputable def nxt (src:Src) (i:Nat) (M:Sto):Option (Option D):=match src with
 | .pur ds=>some ds[i]?
 | .sto n=>match M[n]? with | some (.lst xs)=>some xs[i]? | none=>none
 | .zip n m=>match M[n]?,M[m]? with
  |some (.lst xs),some (.lst ys)=>(match xs[i]?,ys[i]? with | some x,some y=>some (some (.tup [x,y])) | _,_=>some none)
  |_,_=>none
 | .enu n=>match M[n]? with | some (.lst xs)=>(match xs[i]? with | some x=>some (some (.tup [.int i,x])) | none=>some none) | none=>none
 | .dct n=>match M[n]? with | some (.lst (.non :: r))=>(match r[i]? with | some (.tup (k :: _))=>some (some k) | some _=>none | none=>some none) | _=>none
 | .zips ns=>match Zif M i ns with | some (some ds)=>some (some (.tup ds)) | some none=>some none | none=>none
 | .rev n l=>match M[n]? with | some (.lst xs)=>if i < l then (match xs[l - 1 - i]? with | some x=>some (some x) | none=>none) else (if i=l then some none else none) | none=>none
noncomputable def cnt (src:Src) (M:Sto):Nat:=match src with
 | .pur ds=>ds.length
 | .sto n=>match M[n]? with | some (.lst xs)=>xs.length | none=>0
 | .zip n _=>match M[n]? with | some (.lst xs)=>xs.length | none=>0
 | .enu n=>match M[n]? with | some (.lst xs)=>xs.length | none=>0
 | .rev _ l=>l
 | .dct n=>match M[n]? with | some (.lst xs)=>xs.length | none=>0
 | .zips ns=>match ns with | n :: _=>(match M[n]? with | some (.lst xs)=>xs.length | none=>0) | []=>0
noncomputable def Ats (H:Hp) (α:List Addr):List Nat->List Addr->Prop
 | [],[]=>True
 |n :: ns,l :: ls=>RefK H α 0 n l/\Ats H α ns ls
 |_,_=>False
noncomputable def ZmF (K:PySem.W.Frag) (H:Hp) (α:List Addr) (J:It) (src:Src):Prop:= ∀ (i:Nat) H' α' M',Ext K H H' α α'->HR K H' α' M'->match nxt src i M' with
 |some none=>J.stop i H'
 |some (some d)=>J.go i H'/\ ∀ x H'',J.yld i H' x H''->Ext K H' H'' α' α'/\HR K H'' α' M'/\Rep K H'' α' x d
 |none=>True
noncomputable def DI (X:Cx) (ξ:XK) (tg iter:Expr) (f:Ro->Sto->Out Src):Prop:= ∃ wi:TI,PI X tg iter wi/\ ∀ σ ρ H α M R,SR X.K H α σ ρ->HR X.K H α M->OG X.K (ZmF X.K) H α ξ R (f ρ M)->wi σ H R
section
variable {X:Cx} {ξ:XK} {tg iter a b:Expr} {fs:Av} {f:Ev} {p pos:Pos}
noncomputable def iR1 (fs:Av):Ro->Sto->Out Src:=fun ρ M=>(fs ρ M).bind fun ds M1=>match ds with
 | [.int j]=>if -(2 ^ 62)<=j/\j < 2 ^ 62 then .ok (.pur (ZcK 0 j.toNat)) M1 else .bad
 |_=> .bad
theorem Zg6 {K:PySem.W.Frag} {H:Hp} {α:List Addr} {lo:Int} {n:Nat}:ZmF K H α (Itr lo n) (.pur (ZcK lo n)):=by
 intro i H' α' M' ex hr
 show match some (ZcK lo n)[i]? with | some none=>_ | some (some d)=>_ | none=>True
 by_cases h:i < n
 ·rw[ZgH h]
  refine ⟨h,fun x H'' y=> ?_⟩
  obtain ⟨e1,e2⟩:=y
  subst e1 e2
  exact ⟨Ext.refl,hr,.int _⟩
 ·rw[List.getElem?_eq_none (by rw[Zeu];omega)]
  exact Nat.le_of_not_lt h
theorem Zig (hm:X.mg "range"=none) (ha:DA X ξ [a] fs) (hgl:Gl X "range":=by rfl) (hs:starEach [a] X.env=[(false,eval a X.env)]:=by rfl):DI X ξ tg (.Call (.Name "range" p) [a] [] pos) (iR1 fs):=by
 obtain ⟨ta,pa,qa⟩:=ha
 refine ⟨_,Ze7 hgl hm pa hs,fun σ ρ H α M R s hh q=>qa σ ρ H α M _ s hh (OG.seq q fun ds M1 vs H1 α1 e1 h1 r1 w1=> ?_)⟩
 match r1 with
 | .nil=>exact w1.elim
 | .cons r (.cons _ _)=>cases r<;>exact w1.elim
 | .cons r .nil=>
  cases r with
  |int j=>
   by_cases c: -(2 ^ 62)<=j/\j < 2 ^ 62
   ·simp only[if_pos c] at w1
    exact ⟨j,rfl,c.1,c.2,w1 _ H1 α1 Ext.refl h1 Zg6⟩
   ·simp only[if_neg c] at w1
    exact w1.elim
  |_=>exact w1.elim
noncomputable def iSq (f:Ev):Ro->Sto->Out Src:=fun ρ M=>(f ρ M).bind fun d M1=>match d with
 | .tup ds=> .ok (.pur ds) M1
 | .rol ds=> .ok (.pur ds) M1
 | .con ds=> .ok (.pur ds) M1
 | .ref n=> .ok (.sto n) M1
 |_=> .bad
theorem ZaF (ha:DE X ξ a f):DI X ξ tg a (iSq f):=by
 obtain ⟨ta,pa,qa⟩:=ha
 refine ⟨_,ZkE pa,fun σ ρ H α M R s hh q=>qa σ ρ H α M _ s hh (OG.seq q fun d M1 v H1 α1 e1 h1 r1 w1=> ?_)⟩
 cases r1 with
 | @tup p xs ds hp rp=>
  refine ⟨p,rfl,.inr ⟨⟨xs,(SqT.of hp)⟩,w1 (Itt X.K p) H1 α1 Ext.refl h1 ?_⟩⟩
  intro i H' α' M' ex hr
  show match some ds[i]? with | some none=>_ | some (some d)=>_ | none=>True
  cases ei:ds[i]? with
  |none=>exact ⟨xs,SqT.of (ex.tup _ _ hp),by rw[rp.length];exact List.getElem?_eq_none_iff.mp ei⟩
  |some d=>
   obtain ⟨v,k1,k2⟩:=rp.get ei
   refine ⟨⟨xs,v,SqT.of (ex.tup _ _ hp),k1⟩,fun x H'' y=> ?_⟩
   obtain ⟨ey,y⟩:=y
   have z:=y xs (SqT.of (ex.tup _ _ hp))
   rw[k1] at z
   cases z
   subst ey
   exact ⟨Ext.refl,hr,Rep.mono ex k2⟩
 | @con p xs ds hp rp=>
  refine ⟨p,rfl,.inr ⟨⟨xs,hp.sq⟩,w1 (Itt X.K p) H1 α1 Ext.refl h1 ?_⟩⟩
  intro i H' α' M' ex hr
  show match some ds[i]? with | some none=>_ | some (some d)=>_ | none=>True
  cases ei:ds[i]? with
  |none=>exact ⟨xs,hp.sq,by rw[rp.length];exact List.getElem?_eq_none_iff.mp ei⟩
  |some d=>
   obtain ⟨v,k1,k2⟩:=rp.get ei
   refine ⟨⟨xs,v,hp.sq,k1⟩,fun x H'' y=> ?_⟩
   obtain ⟨ey,y⟩:=y
   have z:=y xs hp.sq
   rw[k1] at z
   cases z
   subst ey
   exact ⟨Ext.refl,hr,Rep.mono ex k2⟩
 | @rol p xs ds hp rp=>
  refine ⟨p,rfl,.inl ⟨⟨xs,hp.sq⟩,w1 (Itl X.K p) H1 α1 Ext.refl h1 ?_⟩⟩
  intro i H' α' M' ex hr
  show match some ds[i]? with | some none=>_ | some (some d)=>_ | none=>True
  have hq:=(ex.rol _ _ hp).sq
  cases ei:ds[i]? with
  |none=>exact ⟨xs,hq,by rw[rp.length];exact List.getElem?_eq_none_iff.mp ei⟩
  |some d=>
   obtain ⟨v,k1,k2⟩:=rp.get ei
   refine ⟨⟨xs,v,hq,k1⟩,fun x H'' y=> ?_⟩
   obtain ⟨ey,y⟩:=y
   have z:=y xs hq
   rw[k1] at z
   cases z
   subst ey
   exact ⟨Ext.refl,hr,Rep.mono ex k2⟩
 | @ref p n hp=>
  obtain ⟨xs0,g0⟩:=h1.some_at hp
  refine ⟨p,rfl,.inl ⟨⟨xs0,SqL.of g0⟩,w1 (Itl X.K p) H1 α1 Ext.refl h1 ?_⟩⟩
  intro i H' α' M' ex hr
  show match (match M'[n]? with | some (.lst xs)=>some xs[i]? | none=>none) with | some none=>_ | some (some d)=>_ | none=>True
  cases em:M'[n]? with
  |none=>exact True.intro
  |some so=>
   cases so with
   |lst ds=>
    obtain ⟨xs,g1,g2⟩:=hr.at (ex.get hp) em
    show match some ds[i]? with | some none=>_ | some (some d)=>_ | none=>True
    cases ei:ds[i]? with
    |none=>exact ⟨xs,SqL.of g1,by rw[g2.length];exact List.getElem?_eq_none_iff.mp ei⟩
    |some d=>
     obtain ⟨v,k1,k2⟩:=g2.get ei
     refine ⟨⟨xs,v,SqL.of g1,k1⟩,fun x H'' y=> ?_⟩
     obtain ⟨ey,y⟩:=y
     have z:=y xs (SqL.of g1)
     rw[k1] at z
     cases z
     subst ey
     exact ⟨Ext.refl,hr,k2⟩
 |_=>exact w1.elim
end
noncomputable def blk (X:Cx) (scope:Scope) (cl:List (Str × Addr)) (N:List Str) (C:Addr) (fp:List Addr) (s:Shared) (H:Hp):Cx:=
 { X with N:=N,s₀:=s,H₀:=H,env:=compEnvC scope cl C X.env,outer:=X.stack,stack:=X.stack,ex:=fp,fn:=fun _=>false,pn:=[],xe:=fun _ _=>False,fxs:=none }
theorem ZU {X:Cx} {scope:Scope} {cl:List (Str × Addr)} {N:List Str} {C:Addr} {fp:List Addr} {s:Shared} {H:Hp}:Thr (blk X scope cl N C fp s H) E0:=
 ⟨PassesOwn.never,fun _ _ _ _ _ _ _ ⟨_,_,_,_,_,_,_,_,_,_,_,_,_,q⟩=>q,fun _ _ _ _ _ _ _ _ _ _ _ _ _ _ _ _ _ _ q=>q⟩
noncomputable def ZdG (src:Src) (tg:Tg) (c:Tv) (f:Ev) (n:Nat):Nat->Nat->Ro->Sto->Out Unit
 |fuel,i,ρ,M=>match nxt src i M with
  |none=> .bad
  |some none=> .ok () M
  |some (some d)=>(match fuel with
   |0=> .bad
   |fuel + 1=>(match tg d ρ with
    |none=> .bad
    |some ρ1=>(match c ρ1 M with
     | .ok true M1=>(match f ρ1 M1 with
      | .ok x M2=>(match M2[n]? with
       |some (.lst xs)=>if xs.length < 10000000 then ZdG src tg c f n fuel (i + 1) ρ1 (M2.set n (.lst (xs ++ [x]))) else .bad
       |none=> .bad)
      |_=> .bad)
     | .ok false M1=>ZdG src tg c f n fuel (i + 1) ρ1 M1
     |_=> .bad)))
noncomputable def roB (k:Nat) (fr:List Nat) (ρ:Ro):Ro:=List.replicate k none ++ fr.map fun i=>(ρ[i]?).join
noncomputable def ZaM (fi:Ro->Sto->Out Src) (k:Nat) (fr:List Nat) (tg:Tg) (c:Tv) (f:Ev):Ev:=fun ρ M=>(fi ρ M).bind fun src M1=>match ZdG src tg c f M1.length (cnt src M1) 0 (roB k fr ρ) (M1 ++ [.lst []]) with
 | .ok _ M2=> .ok (.ref M1.length) M2
 |_=> .bad
structure Blk (X:Cx) (scope:Scope) (cl:List (Str × Addr)) (N:List Str) (k:Nat) (fr:List Nat):Prop where
 clos:closureFor scope X.env=pure cl
 kind:scope.kind= .function
 cell: ∀ y∈scope.names,y.2≠ .cell
 names: ∀ y∈scope.names,y.2= .local->scope.names.lookup y.1=some .local
 sub: ∀ x c,cl.lookup x=some c->X.env.cells.lookup x=some c
 has: ∀ x,((relabel scope X.env).names.lookup x=some .cell\/(relabel scope X.env).names.lookup x=some .free)-> ∃ c,cl.lookup x=some c
 len:N.length=k + fr.length
 at_: ∀ (j i:Nat),fr[j]?=some i-> ∃ x,N[k + j]?=some x/\X.N[i]?=some x/\X.env.kindOf x=some .cell/\((relabel scope X.env).names.lookup x=some .cell\/(relabel scope X.env).names.lookup x=some .free)/\cl.lookup x=X.env.cells.lookup x
theorem Zfn {prog:Program} {w:World} {A:Around} {R:Result->Shared->Prop} {s:Shared} {elt target iter:Expr} {ifs:List Expr} {scope:Scope} {pos:Pos} {it acc:Value} {env:Env} (I:Nat->Shared->Prop)
  (turn: ∀ n s,I n s->wpAny (model prog w) A (pyNext it) (fun r s₁=>match r with
   |none=>R (.ok .next) s₁
   |some v=>wpAny (model prog w) A (letOwnedTupleGo target it v) (fun _ s₁=>wpAny (model prog w) A (assign target env v) (fun _ s₂=>
     wpAny (model prog w) A (forIn ifs true fun c r=>if r=true then do let ok <- isTrue c env (eval c env);pure (ForInStep.yield ok) else pure (ForInStep.yield r)) (fun ok s₃=>
      if ok=true then wpAny (model prog w) A (eval elt env) (fun x s₄=>
       wpAny (model prog w) A (call (.builtin "list.append") [acc,x]) (fun _ s₅=> ∃ m,m < n/\I m s₅) (fun _ _=>False) s₄) (fun _ _=>False) s₃
      else ∃ m,m < n/\I m s₃) (fun _ _=>False) s₂) (fun _ _=>False) s₁) (fun _ _=>False) s₁) (fun _ _=>False) s)
  (n:Nat) (h:I n s):
  codeAny (model prog w) A (.compLoop (.ListComp elt [⟨target,iter,ifs,0⟩] scope pos) 0 it acc env) R s:=by
 refine codeAny_loop rfl I (fun n s hI=> ?_) n h
 show wpAny _ A ((compTurn (.ListComp elt [⟨target,iter,ifs,0⟩] scope pos) 0 it acc env).onRaise (fun x=>do noteFrame x env;theTreesLotGoes x)) _ _ s
 refine wpAny_noted ?_
 rw[compTurn_list]
 refine wpAny_bind (wpAny_standAt (wpAny_bind (wpAny_mono (turn n s hI) (fun r s₁ h₁=> ?_) fun _ _ h'=>h'.elim)))
 cases r with
 |none=>exact wpAny_pure h₁
 |some v=>
  refine wpAny_bind (wpAny_mono h₁ (fun _ s₁ h₁=> ?_) fun _ _ h'=>h'.elim)
  refine wpAny_bind (wpAny_mono h₁ (fun _ s₂ h₂=>wpAny_bind (wpAny_mono h₂ (fun ok s₃ h₃=> ?_) fun _ _ h'=>h'.elim)) fun _ _ h'=>h'.elim)
  cases ok with
  |false=>exact wpAny_pure ⟨rfl,h₃⟩
  |true=>
   exact wpAny_bind (wpAny_bind (wpAny_mono h₃ (fun x s₄ h₄=>wpAny_bind (wpAny_mono h₄ (fun _ s₅ h₅=>wpAny_pure (wpAny_pure ⟨rfl,h₅⟩)) fun _ _ h'=>h'.elim)) fun _ _ h'=>h'.elim))
noncomputable def DC (X:Cx) (ifs:List Expr) (c:Tv):Prop:=(ifs=[]/\c=fun _ M=> .ok true M)\/ ∃ e,ifs=[e]/\DT X E0 e c
section
variable {X:Cx} {ξ:XK} {tg iter elt:Expr} {ifs:List Expr} {scope:Scope} {cl:List (Str × Addr)} {N:List Str} {k:Nat} {fr:List Nat} {fi:Ro->Sto->Out Src} {gt:Tg} {c:Tv} {f:Ev} {pos:Pos}
theorem Zih (B:Blk X scope cl N k fr) {pins:List (Addr × Obj)} {σ:L2.St} {H:Hp} {s:Shared} {fp:List Addr} (I:Inv X pins σ H s) (hf: ∀ b∈fp,Ze6 X pins H b) (hlt: ∀ b∈fp,b < s.heap.objs.size):(blk X scope cl N s.heap.objs.size fp s H).Ok where
 mod:=I.ok.mod
 kind:=B.kind
 glob:=I.ok.glob
 blt:=I.ok.blt
 above:=Nat.le_refl _
 inj:=fun x y c h1 h2=>I.ok.inj x y c (B.sub x c h1) (B.sub y c h2)
 has:=fun x h=>B.has x h
 cab:=fun x c h=>(by cases h)
 hd:=I.ok.hd
 frames:=I.ok.frames
 stk:= .inl rfl
 exf:=fun b hb=>⟨Nat.ne_of_lt (hlt b hb),fun x c h=>(hf b hb).2.2.2.2.1 x c (B.sub x c h)⟩
 bs:=I.bs
 bsz:=Nat.le_trans I.ok.bsz I.sz
 noex:=fun b o e hb=>by
  rcases (hf b hb).2.2.2.1 with z | z
  ·exact I.ok.noex b o e z
  ·exact absurd (Nat.lt_of_lt_of_le (Heap.lt_size (I.ok.bs b o e).1) z) (Nat.lt_irrefl _)
 exfs:=fun b hb z=>by
  rcases List.mem_cons.mp (I.stkSub b z) with e | e
  ·exact (hf b hb).2.1 e
  ·exact (hf b hb).2.2.1 e
 funs:=I.stack
 frf:=I.stkFree
theorem join_some {α:Type} {o:Option (Option α)} {v:α} (h:o.join=some v):o=some (some v):=by
 cases o with
 |none=>cases h
 |some x=>cases x with
  |none=>cases h
  |some y=>cases h;rfl
theorem ZlC {ρ:Ro} {i:Nat} {d:D} (h:(roB k fr ρ)[i]?=some (some d)): ∃ j r,i=k + j/\fr[j]?=some r/\ρ[r]?=some (some d):=by
 unfold roB at h
 by_cases hi:i < k
 ·rw[List.getElem?_append_left (by rw[List.length_replicate];exact hi)] at h
  have:=List.mem_of_getElem? h
  rw[List.mem_replicate] at this
  cases this.2
 ·rw[List.getElem?_append_right (by rw[List.length_replicate];omega),List.length_replicate,List.getElem?_map] at h
  cases e:fr[i - k]? with
  |none=>rw[e] at h;cases h
  |some r=>
   rw[e] at h
   exact ⟨i - k,r,by omega,e,join_some (Option.some.inj h)⟩
noncomputable def stB (k:Nat) (fr:List Nat) (σ:L2.St):L2.St:=List.replicate k none ++ fr.map fun i=>(σ[i]?).join
theorem ZlD {σ:L2.St} {i:Nat} {d:V} (h:(stB k fr σ)[i]?=some (some d)): ∃ j r,i=k + j/\fr[j]?=some r/\σ[r]?=some (some d):=by
 unfold stB at h
 by_cases hi:i < k
 ·rw[List.getElem?_append_left (by rw[List.length_replicate];exact hi)] at h
  have:=List.mem_of_getElem? h
  rw[List.mem_replicate] at this
  cases this.2
 ·rw[List.getElem?_append_right (by rw[List.length_replicate];omega),List.length_replicate,List.getElem?_map] at h
  cases e:fr[i - k]? with
  |none=>rw[e] at h;cases h
  |some r=>
   rw[e] at h
   exact ⟨i - k,r,by omega,e,join_some (Option.some.inj h)⟩
theorem SR.blk {K:PySem.W.Frag} {H:Hp} {α:List Addr} {σ:L2.St} {ρ:Ro} (h:SR K H α σ ρ):SR K H α (stB k fr σ) (roB k fr ρ):=by
 refine ⟨by simp[stB,roB],fun i d e=> ?_⟩
 obtain ⟨j,r,rfl,e1,e2⟩:=ZlC e
 obtain ⟨v,e3,e4⟩:=h.2 r d e2
 refine ⟨v,?_,e4⟩
 unfold stB
 rw[List.getElem?_append_right (by rw[List.length_replicate];omega),List.length_replicate,List.getElem?_map,Nat.add_sub_cancel_left,e1]
 show some (σ[r]?).join=_
 rw[e3]
 rfl
theorem Zii (B:Blk X scope cl N k fr) {pins:List (Addr × Obj)} {σ:L2.St} {H:Hp} {s:Shared} {fp:List Addr} {h1:Heap} {tk:Nat} {m:Str->Option Value} (I:Inv X pins σ H s) (hf: ∀ b∈fp,Ze6 X pins H b) (hlt: ∀ b∈fp,b < s.heap.objs.size)
  (hn:h1.Ns s.heap.objs.size m) (hk: ∀ b o,s.heap.get? b=some o->h1.get? b=some o):Inv (blk X scope cl N s.heap.objs.size fp s H) [] (stB k fr σ) H { s with heap:=h1,toks:=tk } where
 ok:=Zih B I hf hlt
 os:=rfl
 bare:=I.bare
 base:=Un.kept hk
 loc:=by
  refine ⟨m,hn,fun i x v e1 e2 e3=> ?_⟩
  obtain ⟨j,r,rfl,g1,g2⟩:=ZlD e2
  obtain ⟨y,k1,k2,k3,k4,k5⟩:=B.at_ j r g1
  have exy:x=y:=Option.some.inj (e1.symm.trans k1)
  subst exy
  obtain ⟨m0,hm0,hl⟩:=I.loc
  obtain ⟨u,ru,lk⟩:=hl r x v k2 g2 (.inr (.inl k3))
  refine ⟨u,ru,?_⟩
  rcases lk with ⟨z,_⟩ | ⟨_,c,z1,⟨o,z2,z3⟩⟩
  ·rw[k3] at z;cases z
  ·exact .inr ⟨k4,c,k5.trans z1,⟨o,hk _ _ z2,z3⟩⟩
 cell:=fun x c h=>by
  obtain ⟨v,o,e1,e2⟩:=I.cell x c (B.sub x c h)
  exact ⟨v,o,hk _ _ e1,e2⟩
 free:=I.fresh
 freeC:=fun x c h=>I.freeC x c (B.sub x c h)
 pin:=fun p hp=>(by simp[blk] at hp)
 hok:=I.hok.kept hk
 len:=by
  show (stB k fr σ).length=N.length
  rw[B.len]
  simp[stB]
 qd:=I.qd
 fx:= .free rfl
theorem ZgI {pins:List (Addr × Obj)} {σ σ5:L2.St} {H3 H5:Hp} {s3 s6:Shared} {fp:List Addr} (B:Blk X scope cl N k fr) (I3:Inv X pins σ H3 s3) (f3: ∀ b∈fp,Ze6 X pins H3 b) (I6:Inv (blk X scope cl N s3.heap.objs.size fp s3 H3) [] σ5 H5 s6):Inv X pins σ H5 s6/\ ∀ (σ':L2.St) (s8:Shared) (h':Heap),Inv X pins σ' H5 s8->(∀ b o,b≠s3.heap.objs.size->s8.heap.get? b=some o->h'.get? b=some o)->Inv X pins σ' H5 { s8 with heap:=h',toks:=s8.toks }:=by
 refine ⟨I3.call' (s':=s6) (ch:=fp) I6.os I6.base I6.hok I6.bare fun b hb=> ?_,fun σ' s8 h' I8 sb=> ?_⟩
 ·obtain ⟨_,z1,z2,z3,z4,z5⟩:=f3 b hb
  exact ⟨z3,z1,z4,z5⟩
 ·exact I8.turned (it:=s3.heap.objs.size) sb I6.free (Nat.ne_of_gt I3.lt) (.inr I3.sz)
   (fun x c h z=>by
    obtain ⟨v,o,e,_⟩:=I3.cell x c h
    exact absurd (Heap.lt_size e) (by rw[z];exact Nat.lt_irrefl _)) (fun p hp z=>by
    have:=(I3.pin p hp).1
    exact absurd (Heap.lt_size this) (by rw[z];exact Nat.lt_irrefl _))
noncomputable def CmI (Y:Cx) (fp:List Addr) (tn:Nat->Heap->Prop) (H3:Hp) (α3:List Addr) (g:Nat->Nat->Ro->Sto->Prop) (n:Nat) (s':Shared):Prop:=
 ∃ i σ' ρ' H' α' M',Inv Y [] σ' H' s'/\tn i s'.heap/\(∀ b∈fp,H' b=none)/\SR Y.K H' α' σ' ρ'/\HR Y.K H' α' M'/\Ext Y.K H3 H' α3 α'/\g n i ρ' M'
theorem ZgJ {Y:Cx} {fp α3:List Addr} {it D:Addr} {tn:Nat->Heap->Prop} {J:It} {tg iter elt:Expr} {ifs:List Expr} {scope:Scope} {pos:Pos} {gt:Tg} {c:Tv} {f:Ev} {src:Src} {H3:Hp} {σ0:L2.St} {ρ0:Ro} {M3 M9:Sto} {u9:Unit} {n0 fuel:Nat} {s4:Shared} {R:Result->Shared->Prop}
  (T:Turn Y.prog Y.w Y.K Y.A tg J fp it tn) (hxe: ∀ x y,Y.xe x y->False) (fp5: ∀ {H':Hp},(∀ b∈fp,H' b=none)-> ∀ b∈fp,Ze6 Y [] H' b) (hg:DG Y tg gt) (tst:DC Y ifs c) (he:DE Y E0 elt f)
  (sc:ZmF Y.K H3 α3 J src) (aD:RefK H3 α3 0 n0 D) (I4:Inv Y [] σ0 H3 s4) (st4:tn 0 s4.heap) (fr4: ∀ b∈fp,H3 b=none) (sr:SR Y.K H3 α3 σ0 ρ0) (h3:HR Y.K H3 α3 M3) (er:ZdG src gt c f n0 fuel 0 ρ0 M3= .ok u9 M9)
  (post: ∀ σ5 H5 α5 s6,Inv Y [] σ5 H5 s6->Ext Y.K H3 H5 α3 α5->HR Y.K H5 α5 M9->R (.ok .next) s6):
  codeAny (model Y.prog Y.w) Y.A (.compLoop (.ListComp elt [⟨tg,iter,ifs,0⟩] scope pos) 0 (.ref it) (.ref D) Y.env) R s4:=by
 obtain ⟨tt,pt,qt⟩:=hg
 obtain ⟨te,pe,qe⟩:=he
 refine Zfn (CmI Y fp tn H3 α3 fun n i ρ' M'=>ZdG src gt c f n0 n i ρ' M'= .ok u9 M9) ?_ fuel ⟨0,σ0,ρ0,H3,α3,M3,I4,st4,fr4,sr,h3,Ext.refl,er⟩
 rintro n s5 ⟨i,σ5,ρ5,H5,α5,M5,I5,st5,fr5,sr5,hr5,ex5,en⟩
 have src5:=sc i H5 α5 M5 ex5 hr5
 rw[ZdG] at en
 cases ex:nxt src i M5 with
 |none=>rw[ex] at en;cases en
 |some od=>
  rw[ex] at src5 en
  cases od with
  |none=>
   cases en
   have fin:=T.done Y rfl rfl rfl rfl i [] s5 σ5 H5 (fun _ _=>False) I5 (fp5 fr5) st5 src5
   refine thn fin fun r s6 w6=> ?_
   obtain ⟨hr6,I6⟩:=w6
   subst hr6
   exact post σ5 H5 α5 s6 I6 ex5 hr5
  |some d=>
   obtain ⟨go,yl⟩:=src5
   cases n with
   |zero=>cases en
   |succ n=>
    simp only at en
    have itm:=T.item Y rfl rfl rfl rfl i [] s5 σ5 H5 (fun _ _=>False) I5 (fp5 fr5) st5 go
    refine thn itm fun r s6 ⟨u,hr6,w6⟩=> ?_
    subst hr6
    refine thn w6 fun _ s7 ⟨x,H7,I7,r7,y7,st7,fr7⟩=> ?_
    obtain ⟨ex7,hr7,rp7⟩:=yl x H7 y7
    have sr5:=sr5.mono ex7
    have hr5:=hr7
    have ex5:=ex5.trans ex7
    have I7':=I7.pinned (fp5 fr7) (T.obj _ _ st7)
    cases eg:gt d ρ5 with
    |none=>rw[eg] at en;cases en
    |some ρ6=>
     rw[eg] at en
     simp only at en
     have asg:=pt _ s7 σ5 H7 x u _ I7' r7 (qt x d σ5 ρ5 H7 α5 ρ6 (fun σ' H'=>H'=H7/\SR Y.K H7 α5 σ' ρ6) sr5 rp7 eg fun σ' s'=>⟨rfl,s'⟩)
     refine wpAny_mono asg (fun _ s8 ⟨σ8,H8,I8,z8,sr8⟩=> ?_) (fun x y z=>hxe x y z)
     subst z8
     have again: ∀ {σ9:L2.St} {H9:Hp} {s9:Shared},Inv Y ([] ++ Zef fp s7.heap) σ9 H9 s9->Inv Y [] σ9 H9 s9/\tn (i + 1) s9.heap/\ ∀ b∈fp,H9 b=none:=fun {σ9 H9 s9} I9=>by
      refine ⟨I9.unpinned,T.keep _ _ _ st7 fun b hb o e=>(I9.pin (b,o) (List.mem_append_right _ (List.mem_append_right _ (Zcf hb e)))).1,fun b hb=> ?_⟩
      obtain ⟨o,e,_⟩:=T.obj _ _ st7 b hb
      exact (I9.pin (b,o) (List.mem_append_right _ (List.mem_append_right _ (Zcf hb e)))).2.1
     have after: ∀ (kk:Bool) (M8:Sto) (H9:Hp) (α9:List Addr) (s9:Shared),Inv Y ([] ++ Zef fp s7.heap) σ8 H9 s9->Ext Y.K H8 H9 α5 α9->HR Y.K H9 α9 M8->c ρ6 M5= .ok kk M8->
       (if kk=true then wpAny (model Y.prog Y.w) Y.A (eval elt Y.env) (fun x s₄=>wpAny (model Y.prog Y.w) Y.A (call (.builtin "list.append") [.ref D,x]) (fun _ s₅=> ∃ m,m < n + 1/\CmI Y fp tn H3 α3 (fun n i ρ' M'=>ZdG src gt c f n0 n i ρ' M'= .ok u9 M9) m s₅) (fun _ _=>False) s₄) (fun _ _=>False) s9
        else ∃ m,m < n + 1/\CmI Y fp tn H3 α3 (fun n i ρ' M'=>ZdG src gt c f n0 n i ρ' M'= .ok u9 M9) m s9):=by
      intro kk M8 H9 α9 s9 I9 ex9 hr9 ec
      rw[ec] at en
      cases kk with
      |false=>
       obtain ⟨a1,a2,a3⟩:=again I9
       exact Zkv ⟨n,Nat.lt_succ_self n,i + 1,σ8,ρ6,H9,α9,M8,a1,a2,a3,sr8.mono ex9,hr9,ex5.trans ex9,en⟩
      |true=>
       simp only at en
       refine Zkw ?_
       cases ef:f ρ6 M8 with
       |exc x9 M10=>rw[ef] at en;cases en
       |bad=>rw[ef] at en;cases en
       |ok y M10=>
        rw[ef] at en
        simp only at en
        have ev:=pe _ s9 σ8 H9 (fun v H'=> ∃ α',Ext Y.K H9 H' α9 α'/\HR Y.K H' α' M10/\Rep Y.K H' α' v y) I9 (qe σ8 ρ6 H9 α9 M8 _ (sr8.mono ex9) hr9 (by
         rw[ef]
         exact fun v H' α' e h r=>⟨α',e,h,r⟩))
        refine wpAny_mono ev (fun yv s10 ⟨v,H10,I10,r10,α10,ex10,hr10,rp10⟩=> ?_) (fun x y z=>hxe x y z)
        cases em:M10[n0]? with
        |none=>rw[em] at en;cases en
        |some so=>
         cases so with
         |lst ds=>
          rw[em] at en
          simp only at en
          by_cases cz:ds.length < 10000000
          ·rw[if_pos cz] at en
           have aD10:=ex10.get (ex9.get (ex5.get aD))
           obtain ⟨xs,g1,g2⟩:=hr10.at aD10 em
           have ap:=Zfe (X:=Y) _ s10 σ8 H10 (.ref D) [v] (.ref D) [yv] (fun _ H'=>H'=upd H10 D (.lst (xs ++ [v]))) I10 rfl (.cons r10 .nil) ⟨D,xs,v,rfl,rfl,g1,by rw[g2.length];exact Nat.lt_of_lt_of_le cz (by decide),rfl⟩
           refine wpAny_mono ap (fun _ s11 ⟨v11,H11,I11,_,z11⟩=> ?_) (fun x y z=>hxe x y z)
           subst z11
           obtain ⟨a1,a2,a3⟩:=again I11
           have exw:Ext Y.K H10 (upd H10 D (.lst (xs ++ [v]))) α10 α10:=Ext.wr g1
           exact ⟨n,Nat.lt_succ_self n,i + 1,σ8,ρ6,_,α10,_,a1,a2,a3,((sr8.mono ex9).mono ex10).mono exw,hr10.wr aD10 g1 (g2.append (.cons rp10 .nil)),((ex5.trans ex9).trans ex10).trans exw,en⟩
          ·rw[if_neg cz] at en
           cases en
     rcases tst with ⟨rfl,ec⟩ | ⟨e,rfl,tt',ptt,qtt⟩
     ·refine wpAny_tests_nil ?_
      exact after true M5 H8 α5 s8 I8 Ext.refl hr5 (by rw[ec])
     ·refine wpAny_tests_one ?_
      cases ec:c ρ6 M5 with
      |exc x9 M10=>rw[ec] at en;cases en
      |bad=>rw[ec] at en;cases en
      |ok kk M8=>
       have tv':=ptt _ s8 σ8 H8 (fun b H'=>b=kk/\ ∃ α',Ext Y.K H8 H' α5 α'/\HR Y.K H' α' M8) I8 (qtt σ8 ρ6 H8 α5 M5 _ sr8 hr5 (by
        rw[ec]
        exact fun v H' α' e h r=>⟨r,α',e,h⟩))
       refine wpAny_mono tv' (fun b s9 ⟨H9,I9,zb,α9,ex9,hr9⟩=> ?_) (fun x y z=>hxe x y z)
       subst zb
       exact after b M8 H9 α9 s9 I9 ex9 hr9 ec
theorem ZO (B:Blk X scope cl N k fr) (hi:DI X ξ tg iter fi) (hg: ∀ C fp s H,DG (blk X scope cl N C fp s H) tg gt) (ht: ∀ C fp s H,DC (blk X scope cl N C fp s H) ifs c) (he: ∀ C fp s H,DE (blk X scope cl N C fp s H) E0 elt f)
  (hs: ∀ x,foldedSetIterable iter X.env x=pure x:=by intro _;rfl):DE X ξ (.ListComp elt [⟨tg,iter,ifs,0⟩] scope pos) (ZaM fi k fr gt c f):=by
 obtain ⟨wi,pi,qi⟩:=hi
 refine ⟨fun σ H Q=> ∃ ρ α M,SR X.K H α σ ρ/\HR X.K H α M/\OP X.K H α ξ Q (ZaM fi k fr gt c f ρ M),?_,fun σ ρ H α M Q s h q=>⟨ρ,α,M,s,h,q⟩⟩
 rintro pins s σ H Q I ⟨ρ,α,M,sr,hr,op⟩
 rw[eval_ListComp]
 refine wpAny_comprehension_free (use:=none) rfl hs B.clos B.kind B.names ?_
 refine thn (pi pins s σ H (fun J H2=> ∃ α2 M2 src,Ext X.K H H2 α α2/\HR X.K H2 α2 M2/\ZmF X.K H2 α2 J src/\OP X.K H2 α2 ξ Q (match ZdG src gt c f M2.length (cnt src M2) 0 (roB k fr ρ) (M2 ++ [.lst []]) with | .ok _ M2'=> .ok (.ref M2.length) M2' | _=> .bad)) I
  (qi σ ρ H α M _ sr hr (OG.seq op fun src M1 J H1 α1 e1 h1 r1 q1=>⟨α1,M1,src,e1,h1,r1,q1⟩))) fun v s1 w1=>thn w1 fun itv s2 w2=> ?_
 obtain ⟨it,fp,tn,J,H2,rfl,I2,T,st2,f2,α2,M2,src,e2,h2,sc,op2⟩:=w2
 have srI:=sr.mono e2
 refine wpAny_newObj_type ?_
 have I3:Inv X pins σ (upd H2 s2.heap.objs.size (.lst [])) { s2 with heap:=s2.heap.push { cls:= .type "list",data:= .seq ([]:List Value).toArray } }:=I2.lnew (its:=[]) (t':=s2.toks) .nil (Nat.zero_le _)
 have fD:H2 s2.heap.objs.size=none:=I2.fresh
 generalize hD:s2.heap.objs.size=D at I3 fD
 generalize hs3:({ s2 with heap:=s2.heap.push { cls:= .type "list",data:= .seq ([]:List Value).toArray } }:Shared)=s3 at I3
 generalize hH3:upd H2 D (.lst [])=H3 at I3
 have h3:HR X.K H3 (α2 ++ [D]) (M2 ++ [.lst []]):=by rw[<- hH3];exact h2.new fD .nil
 have e3:Ext X.K H2 H3 α2 (α2 ++ [D]):=by rw[<- hH3];exact Ext.new fD
 have aD:RefK H3 (α2 ++ [D]) 0 M2.length D:=⟨h2.last D,by first | exact Kn.lst ZJ | (rw[<- hH3];exact Kn.lst ZJ)⟩
 have lt2: ∀ b∈fp,b < s2.heap.objs.size:=fun b hb=>let ⟨o,e,_⟩:=T.obj _ _ st2 b hb;Heap.lt_size e
 have keep3: ∀ b o,s2.heap.get? b=some o->s3.heap.get? b=some o:=fun b o e=>by rw[<- hs3];exact Heap.get?_push_of_some _ e
 have f3: ∀ b∈fp,Ze6 X pins H3 b:=fun b hb=>⟨by rw[<- hH3,Z1 (by rw[<- hD];exact Nat.ne_of_lt (lt2 b hb))];exact (f2 b hb).1,(f2 b hb).2⟩
 have lt3: ∀ b∈fp,b < s3.heap.objs.size:=fun b hb=>let ⟨o,e,_⟩:=T.obj _ _ st2 b hb;Heap.lt_size (keep3 b o e)
 have st3:tn 0 s3.heap:=T.keep _ _ _ st2 fun b _ o e=>keep3 b o e
 refine wpAny_newFunctionEnv B.cell (by intro y hy;simp at hy) (fun h₁ hns₁ hsb₁=> ?_) B.kind
 have keep4: ∀ b o,s3.heap.get? b=some o->h₁.get? b=some o:=fun b o e=>hsb₁.extBut b o (Nat.ne_of_lt (Heap.lt_size e)) (Heap.get?_push_of_some _ e)
 have I4:=Zii (tk:=s3.toks + ([]:List (Str × Value)).length) B I3 f3 lt3 hns₁ keep4
 have st4:tn 0 h₁:=T.keep _ _ _ st3 fun b _ o e=>keep4 b o e
 have fp5: ∀ {H':Hp},(∀ b∈fp,H' b=none)-> ∀ b∈fp,Ze6 (blk X scope cl N s3.heap.objs.size fp s3 H3) [] H' b:=fun hn b hb=>⟨hn b hb,Nat.ne_of_lt (lt3 b hb),(Zih B I3 f3 lt3).exfs b hb,.inl hb,fun x c h=>(f3 b hb).2.2.2.2.1 x c (B.sub x c h),fun p hp=>(by simp[blk] at hp)⟩
 cases er:ZdG src gt c f M2.length (cnt src M2) 0 (roB k fr ρ) (M2 ++ [.lst []]) with
 |exc x M9=>rw[er] at op2;exact op2.elim
 |bad=>rw[er] at op2;exact op2.elim
 |ok u9 M9=>
  rw[er] at op2
  have loop:codeAny (model X.prog X.w) X.A (.compLoop (.ListComp elt [⟨tg,iter,ifs,0⟩] scope pos) 0 (.ref it) (.ref D) (compEnvC scope cl s3.heap.objs.size X.env)) (compPost (model X.prog X.w) X.A X.xe none (EP X pins σ Q) (.ref D) s3.heap.objs.size) { s3 with heap:=h₁,toks:=s3.toks + ([]:List (Str × Value)).length }:=by
   refine ZgJ (Y:=blk X scope cl N s3.heap.objs.size fp s3 H3) T (fun _ _ z=>z) fp5 (hg _ fp s3 H3) (ht _ fp s3 H3) (he _ fp s3 H3) (fun i H' α' M' ex hr=>sc i H' α' M' (e3.trans ex) hr) aD I4 st4 (fun b hb=>(f3 b hb).1) ((srI.blk).mono e3) h3 er ?_
   intro σ5 H5 α5 s6 I6 ex5 hr5
   obtain ⟨I7,I8⟩:=ZgI B I3 f3 I6
   obtain ⟨m6,hm6,_⟩:=id I6.loc
   exact ⟨m6,hm6,fun h' sb=>⟨.ref D,H5,I8 σ s6 h' I7 (fun b o hb e=>(sb.2 b hb).trans e),rfl,op2 _ H5 α5 (e3.trans ex5) hr5 (.ref (ex5.get aD))⟩⟩
  exact codeAny_compStart_list loop (T.self X.A 0 _ _ _ st4 loop)
end
end DL
end
section
namespace DL
open PySem PySem.Spec PyProof.Rows L2
theorem ZnB {names:List (Str × NameKind)} (h:names.all (fun y=>y.2 != .cell && y.2 != .free)=true) (x:Str): ¬ (names.lookup x=some .cell\/names.lookup x=some .free):=by
 induction names with
 |nil=>intro z;rcases z with z | z<;>simp at z
 |cons y r ih=>
  rw[List.all_cons,Bool.and_eq_true] at h
  obtain ⟨n,kd⟩:=y
  rw[List.lookup_cons]
  cases e:x == n with
  |true=>
   simp only
   intro z
   have h1:=h.1
   rcases z with z | z<;>(cases z;simp at h1)
  |false=>exact ih h.2
theorem ZjM {names:List (Str × NameKind)} {env:Env} (h:names.all (fun y=>y.2 != .cell && y.2 != .free)=true):
  (names.map fun (n,k)=>if (k == NameKind.free && env.scope.kind == .function && env.kindOf n == some .cell) then (n,NameKind.cell) else (n,k))=names:=by
 induction names with
 |nil=>rfl
 |cons y r ih=>
  rw[List.all_cons,Bool.and_eq_true] at h
  obtain ⟨n,kd⟩:=y
  have hk:(kd == NameKind.free)=false:=by
   have h1:=h.1
   rw[Bool.and_eq_true] at h1
   have h2:=h1.2
   cases kd<;>first | rfl | simp at h2
  rw[List.map_cons,ih h.2]
  simp[hk]
theorem Zei {X:Cx} {scope:Scope} {N:List Str} {k:Nat} (h:scope.names.all (fun y=>y.2 != .cell && y.2 != .free)=true) (hk:scope.kind= .function) (hn: ∀ y∈scope.names,y.2= .local->scope.names.lookup y.1=some .local) (hl:N.length=k):Blk X scope [] N k [] where
 clos:=closureFor_none fun y hy z=>by
  have:=List.all_eq_true.mp h y hy
  rw[z] at this
  simp at this
 kind:=hk
 cell:=fun y hy z=>by
  have:=List.all_eq_true.mp h y hy
  rw[z] at this
  simp at this
 names:=hn
 sub:=fun x c z=>(by cases z)
 has:=fun x z=>by
  have e:(relabel scope X.env).names=scope.names:=ZjM h
  rw[e] at z
  exact absurd z (ZnB h x)
 len:=hl
 at_:=fun j i z=>(by simp at z)
theorem Zf8 {env:Env}: ∀ (names:List (Str × NameKind)) (acc:List (Str × Addr)),(∀ y∈names,y.2= .free-> ∃ c,env.cells.lookup y.1=some c)->
  (forIn names acc fun (x:Str × NameKind) (cs:List (Str × Addr))=>if x.2 == NameKind.free then (do let a <- cellOf env x.1;pure (ForInStep.yield ((x.1,a) :: cs))) else (pure (ForInStep.yield cs):Sem _))=
   (pure (((names.filter fun y=>y.2 == .free).map fun y=>(y.1,(env.cells.lookup y.1).getD 0)).reverse ++ acc):Sem (List (Str × Addr)))
 | [],acc,_=>by simp
 | (n,kd) :: r,acc,h=>by
  rw[List.forIn_cons]
  by_cases hk:(kd == NameKind.free)=true
  ·obtain ⟨c,hc⟩:=h (n,kd) List.mem_cons_self (by simpa using hk)
   have e1:cellOf env n=pure c:=by unfold cellOf;rw[hc]
   have ih:=Zf8 r ((n,c) :: acc) fun y hy=>h y (List.mem_cons_of_mem _ hy)
   simp only[hk,if_true,e1,pure_bind]
   refine Eq.trans ih ?_
   simp[List.filter_cons,hk,hc]
  ·have ih:=Zf8 r acc fun y hy=>h y (List.mem_cons_of_mem _ hy)
   simp only[hk,if_false,pure_bind]
   refine Eq.trans ih ?_
   simp[List.filter_cons,hk]
noncomputable def clF (scope:Scope) (env:Env):List (Str × Addr):=((scope.names.filter fun y=>y.2 == .free).map fun y=>(y.1,(env.cells.lookup y.1).getD 0)).reverse
theorem Zej {env:Env}: ∀ {l:List (Str × NameKind)} {x:Str} {c:Addr},(l.map fun y=>(y.1,(env.cells.lookup y.1).getD 0)).lookup x=some c->c=(env.cells.lookup x).getD 0/\ ∃ y∈l,y.1=x
 | [],x,c,h=>by simp at h
 |y :: r,x,c,h=>by
  rw[List.map_cons,List.lookup_cons] at h
  cases e:x == y.1 with
  |true=>
   rw[e] at h
   have ex:x=y.1:=by simpa using e
   cases h
   exact ⟨by rw[ex],y,List.mem_cons_self,ex.symm⟩
  |false=>
   rw[e] at h
   obtain ⟨h1,z,h2,h3⟩:=Zej h
   exact ⟨h1,z,List.mem_cons_of_mem _ h2,h3⟩
theorem ZcM {α:Type}: ∀ {l:List (Str × α)} {x:Str},(∃ y∈l,y.1=x)-> ∃ c,l.lookup x=some c
 | [],x,h=>by obtain ⟨y,h1,_⟩:=h;simp at h1
 |z :: r,x,h=>by
  rw[List.lookup_cons]
  cases e:x == z.1 with
  |true=>exact ⟨_,rfl⟩
  |false=>
   obtain ⟨y,h1,h2⟩:=h
   rcases List.mem_cons.mp h1 with q | q
   ·subst q;rw[h2] at e;simp at e
   ·exact ZcM ⟨y,q,h2⟩
theorem Za7 {env:Env} (nc: ∀ n,env.scope.names.lookup n=env.kindOf n): ∀ {names:List (Str × NameKind)} {x:Str} {kd:NameKind},(names.map fun (n,k)=>if (k == NameKind.free && env.scope.kind == .function && env.kindOf n == some .cell) then (n,NameKind.cell) else (n,k)).lookup x=some kd->
  names.lookup x=some kd\/(names.lookup x=some .free/\kd= .cell)
 | [],x,kd,h=>by simp at h
 | (n,q) :: r,x,kd,h=>by
  rw[List.map_cons,List.lookup_cons] at h
  rw[List.lookup_cons]
  dsimp only at h ⊢
  by_cases c:(q == NameKind.free && env.scope.kind == .function && env.kindOf n == some .cell)=true
  ·rw[if_pos c] at h
   dsimp only at h
   cases e:x == n with
   |true=>
    rw[e] at h
    cases h
    simp only[Bool.and_eq_true,beq_iff_eq] at c
    exact .inr ⟨by rw[c.1.1],rfl⟩
   |false=>rw[e] at h;exact Za7 nc h
  ·rw[if_neg c] at h
   dsimp only at h
   cases e:x == n with
   |true=>rw[e] at h;exact .inl h
   |false=>rw[e] at h;exact Za7 nc h
theorem Zb4 {env:Env}: ∀ {names:List (Str × NameKind)} {x:Str},names.lookup x=some .free->(∃ kd,(kd=NameKind.cell\/kd=NameKind.free)/\(names.map fun (n,k)=>if (k == NameKind.free && env.scope.kind == .function && env.kindOf n == some .cell) then (n,NameKind.cell) else (n,k)).lookup x=some kd)
 | [],x,h=>by simp at h
 | (n,q) :: r,x,h=>by
  rw[List.lookup_cons] at h
  rw[List.map_cons,List.lookup_cons]
  by_cases c:(q == NameKind.free && env.scope.kind == .function && env.kindOf n == some .cell)=true
  ·dsimp only
   rw[if_pos c]
   cases e:x == n with
   |true=>exact ⟨_,.inl rfl,rfl⟩
   |false=>rw[e] at h;exact Zb4 h
  ·dsimp only
   rw[if_neg c]
   cases e:x == n with
   |true=>rw[e] at h;exact ⟨q,.inr (Option.some.inj h),rfl⟩
   |false=>rw[e] at h;exact Zb4 h
noncomputable def Zr0 (XN N:List Str) (dn sn:List (Str × NameKind)) (k:Nat) (fr:List Nat):Bool:=
 (sn.all fun y=>y.2 != .cell && (y.2 != .free || dn.lookup y.1 == some .cell) && (y.2 != .local || sn.lookup y.1 == some .local)) && N.length == k + fr.length &&
  (List.range fr.length).all fun j=>match fr[j]? with
   |some i=>(match N[k + j]?,XN[i]? with | some x,some y=>x == y && dn.lookup x == some .cell && sn.lookup x == some .free | _,_=>false)
   |none=>false
theorem ZlE {X:Cx} {scope:Scope} {N:List Str} {k n:Nat} {fr:List Nat} {XN:List Str} {dn:List (Str × NameKind)} (hN:X.N=XN) (hd:X.env.scope.names=dn) (hc:X.env.cells=cellsFrom n dn []) (hk:scope.kind= .function) (h:Zr0 XN N dn scope.names k fr=true):Blk X scope (clF scope X.env) N k fr:=by
 unfold Zr0 at h
 simp only[Bool.and_eq_true,List.all_eq_true,bne_iff_ne,ne_eq,Bool.or_eq_true,beq_iff_eq] at h
 obtain ⟨⟨h1,h2⟩,h3⟩:=h
 have kind: ∀ x,X.env.kindOf x=dn.lookup x:=fun x=>by rw[<- hd];rfl
 have cel: ∀ x,dn.lookup x=some .cell-> ∃ c,X.env.cells.lookup x=some c:=fun x e=>by
  have:=PySem.W.cellsFrom_some dn n [] (.inl e)
  rw[hc]
  exact Option.isSome_iff_exists.mp this
 have frc: ∀ y∈scope.names,y.2= .free-> ∃ c,X.env.cells.lookup y.1=some c:=fun y hy e=>by
  rcases (h1 y hy).1.2 with z | z
  ·exact absurd e z
  ·exact cel _ z
 have sub: ∀ x c,(clF scope X.env).lookup x=some c->X.env.cells.lookup x=some c:=fun x c e=>by
  unfold clF at e
  rw[<- List.map_reverse] at e
  obtain ⟨e1,y,e2,e3⟩:=Zej e
  have e4:=List.mem_filter.mp (List.mem_reverse.mp e2)
  obtain ⟨c',g⟩:=frc y e4.1 (by simpa using e4.2)
  rw[e3] at g
  rw[g] at e1 ⊢
  rw[e1]
  rfl
 have has: ∀ x,scope.names.lookup x=some .free-> ∃ c,(clF scope X.env).lookup x=some c:=fun x e=>by
  refine ZcM ?_
  have m:=PySem.mem_of_lookup e
  exact ⟨(x,(X.env.cells.lookup x).getD 0),List.mem_reverse.mpr (List.mem_map.mpr ⟨(x,.free),List.mem_filter.mpr ⟨m,by simp⟩,rfl⟩),rfl⟩
 refine ⟨?_,hk,fun y hy=>(h1 y hy).1.1,fun y hy e=> ?_,sub,fun x z=> ?_,h2,fun j i e=> ?_⟩
 ·have:=Zf8 (env:=X.env) scope.names [] frc
  rw[List.append_nil] at this
  unfold closureFor
  exact (congrArg (fun (m:Sem (List (Str × Addr)))=>m >>= fun cs=>(pure cs:Sem (List (Str × Addr)))) this).trans (pure_bind _ _)
 ·rcases (h1 y hy).2 with z | z
  ·exact absurd e z
  ·exact z
 ·have nc: ∀ m,X.env.scope.names.lookup m=X.env.kindOf m:=fun m=>rfl
  refine has x ?_
  rcases z with z | z
  ·rcases Za7 nc z with q | q
   ·exact absurd rfl (h1 _ (PySem.mem_of_lookup q)).1.1
   ·exact q.1
  ·rcases Za7 nc z with q | q
   ·exact q
   ·cases q.2
 ·have hj:j < fr.length:=(List.getElem?_eq_some_iff.mp e).1
  have q:=h3 j (List.mem_range.mpr hj)
  rw[e] at q
  dsimp only at q
  cases e1:N[k + j]? with
  |none=>rw[e1] at q;cases q
  |some x=>
   cases e2:XN[i]? with
   |none=>rw[e1,e2] at q;cases q
   |some y=>
    rw[e1,e2] at q
    simp only[Bool.and_eq_true,beq_iff_eq] at q
    obtain ⟨⟨q1,q2⟩,q3⟩:=q
    subst q1
    obtain ⟨kd,r1,r2⟩:=Zb4 (env:=X.env) q3
    obtain ⟨c,r3⟩:=has x q3
    refine ⟨x,rfl,by rw[hN];exact e2,by rw[kind];exact q2,?_,r3.trans (sub x c r3).symm⟩
    rcases r1 with r1 | r1
    ·exact .inl (r1 ▸ r2)
    ·exact .inr (r1 ▸ r2)
section
variable {X:Cx} {ξ:XK}
noncomputable def Zr1 (X:Cx):List V->Hp->VK->Prop:=fun vs H Q=> ∃ (p:Addr) (bs:List Bool),vs=[.ref p]/\SqL X.K H p (bs.map V.bl)/\Q (.bl (bs.all id)) H
theorem Zfo: ∀ {bs:List Bool} {us:List Value} {i:Nat} {u:Value},Zam (bs.map V.bl) us->us[i]?=some u-> ∃ b,bs[i]?=some b/\u= .bool b
 | [],us,i,u,h,e=>by cases h;simp at e
 |b :: r,us,i,u,h,e=>by
  cases h with
  |cons h1 h2=>
   cases i with
   |zero=>simp at e;subst e;exact ⟨b,rfl,h1⟩
   |succ i=>simp at e;obtain ⟨b',g1,g2⟩:=Zfo h2 e;exact ⟨b',by simpa using g1,g2⟩
theorem Zg7 (bs:List Bool):((List.range bs.length).all fun i=>(bs[i]?).getD true)=bs.all id:=by
 rw[Bool.eq_iff_iff,List.all_eq_true,List.all_eq_true]
 constructor
 ·intro h b hb
  obtain ⟨i,hi,e⟩:=List.getElem_of_mem hb
  have:=h i (List.mem_range.mpr hi)
  simp only[List.getElem?_eq_getElem hi,Option.getD_some,e] at this
  exact this
 ·intro h i hi
  have hi':=List.mem_range.mp hi
  simp only[List.getElem?_eq_getElem hi',Option.getD_some]
  exact h _ (List.getElem_mem hi')
theorem Zbe (hc:X.calm=true):Zcm X (.builtin "all") (Zr1 X):=by
 intro pins s σ H vs us Q I rs ⟨p,bs,e,hl,q⟩
 subst e
 obtain ⟨u,rfl,ru⟩:=ZcV rs
 cases ru
 obtain ⟨its,hv,hp,hz⟩:=I.list hl
 have hlt:p < s.heap.objs.size:=by obtain ⟨_,e,_⟩:=hp.isList;exact Heap.lt_size e
 refine call_all_walk (wpAny_pyIter_list hp.isList ?_)
 refine ⟨s.heap.objs.size,[s.heap.objs.size,p],[s.heap.objs.size],its.toArray.size,_,_,fun i=>(bs[i]?).getD true,rfl,Walks.list (A:=X.A.in1) (I.ok.hd hc) _ p (Nat.ne_of_lt hlt) its.toArray,
  ⟨⟨_,Heap.get?_push_size _ rfl,rfl,rfl⟩,hp.isList.push _⟩,fun i v s' Q' E' hP hQ=> ?_,fun h' tk hk=> ?_⟩
 ·obtain ⟨b,e,rfl⟩:=Zfo (i:=i) (u:=v) hv (by simpa using hP)
  simp only[e,Option.getD_some] at hQ
  exact wpAny_truthy_bool hQ
 ·have e:((List.range its.toArray.size).all fun i=>(bs[i]?).getD true)=bs.all id:=by
   rw[List.size_toArray,<- hv.length,List.length_map];exact Zg7 bs
  rw[e]
  exact ⟨.bl (bs.all id),H,I.kept fun b o e=>hk b o (fun hm=>by rw[List.mem_singleton.mp hm] at e;exact Nat.lt_irrefl _ (Heap.lt_size e)) (Heap.get?_push_of_some _ e),rfl,q⟩
noncomputable def Zbd:List D->Option (List Bool)
 | []=>some []
 | .bl b :: r=>match Zbd r with | some bs=>some (b :: bs) | none=>none
 |_ :: _=>none
theorem Zfp {K:PySem.W.Frag} {H:Hp} {α:List Addr}: ∀ {vs:List V} {ds:List D} {bs:List Bool},Reps K H α vs ds->Zbd ds=some bs->vs=bs.map V.bl
 |_,_,_,.nil,e=>by cases e;rfl
 |_,_,bs,.cons (d:=d) (ds:=ds) r t,e=>by
  cases r with
  |bl b=>
   cases e1:Zbd ds with
   |none=>simp only[Zbd,e1] at e;cases e
   |some cs=>
    simp only[Zbd,e1,Option.some.injEq] at e
    subst e
    rw[Zfp t e1]
    rfl
  |_=>cases e
noncomputable def bAll:List D->Sto->Out D:=fun ds M=>match ds with
 | [.ref n]=>(match M[n]? with | some (.lst xs)=>(match Zbd xs with | some bs=> .ok (.bl (bs.all id)) M | none=> .bad) | none=> .bad)
 |_=> .bad
theorem ZcN:CO X ξ (Zr1 X) bAll:=by
 intro H α M vs ds Q h rs q
 match rs with
 | .nil=>exact q.elim
 | .cons r (.cons _ _)=>cases r<;>exact q.elim
 | .cons r .nil=>
  cases r with
  | @ref p n hp=>
   cases e1:M[n]? with
   |none=>simp only[bAll,e1] at q;exact q.elim
   |some so=>
    cases so with
    |lst es=>
     cases e2:Zbd es with
     |none=>simp only[bAll,e1,e2] at q;exact q.elim
     |some bs=>
      simp only[bAll,e1,e2] at q
      obtain ⟨xs,g1,g2⟩:=h.at hp e1
      have:=Zfp g2 e2
      subst this
      exact ⟨p,bs,rfl,SqL.of g1,q _ H α Ext.refl h (.bl _)⟩
  |_=>exact q.elim
end
section
variable {prog:Program} {w:World} {A:Around} {E:Value->Shared->Prop} {s:Shared}
end
section
variable {X:Cx} {ξ:XK} {e:Expr} {f:Ev} {p2 p3 p4 pos:Pos} {j:Nat}
theorem Reps.rev {K:PySem.W.Frag} {H:Hp} {α:List Addr}: ∀ {vs:List V} {ds:List D},Reps K H α vs ds->Reps K H α vs.reverse ds.reverse
 |_,_,.nil=> .nil
 |_,_,.cons r t=>by
  rw[List.reverse_cons,List.reverse_cons]
  exact (Reps.rev t).append (.cons r .nil)
end
end DL
end
section
namespace DL
open PySem PySem.Spec PyProof.Rows L2
section
variable {X:Cx} {ξ:XK}
end
end DL
end
section
namespace DL
open PySem PySem.Spec PyProof.Rows L2
section
variable {M:Model} {A:Around} {E:Value->Shared->Prop} {s:Shared}
end
section
variable {X:Cx} {ξ:XK} {tg iter elt:Expr} {ifs:List Expr} {scope:Scope} {cl:List (Str × Addr)} {N:List Str} {k:Nat} {fr:List Nat} {fi:Ro->Sto->Out Src} {gt:Tg} {c:Tv} {f:Ev} {pos:Pos}
end
section
variable {X:Cx} {scope0:Scope} {cl0:List (Str × Addr)} {N0:List Str} {k0:Nat} {fr0:List Nat} {C:Addr} {fp:List Addr} {s:Shared} {H:Hp} {scope:Scope} {N:List Str} {k:Nat} {fr:List Nat} {dn:List (Str × NameKind)}
end
end DL
end
section
namespace DL
open PySem PySem.Spec PyProof.Rows L2
open PySem.W (nsIn excIn tailIn nsOkIn mroIn clsIn typeIn findIn specialIn takesIn kitOne Looks)
noncomputable abbrev bmV:List Value:=[.type "ValueError",.type "Exception",.type "BaseException",.type "object"]
noncomputable def ZlF (K:PySem.W.Frag) (c:Str):Option Addr:=match nsIn K mainGlobals c with | some (some (.ref C))=>some C | _=>none
theorem ZjN {K:PySem.W.Frag} {c:Str} {C:Addr} (h:ZlF K c=some C):nsIn K mainGlobals c=some (some (.ref C)):=by
 unfold ZlF at h
 split at h
 ·rename_i C' e;cases h;exact e
 ·cases h
noncomputable def Zf9 (K:PySem.W.Frag) (c:Str):Bool:=match ZlF K c with
 |some C=>excIn K C bmV "ValueError.__new__" && findIn K (.ref C) "__getattribute__" == some (some (.builtin "BaseException.__getattribute__")) && findIn K (.ref C) "__getattr__" == some none && findIn K (.ref C) "__class__" == some (some (.builtin "object.__class__")) &&
  specialIn K (.builtin "object.__class__") "__get__" == some (some (.builtin "getset_descriptor.__get__")) && takesIn K (.builtin "object.__class__") == some true && mroIn K C (.type "BaseException") == some true && mroIn K C (.type "object") == some true && (clsIn K C).isSome
 |none=>false
theorem ZlG {K:PySem.W.Frag} {c:Str} (h:Zf9 K c=true): ∃ C,nsIn K mainGlobals c=some (some (.ref C))/\excIn K C bmV "ValueError.__new__"=true/\DQ.ExcC K C:=by
 unfold Zf9 at h
 split at h
 ·rename_i C e
  simp only[Bool.and_eq_true,beq_iff_eq] at h
  obtain ⟨⟨⟨⟨⟨⟨⟨⟨h1,h2⟩,h3⟩,h4⟩,h5⟩,h6⟩,h7⟩,h8⟩,h9⟩:=h
  exact ⟨C,ZjN e,h1,h2,h3,h4,h5,h6,h7,h8,h9⟩
 ·cases h
theorem ZlH {K:PySem.W.Frag} {h:Heap} {C:Addr} {bmB:List Value} {newId:String} (X:K.In h) (q:excIn K C bmB newId=true):
  ∃ bm N nm q bs hdct sn sub ab col dd k0 k1 k2 k3 k5 mN,h.get? C=some (excClassObj nm q C N bs bm hdct sn sub ab col dd k0 k1 k2 k3 k5 newId)/\h.Ns N mN/\mN "__init__"=none/\OwnTail h bmB bm:=by
 unfold excIn at q
 split at q
 ·rename_i dd cd sl ho
  split at q
  ·rename_i C' bm k0 k1 k2 k3 n k5 hm hs
   simp only[Bool.and_eq_true,beq_iff_eq,Bool.not_eq_true'] at q
   obtain ⟨⟨⟨⟨⟨rfl,rfl⟩,hdel⟩,ht⟩,hok⟩,hni⟩:=q
   obtain ⟨nm,bs,mro,ns,qn,hd,sn,sub,ab,col,del⟩:=cd
   dsimp only at hm hdel hok hni
   subst hm hdel
   obtain ⟨l⟩:=sl
   simp only at hs
   subst hs
   exact ⟨bm,ns,nm,qn,bs,hd,sn,sub,ab,col,dd,k0,k1,k2,k3,k5,_,X _ _ ho,.of_isNs (PySem.W.isNs_of_in X hok),PySem.W.nsMap_none_of_in X hok hni,PySem.W.tail_of_in X ht⟩
  ·cases q
 ·cases q
noncomputable def Zr2 (tab:List (Str × Bool)) (f:Ev):Ev:=fun ρ M=>(f ρ M).bind fun x M1=>match x with | .err c _=>(match tab.lookup c with | some b=> .ok (.bl b) M1 | none=> .bad) | _=> .bad
section
variable {X:Cx} {ξ:XK} {e:Expr} {fa:Ev} {p pos:Pos} {tab:List (Str × Bool)}
noncomputable def ZbI (c:Str) (fs:Av):Sv:=fun ρ M=>Zba (fs ρ M) fun ds M1=>if ds.length<=1000 then .exc c M1 else .bad
theorem ZbT {x:Str} {np cpos:Pos} {a:Expr} {as:List Expr} {fs:Av} (T:Thr X ξ) (hx:Zf9 X.K x=true) (gl: ∀ c v,nsIn X.K mainGlobals c=some (some v)->X.mg c=some v) (hh:X.A.handled=none) (ha:DA X ξ (a :: as) fs) (hg:Gl X x:=by rfl) (hdb:(x == ("__debug__":Str))=false:=by decide)
  (he:starEach (a :: as) X.env=(false,eval a X.env) :: starEach as X.env:=by rfl) (hpl:(backTo cpos (starEach as X.env)).any (·.1)=false:=by rfl):DS X ξ (.Raise (some (.Call (.Name x np) (a :: as) [] cpos)) none pos) (ZbI x fs):=by
 obtain ⟨ta,pa,qa⟩:=ha
 obtain ⟨C,hC,hq,_⟩:=ZlG hx
 refine ⟨fun Dn σ H=>ta σ H fun vs H1=>vs.length<=sizeLine/\ξ (.ref C) none H1,fun pins s σ H Dn I h=> ?_,fun σ ρ H α M Dn s h q=> ?_⟩
 ·obtain ⟨tl,N,nm,q,bs,hdct,sn,sub,ab,col,dd,k0,k1,k2,k3,k5,mN,gC,hN,hni,TL⟩:=ZlH I.ok.mod.kin hq
  refine wpAny_Raise_call_subT (C:=C) (nm:=nm) (q:=q) (N:=N) (bs:=bs) (bm:=tl) (hdct:=hdct) (sn:=sn) (sub:=sub) (ab:=ab) (col:=col) (dd:=dd) (k0:=k0) (k1:=k1) (k2:=k2) (k3:=k3) (k5:=k5) F.excBase_ValueError (mN:=mN)
   (TL.hasType F.excBase_ValueError.hasBase) hh (by rw[he];show (false || (backTo cpos (starEach as X.env)).any (·.1))=false;rw[hpl];rfl) hni (ZhF I hg (gl x _ hC) ⟨rfl,?_⟩ hdb)
  have hs:=pa cpos pins s σ H _ I h
  rw[he] at hs ⊢
  refine Calls.evalArgs_plain (wpAny_mono hs (fun us s2 ⟨vs,H1,I1,r1,z1,z2⟩=>⟨rfl,by rw[<- r1.length];exact z1,I1.bk _ _ gC,hN.keeps I1.bk,TL.keeps I1.bk,fun h' e m=> ?_⟩) fun _ _ y=>y)
  obtain ⟨t,g1,g2,g3⟩:=m.there
  exact T.mak pins σ H1 s2 h' e _ _ C I1 m.keeps m.new g1 rfl rfl rfl rfl rfl z2
 ·refine qa σ ρ H α M _ s h (FP.seq q fun ds M1 vs H1 α1 e1 h1 r1 w1=> ?_)
  by_cases hl:ds.length<=1000
  ·rw[if_pos hl] at w1
   exact ⟨by rw[r1.length];exact small hl,w1 C H1 α1 hC Ext.refl h1⟩
  ·rw[if_neg hl] at w1
   exact w1.elim
end
end DL
end
section
namespace DL
open PySem PySem.Spec PyProof.Rows L2
open PySem.W (nsIn excIn tailIn nsOkIn mroIn clsIn typeIn findIn specialIn takesIn kitOne Looks looks_mroIn looks_typeIn)
section
variable {X:Cx} {pins pins' pn:List (Addr × Obj)} {σ:L2.St} {H H':Hp} {s:Shared} {xe:Value->Shared->Prop} {e:Addr}
end
noncomputable def kpR:List Bool->Ro->Ro
 |b :: m,x :: r=>(bif b then none else x) :: kpR m r
 |_,[]=>[]
 | [],_ :: r=>none :: kpR [] r
noncomputable def Zr3 (gb:Sv) (cs:List Str) (W:List Bool) (i:Nat) (gh:Sv):Sv:=fun ρ M=>match gb ρ M with
 | .exc c M1=>if cs.contains c=true then (match gh ((kpR W ρ).set i (some (.err c []))) M1 with
  | .ret d M2=> .ret d M2
  | .nx _ M2=> .nx (List.replicate ρ.length none) M2
  |_=> .bad) else .bad
 |o=>o
section
variable {X:Cx} {ξ:XK} {d n:Str} {cs:List Str} {i:Nat} {body suite:List Stmt} {b0:Stmt} {gb gh:Sv} {pos hpos np:Pos}
end
theorem Zz {k:Nat} {A:Around} {env:Env} (hr:Room k (A.deeper env)) (h:100<=k):A.handled.isNone=true:=by
 have e:A.handled=none:=hr.hd h
 rw[e]
 rfl
end DL
end
section
namespace DL
open PySem PySem.Spec PyProof.Rows L2
noncomputable abbrev Me:=D->List D->Sto->Out D
noncomputable def MO (X:Cx) (ξ:XK) (r:V->List V->Hp->VK->Prop) (g:Me):Prop:= ∀ H α M v vs x ds Q,HR X.K H α M->Rep X.K H α v x->Reps X.K H α vs ds->OP X.K H α ξ Q (g x ds M)->r v vs H Q
theorem HR.wrE {K:PySem.W.Frag} {H:Hp} {α:List Addr} {M:Sto} {n:Nat} {p:Addr} {xs ys:List V} {ds:List D} (h:HR K H α M) (e:RefK H α 0 n p) (hp:H p=some (.lst ys)) (r:Reps K H α xs ds):Ext K H (upd H p (.lst xs)) α α/\HR K (upd H p (.lst xs)) α (M.set n (.lst ds)):=
 ⟨Ext.wr hp,h.wr e hp r⟩
section
variable {X:Cx} {ξ:XK} {o e:Expr} {es:List Expr} {fo fa:Ev} {fs:Av} {name:Str} {apos cpos pos:Pos} {T id:String} {r:V->List V->Hp->VK->Prop} {g:Me}
noncomputable def ZlI (x:D) (M:Sto):Bool:=match x with | .ref n=>M[n]?.isSome | _=>false
noncomputable def Zij (g:Me) (fo:Ev) (fs:Av):Ev:=fun ρ M=>(fo ρ M).bind fun x M1=>if ZlI x M1=true then (fs ρ M1).bind fun ds M2=>g x ds M2 else .bad
theorem ZlJ {K:PySem.W.Frag} {H:Hp} {α:List Addr} {M:Sto} {v:V} {x:D} (h:HR K H α M) (rx:Rep K H α v x) (k:ZlI x M=true):tyV K "list" v H:=by
 cases rx with
 | @ref p n hp=>
  obtain ⟨xs,g⟩:=h.some_at hp
  exact .inl ⟨rfl,_,SqL.of g⟩
 |_=>cases k
theorem ZnC (slot:Slot "list" name id) (hty:typeOf (.builtin id)=pure (.type "method_descriptor")) (hm:MtR X id r) (hf:MO X ξ r g) (ho:DE X ξ o fo) (ha:DA X ξ (e :: es) fs)
  (hbase:attributeBase o name X.env (eval o X.env)=eval o X.env:=by rfl)
  (hfew:((backTo cpos (starEach (e :: es) X.env)).all (fun x=> !x.1) && (backToKw cpos (keywordEach [] X.env)).all (fun x=>x.1.isSome)
   && decide ((e :: es).length + ([]:List Keyword).length + (if ([]:List Keyword).isEmpty then 0 else 1) < 30))=true:=by rfl)
  (hline:(apos.endLine == cpos.line)=true:=by rfl) (hs:starEach (e :: es) X.env=(false,eval e X.env) :: starEach es X.env:=by rfl) (hplain:(backTo cpos (starEach es X.env)).any (·.1)=false:=by rfl):
  DE X ξ (.Call (.Attribute o name apos) (e :: es) [] cpos) (Zij g fo fs):=by
 obtain ⟨to,po,qo⟩:=ho
 obtain ⟨ta,pa,qa⟩:=ha
 refine ⟨_,Zqe PySem.F.plainAttrs_list slot hty hm po pa hbase hfew hline hs hplain,fun σ ρ H α M Q s h q=> ?_⟩
 refine qo σ ρ H α M _ s h (OG.seq q fun x M1 v H1 α1 e1 h1 r1 q1=> ?_)
 by_cases k:ZlI x M1=true
 ·rw[if_pos k] at q1
  exact ⟨ZlJ h1 r1 k,qa σ ρ H1 α1 M1 _ (s.mono e1) h1 (OG.seq q1 fun ds M2 vs H2 α2 e2 h2 r2 q2=>hf H2 α2 M2 v vs x ds Q h2 (Rep.mono e2 r1) r2 q2)⟩
 ·rw[if_neg k] at q1
  exact q1.elim
noncomputable def mApp:Me:=fun x ds M=>match x,ds with
 | .ref n,[d]=>(match M[n]? with | some (.lst xs)=>if xs.length < 10000000 then .ok .non (M.set n (.lst (xs ++ [d]))) else .bad | none=> .bad)
 |_,_=> .bad
theorem ZnD:MO X ξ rAppend mApp:=by
 intro H α M v vs x ds Q h rx rs q
 cases rx with
 | @ref p n hp=>
  match rs with
  | .nil=>exact q.elim
  | .cons _ (.cons _ _)=>exact q.elim
  | .cons (v:=u) (d:=d) ru .nil=>
   cases em:M[n]? with
   |none=>simp only[mApp,em] at q;exact q.elim
   |some so=>
    cases so with
    |lst es=>
     obtain ⟨xs,g1,g2⟩:=h.at hp em
     by_cases c:es.length < 10000000
     ·simp only[mApp,em,if_pos c] at q
      obtain ⟨k1,k2⟩:=h.wrE hp g1 (g2.append (.cons ru .nil))
      exact ⟨p,xs,u,rfl,rfl,g1,by rw[g2.length];exact Nat.lt_of_lt_of_le c (by decide),q _ _ α k1 k2 .non⟩
     ·simp only[mApp,em,if_neg c] at q
      exact q.elim
 |_=>cases rs<;>exact q.elim
noncomputable def Zr4:Me:=fun x ds M=>match x,ds with
 | .ref n,[]=>(match M[n]? with | some (.lst _)=> .ok .non (M.set n (.lst [])) | none=> .bad)
 |_,_=> .bad
noncomputable def Zr5:Me:=fun x ds M=>match x,ds with
 | .ref n,[.ref m]=>(match M[n]?,M[m]? with | some (.lst xs),some (.lst ys)=>if xs.length + ys.length<=10000000 then .ok .non (M.set n (.lst (xs ++ ys))) else .bad | _,_=> .bad)
 |_,_=> .bad
theorem Zb5 (ho:DE X ξ o fo) (ha:DE X ξ e fa) (hbase:attributeBase o "append" X.env (eval o X.env)=eval o X.env:=by rfl)
  (hfew:((backTo cpos (starEach [e] X.env)).all (fun x=> !x.1) && (backToKw cpos (keywordEach [] X.env)).all (fun x=>x.1.isSome)
   && decide ([e].length + ([]:List Keyword).length + (if ([]:List Keyword).isEmpty then 0 else 1) < 30))=true:=by rfl)
  (hline:(apos.endLine == cpos.line)=true:=by rfl) (hs:starEach [e] X.env=(false,eval e X.env) :: starEach [] X.env:=by rfl) (hplain:(backTo cpos (starEach [] X.env)).any (·.1)=false:=by rfl):
  DE X ξ (.Call (.Attribute o "append" apos) [e] [] cpos) (Zij mApp fo (Zc fa aNil)):=ZnC PySem.F.slot_list_append PySem.F.type_list_append Zfe ZnD ho (Za ha Zd hs) hbase hfew hline hs hplain
noncomputable def DO (X:Cx) (ξ:XK) (e:Option Expr) (f:Ro->Sto->Out (Option Int)):Prop:= ∃ t:TO,PO X e t/\ ∀ σ ρ H α M (Q:Option Int->Hp->Prop),SR X.K H α σ ρ->HR X.K H α M->OG X.K (fun _ _ v d=>v=d) H α ξ Q (f ρ M)->t σ H Q
noncomputable def oNo:Ro->Sto->Out (Option Int):=fun _ M=> .ok none M
noncomputable def oSo (f:Ev):Ro->Sto->Out (Option Int):=fun ρ M=>(f ρ M).bind fun x M1=>match x with | .int i=> .ok (some i) M1 | _=> .bad
theorem Zbw:DO X ξ none oNo:=⟨_,Zlo,fun σ ρ H α M Q s h q=>q none H α Ext.refl h rfl⟩
theorem Zbx (ha:DE X ξ e fa):DO X ξ (some e) (oSo fa):=by
 obtain ⟨ta,pa,qa⟩:=ha
 refine ⟨_,Zlp pa,fun σ ρ H α M Q s h q=> ?_⟩
 refine qa σ ρ H α M _ s h (OG.seq q fun x M1 v H1 α1 e1 h1 r1 q1=> ?_)
 cases r1 with
 |int i=>exact ⟨i,rfl,q1 (some i) H1 α1 Ext.refl h1 rfl⟩
 |_=>exact q1.elim
noncomputable def Zga (xs:List D) (lo hi:Option Int):List D:=(xs.drop (HT.sIx xs.length 0 lo)).take (HT.sIx xs.length xs.length hi - HT.sIx xs.length 0 lo)
theorem Reps.drop {K:PySem.W.Frag} {H:Hp} {α:List Addr}: ∀ (n:Nat) {vs:List V} {ds:List D},Reps K H α vs ds->Reps K H α (vs.drop n) (ds.drop n)
 |0,_,_,h=>h
 |_ + 1,_,_,.nil=> .nil
 |n + 1,_,_,.cons _ t=>Reps.drop n t
theorem Reps.take {K:PySem.W.Frag} {H:Hp} {α:List Addr}: ∀ (n:Nat) {vs:List V} {ds:List D},Reps K H α vs ds->Reps K H α (vs.take n) (ds.take n)
 |0,_,_,_=> .nil
 |_ + 1,_,_,.nil=> .nil
 |n + 1,_,_,.cons r t=> .cons r (Reps.take n t)
theorem Reps.cut {K:PySem.W.Frag} {H:Hp} {α:List Addr} {vs:List V} {ds:List D} (r:Reps K H α vs ds) (lo hi:Option Int):Reps K H α (Zku vs lo hi) (Zga ds lo hi):=by
 unfold Zku Zga
 rw[r.length]
 exact (r.drop _).take _
noncomputable def eSl (f:Ev) (lo hi:Ro->Sto->Out (Option Int)):Ev:=fun ρ M=>(f ρ M).bind fun x M1=>(lo ρ M1).bind fun l M2=>(hi ρ M2).bind fun u M3=>match x with
 | .ref n=>(match M3[n]? with | some (.lst xs)=> .ok (.ref M3.length) (M3 ++ [.lst (Zga xs l u)]) | none=> .bad)
 | .rol xs=> .ok (.ref M3.length) (M3 ++ [.lst (Zga xs l u)])
 | .tup xs=>if HT.sIx xs.length 0 l=0/\HT.sIx xs.length xs.length u=xs.length then .bad else .ok (.tup (Zga xs l u)) M3
 |_=> .bad
theorem Zby {lo hi:Option Expr} {fl fh:Ro->Sto->Out (Option Int)} {p2:Pos} (he:DE X ξ e fa) (hl:DO X ξ lo fl) (hh:DO X ξ hi fh):DE X ξ (.Subscript e (.Slice lo hi none p2) pos) (eSl fa fl fh):=by
 obtain ⟨ta,pa,qa⟩:=he
 obtain ⟨tl,pl,ql⟩:=hl
 obtain ⟨th,ph,qh⟩:=hh
 refine ⟨_,Zjz (SlR.or Zlv Znd) pa pl ph,fun σ ρ H α M Q s h q=> ?_⟩
 refine qa σ ρ H α M _ s h (OG.seq q fun x M1 v H1 α1 e1 h1 r1 q1=> ?_)
 refine ql σ ρ H1 α1 M1 _ (s.mono e1) h1 (OG.seq q1 fun l M2 l' H2 α2 e2 h2 r2 q2=> ?_)
 refine qh σ ρ H2 α2 M2 _ ((s.mono e1).mono e2) h2 (OG.seq q2 fun u M3 u' H3 α3 e3 h3 r3 q3=> ?_)
 cases r2
 cases r3
 cases Rep.mono e3 (Rep.mono e2 r1) with
 | @ref p n hp=>
  cases em:M3[n]? with
  |none=>simp only[em] at q3;exact q3.elim
  |some so=>
   cases so with
   |lst es=>
    simp only[em] at q3
    obtain ⟨xs,g1,g2⟩:=h3.at hp em
    exact .inl ⟨p,xs,rfl,SqL.of g1,fun a ha=>q3 _ _ (α3 ++ [a]) (Ext.new ha) (h3.new ha (g2.cut l u)) (.ref ⟨h3.last a,Kn.lst ZJ⟩)⟩
 | @rol p xs ds hp rp=>
  have q4:OP X.K H3 α3 ξ Q (.ok (.ref M3.length) (M3 ++ [.lst (Zga ds l u)])):=q3
  exact .inl ⟨p,xs,rfl,hp.sq,fun a ha=>q4 _ _ (α3 ++ [a]) (Ext.new ha) (h3.new ha (rp.cut l u)) (.ref ⟨h3.last a,Kn.lst ZJ⟩)⟩
 | @tup p xs ds hp rp=>
  by_cases c:HT.sIx ds.length 0 l=0/\HT.sIx ds.length ds.length u=ds.length
  ·simp only[if_pos c] at q3
   exact q3.elim
  ·simp only[if_neg c] at q3
   exact .inr ⟨p,xs,rfl,(SqT.of hp),by rw[rp.length];exact c,fun a ha=>q3 _ _ α3 (Ext.new0 ha) (h3.tup ha) (.tup ZJ (Reps.mono (Ext.new0 ha) (rp.cut l u)))⟩
 |_=>exact q3.elim
noncomputable def ZpO (M:Sto) (x:D):Option (List D):=match x with | .con _=>none | y=>Zer M y
theorem Zik {M:Sto} {x:D} {ys:List D} (e:ZpO M x=some ys):Zer M x=some ys/\ ∀ zs,x≠ .con zs:=by
 cases x with
 |con _=>cases e
 |_=>exact ⟨e,fun _ z=>by cases z⟩
noncomputable def bTup:List D->Sto->Out D:=fun ds M=>match ds with
 | [x]=>match ZpO M x with | some xs=> .ok (.tup xs) M | none=> .bad
 |_=> .bad
theorem Zek:CO X ξ (fun xs H Q=> ∃ p ys,xs=[.ref p]/\((SqL X.K H p ys/\ ∀ l,H l=none->Q (.ref l) (upd H l (.tup ys)))\/(SqT X.K H p ys/\Q (.ref p) H))) bTup:=by
 intro H α M vs ds Q h rs q
 unfold bTup at q
 match rs with
 | .nil=>exact q.elim
 | .cons _ (.cons _ _)=>exact q.elim
 | .cons (d:=x) r .nil=>
  cases e:ZpO M x with
  |none=>simp only[e] at q;exact q.elim
  |some ys=>
   simp only[e] at q
   obtain ⟨p,xs,rfl,h2,h3⟩:=ZjI h r (Zik e).1 (Zik e).2
   rcases h2 with h2 | h2
   ·exact ⟨p,xs,rfl,.inl ⟨h2,fun l hl=>q _ _ α (Ext.new0 hl) (h.tup hl) (.tup ZJ (Reps.mono (Ext.new0 hl) h3))⟩⟩
   ·exact ⟨p,xs,rfl,.inr ⟨SqT.of h2,q _ H α Ext.refl h (.tup h2 h3)⟩⟩
noncomputable def iR2 (fs:Av):Ro->Sto->Out Src:=fun ρ M=>(fs ρ M).bind fun ds M1=>match ds with
 | [.int i,.int j]=>if -(2 ^ 62)<=i/\i < 2 ^ 62/\ -(2 ^ 62)<=j/\j < 2 ^ 62 then .ok (.pur (ZcK i (j - i).toNat)) M1 else .bad
 |_=> .bad
end
noncomputable def eRv (f:Ev):Ev:=fun ρ M=>(f ρ M).bind fun x M1=>match x with
 | .tup xs=> .ok (.tup xs.reverse) M1
 | .ref n=>(match M1[n]? with | some (.lst xs)=> .ok (.ref M1.length) (M1 ++ [.lst xs.reverse]) | none=> .bad)
 | .rol xs=> .ok (.ref M1.length) (M1 ++ [.lst xs.reverse])
 |_=> .bad
end DL
end
section
namespace DL
open PySem PySem.Spec PyProof.Rows L2
noncomputable def Zgb (tg:Tg) (g:Sv) (src:Src):Nat->Nat->Ro->Sto->Fl
 |f,i,ρ,M=>match nxt src i M with
  |none=> .bad
  |some none=> .nx ρ M
  |some (some d)=>(match f with
   |0=> .bad
   |f + 1=>(match tg d ρ with
    |none=> .bad
    |some ρ1=>(match g ρ1 M with
     | .nx ρ2 M2=>Zgb tg g src f (i + 1) ρ2 M2
     | .cnt ρ2 M2=>Zgb tg g src f (i + 1) ρ2 M2
     | .brk ρ2 M2=> .nx ρ2 M2
     |o=>o)))
noncomputable def Zdt (tg:Tg) (fi:Ro->Sto->Out Src) (g:Sv):Sv:=fun ρ M=>Zba (fi ρ M) fun src M1=>Zgb tg g src (cnt src M1) 0 ρ M1
section
variable {X:Cx} {ξ:XK} {tg iter a b:Expr} {gt:Tg} {fi:Ro->Sto->Out Src} {g:Sv} {body:List Stmt} {f fa fb:Ev} {fs:Av} {p pos:Pos}
theorem Zb6 (hp:PassesOwn (model X.prog X.w) X.A X.env X.xe) (hi:DI X ξ tg iter fi) (hg:DG X tg gt) (hb:DSs X ξ body g) (hf: ∀ x,foldedSetIterable iter X.env x=pure x:=by intro _;rfl):DS X ξ (.For tg iter body [] pos) (Zdt gt fi g):=by
 obtain ⟨wi,pi,qi⟩:=hi
 obtain ⟨tt,pt,qt⟩:=hg
 obtain ⟨tb,pb,qb⟩:=hb
 refine ⟨_,ZhI hp pi pt pb hf,fun σ ρ H α M Dn s hh w=>qi σ ρ H α M _ s hh (FP.seq w fun src M1 J H1 α1 e1 h1 sc w1=> ?_)⟩
 generalize eo:Zgb gt g src (cnt src M1) 0 ρ M1=o at w1
 refine ⟨fun i m σ' H'=> ∃ ρ' α' M',Ext X.K H1 H' α1 α'/\SR X.K H' α' σ' ρ'/\HR X.K H' α' M'/\Zgb gt g src m i ρ' M'=o,⟨cnt src M1,ρ,α1,M1,Ext.refl,s.mono e1,h1,eo⟩,?_⟩
 rintro i m σ' H' ⟨ρ',α',M',ex,sr,hr,en⟩
 have s5:=sc i H' α' M' ex hr
 unfold Zgb at en
 cases en1:nxt src i M' with
 |none=>rw[en1] at en;cases en;exact w1.elim
 |some od=>
  rw[en1] at en s5
  cases od with
  |none=>cases en;exact .inl ⟨s5,w1 σ' H' α' ex hr sr⟩
  |some d=>
   obtain ⟨go,yl⟩:=s5
   cases m with
   |zero=>cases en;exact w1.elim
   |succ m=>
    simp only at en
    refine .inr ⟨go,fun σ2 H2=> ∃ ρ' α' M',Ext X.K H1 H2 α1 α'/\SR X.K H2 α' σ2 ρ'/\HR X.K H2 α' M'/\Zgb gt g src m (i + 1) ρ' M'=o,fun σ2 H2 z=>⟨m,Nat.lt_succ_self m,z⟩,fun x H2 y=> ?_⟩
    obtain ⟨ex7,hr7,rp7⟩:=yl x H2 y
    exact ZjL (tg:=tg) w1 qt qb (ex.trans ex7) (sr.mono ex7) hr7 rp7 en (fun σ' H' z=>z)
end
theorem Zil {X:Cx} {pins:List (Addr × Obj)} {σ:L2.St} {H:Hp} {s:Shared} {h':Heap} {t':Nat} {ch:List Addr} (I:Inv X pins σ H s) (k: ∀ b o,b ∉ ch->s.heap.get? b=some o->h'.get? b=some o) (hf: ∀ b∈ch,Ze6 X pins H b):Inv X pins σ H { s with heap:=h',toks:=t' }:=by
 have nit: ∀ b u,H b=some u->b ∉ ch:=fun b u e z=>by rw[(hf b z).1] at e;cases e
 have hL:X.env.locals ∉ ch:=fun z=>(hf _ z).2.1 rfl
 refine I.step (g':=s.gens) (d':=s.drawn) (ch:=ch) (fun b hb=> ?_) (fun b o _ _ hc e _=>k b o hc e) (fun b o _ _ hc e _=>⟨o.slots,k b o hc e⟩) (fun _ _ _ _ n=>n)
  (fun b o hc e=>⟨o,k b o hc e⟩) (fun _ _ e=>e) (fun _ _ _ e=>e) (fun b ps e=>⟨#[],by rw[e];simp⟩) (fun m hm=> ?_) (fun b u e=> ?_) I.bare
 ·obtain ⟨_,z1,_,z3,z4,z5⟩:=hf b hb
  exact ⟨z3,z1,z4,z5⟩
 ·obtain ⟨o,es,ep,ho,r⟩:=hm
  exact ⟨o,es,ep,k _ o hL ho,r⟩
 ·refine (I.hok b u e).stay (fun c v hc q=>k c v ?_ q) (fun _ q=>q) fun _ _ q=>q
  rcases hc with z | z
  ·rw[z];exact nit b u e
  ·exact nit c _ z
theorem ZkI {X:Cx} {pins:List (Addr × Obj)} {σ:L2.St} {H:Hp} {s:Shared} {h':Heap} {t':Nat} {ch:List Addr} {vs:List V} {us:List Value} (I:Inv X pins σ H s) (hf: ∀ b∈ch,Ze6 X pins H b) (hlt: ∀ b∈ch,b < s.heap.objs.size) (rv:Zam vs us) (hz:vs.length<=sizeLine)
  (k: ∀ b o,b ∉ ch->s.heap.get? b=some o->h'.get? b=some o) (ht:h'.get? s.heap.objs.size=some { cls:= .type "tuple",data:= .seq us.toArray }):
  Inv X pins σ (upd H s.heap.objs.size (.tup vs)) { s with heap:=h',toks:=t' }/\H s.heap.objs.size=none/\ ∀ b∈ch,upd H s.heap.objs.size (.tup vs) b=none:=by
 have fr:H s.heap.objs.size=none:=I.hok.fresh (Nat.le_refl _)
 have hn: ∀ b∈ch,upd H s.heap.objs.size (.tup vs) b=none:=fun b hb=>by rw[Z1 (Nat.ne_of_lt (hlt b hb))];exact (hf b hb).1
 have I1:Inv X pins σ (upd H s.heap.objs.size (.tup vs)) { s with heap:=s.heap.push { cls:= .type "tuple",data:= .seq us.toArray },toks:=t' }:=
  I.laid (t':=t') (o:= .tup vs) (fun _ _ q=>Heap.get?_push_of_some _ q) (Nat.le_refl _) ⟨hz,us,rv,_,Heap.get?_push_size _ rfl,rfl,_,rfl⟩
 refine ⟨Zil (s:={ s with heap:=s.heap.push { cls:= .type "tuple",data:= .seq us.toArray },toks:=t' }) (t':=t') (ch:=ch) I1 (fun b o hb e=> ?_) (fun b hb=>⟨hn b hb,(hf b hb).2⟩),fr,hn⟩
 by_cases c:b=s.heap.objs.size
 ·subst c
  have e':(s.heap.push { cls:= .type "tuple",data:= .seq us.toArray }).get? s.heap.objs.size=some o:=e
  rw[Heap.get?_push_size _ rfl] at e'
  cases e'
  exact ht
 ·refine k b o hb ?_
  have e':(s.heap.push { cls:= .type "tuple",data:= .seq us.toArray }).get? b=some o:=e
  have hl:b < s.heap.objs.size:=by
   have q:b < s.heap.objs.size + 1:=by
    have z:=Heap.lt_size e'
    rwa [Heap.size_push] at z
   exact Nat.lt_of_le_of_ne (Nat.le_of_lt_succ q) c
  have q:(s.heap.push { cls:= .type "tuple",data:= .seq us.toArray }).get? b=s.heap.get? b:=by
   unfold Heap.get? Heap.push
   simp only[Array.getElem?_push]
   rw[if_neg (Nat.ne_of_lt hl)]
  rwa [q] at e'
noncomputable def Ite (K:PySem.W.Frag) (a:Addr):It:=
 ⟨fun i H=> ∃ xs x,SqL K H a xs/\xs[i]?=some x,fun i H y H'=> ∃ p,H p=none/\y= .ref p/\ ∀ xs x,SqL K H a xs->xs[i]?=some x->H'=upd H p (.tup [.int i,x]),fun i H=> ∃ xs,SqL K H a xs/\xs.length<=i⟩
noncomputable def Itz (K:PySem.W.Frag) (a b:Addr):It:=
 ⟨fun i H=> ∃ xs ys x y,SqL K H a xs/\SqL K H b ys/\xs[i]?=some x/\ys[i]?=some y,fun i H v H'=> ∃ p,H p=none/\v= .ref p/\ ∀ xs ys x y,SqL K H a xs->SqL K H b ys->xs[i]?=some x->ys[i]?=some y->H'=upd H p (.tup [x,y]),
  fun i H=> ∃ xs ys,SqL K H a xs/\SqL K H b ys/\(xs.length<=i\/ys.length<=i)⟩
theorem Zim {P:Program} {w:World} {K:PySem.W.Frag} {B:Around} {elts:List Expr} {k0:Nat} {tp:Pos} (hB:B.handled=none) (a e it:Addr) (hne:e≠it):
  Turn P w K B (.Tuple elts k0 tp) (Ite K a) [e,it] e (fun i h=>(∃ old,IsEnum h e it (i:Int) old)/\h.IsListIter it a i) where
 mem:=by simp
 obj:=fun i h st b hb=>by
  obtain ⟨⟨old,h1⟩,o,e2,c2,d2⟩:=st
  rcases List.mem_cons.mp hb with z | z
  ·subst z;exact ⟨_,h1,fun v z=>by cases z⟩
  ·have z':b=it:=by simpa using z
   subst z'
   exact ⟨o,e2,fun v z=>by rw[d2] at z;cases z⟩
 keep:=fun i h h' st k=>⟨let ⟨old,z⟩:=st.1;⟨old,k e (by simp) _ z⟩,st.2.at fun o z=>k it (by simp) o z⟩
 item:=by
  intro X hP hw hK hA i pins s σ H E I hf st hg
  subst hP hw hK hA
  obtain ⟨⟨old,h1⟩,h2⟩:=st
  obtain ⟨xs,x,hq,hx⟩:=hg
  obtain ⟨its,rv,p,hz⟩:=I.list hq
  obtain ⟨u,hu,ru⟩:=rv.get hx
  have lt: ∀ b∈[e,it],b < s.heap.objs.size:=fun b hb=>by
   rcases List.mem_cons.mp hb with z | z
   ·subst z;exact Heap.lt_size h1
   ·have z':b=it:=by simpa using z
    subst z'
    obtain ⟨o,e2,_⟩:=h2
    exact Heap.lt_size e2
  refine wpAny_pyNext_enum_item h1 h2 p.isList (x:=u) (by simpa using hu) hne fun h' o1 o2 o3 o4 o5=>⟨_,rfl,?_⟩
  refine wpAny_letOwnedTupleGo_enum (s:={ s with heap:=h',toks:=s.toks + 1 }) o1 fun h'' q1 q2=> ?_
  have pe:s.heap.objs.size≠e:=Nat.ne_of_gt (lt e (by simp))
  have ie:it≠e:=Ne.symm hne
  obtain ⟨J1,J2,J3⟩:=ZkI (h':=h'') (t':=s.toks + 1) (ch:=[e,it]) (vs:=[.int i,x]) (us:=[.int i s.toks,u]) I hf lt (.cons ⟨_,rfl⟩ (.cons ru .nil)) (by show 2<=sizeLine;decide)
   (fun b o hb z=>by
    have n1:b≠e:=fun y=>hb (by simp[y])
    have n2:b≠it:=fun y=>hb (by simp[y])
    exact (q2.2 b n1).trans (o5 b o n1 n2 z)) ((q2.2 _ pe).trans o3)
  refine ⟨.ref s.heap.objs.size,_,J1,rfl,⟨_,J2,rfl,fun ys y hy hy2=> ?_⟩,⟨⟨u,by simpa using q1⟩,o2.at fun o z=>(q2.2 it ie).trans z⟩,J3⟩
  rw[I.list_inj hy hq,hx] at hy2
  cases hy2
  rfl
 done:=by
  intro X hP hw hK hA i pins s σ H E I hf st hg
  subst hP hw hK hA
  obtain ⟨⟨old,h1⟩,h2⟩:=st
  obtain ⟨xs,hq,hx⟩:=hg
  obtain ⟨its,rv,p,hz⟩:=I.list hq
  obtain ⟨f0,f1,f2,f3,f4,f5⟩:=hf it (by simp)
  refine wpAny_pyNext_enum_end hB h1 h2 p.isList (by simp only[List.getElem?_toArray];exact List.getElem?_eq_none (by rw[<- rv.length];exact hx)) fun h' ext=>⟨rfl,?_⟩
  exact I.turned (t':=s.toks) (it:=it) (fun b o hb z=>ext b o hb z) f0 f1 f3 f4 f5
 self:=fun A i s Q E st q=>by
  obtain ⟨⟨old,h1⟩,_⟩:=st
  have hT:s.TypeIs (.ref e) "enumerate":=⟨_,h1,rfl⟩
  refine wpAny_pyIter_slot hT F.slot_enumerate_iter (wpAny_call_entry F.slot_enumerate_iter hT F.entry_enumerate_iter ?_ (F.args_enumerate_iter_1 _))
  show wpAny _ _ (ret (.ref e)) _ _ s
  exact wpAny_pure ⟨_,rfl,"enumerate",_,hT,F.slot_enumerate_next.lookup,q⟩
theorem ZjO {P:Program} {w:World} {K:PySem.W.Frag} {B:Around} {elts:List Expr} {k0:Nat} {tp:Pos} (hB:B.handled=none) {z TI TO i1 i2 a b:Addr} (D:ZipApart z TI TO i1 i2 a b):
  Turn P w K B (.Tuple elts k0 tp) (Itz K a b) [z,TI,TO,i1,i2] z (fun i h=>IsZip h z TI TO .none/\IsPair h TI (.ref i1) (.ref i2)/\(∃ x y,IsPair h TO x y)/\h.IsListIter i1 a i/\h.IsListIter i2 b i) where
 mem:=by simp
 obj:=fun i h st c hc=>by
  obtain ⟨h1,h2,⟨x,y,h3⟩,⟨o4,e4,c4,d4⟩,⟨o5,e5,c5,d5⟩⟩:=st
  simp only[List.mem_cons,List.not_mem_nil,or_false] at hc
  rcases hc with rfl | rfl | rfl | rfl | rfl
  ·exact ⟨_,h1,fun v q=>by cases q⟩
  ·exact ⟨_,h2,fun v q=>by cases q⟩
  ·exact ⟨_,h3,fun v q=>by cases q⟩
  ·exact ⟨o4,e4,fun v q=>by rw[d4] at q;cases q⟩
  ·exact ⟨o5,e5,fun v q=>by rw[d5] at q;cases q⟩
 keep:=fun i h h' st k=>by
  obtain ⟨h1,h2,⟨x,y,h3⟩,h4,h5⟩:=st
  exact ⟨k z (by simp) _ h1,k TI (by simp) _ h2,⟨x,y,k TO (by simp) _ h3⟩,h4.at fun o q=>k i1 (by simp) o q,h5.at fun o q=>k i2 (by simp) o q⟩
 item:=by
  intro X hP hw hK hA i pins s σ H E I hf st hg
  subst hP hw hK hA
  obtain ⟨h1,h2,⟨x0,y0,h3⟩,h4,h5⟩:=st
  obtain ⟨xs,ys,x,y,hq,hq2,hx,hy⟩:=hg
  obtain ⟨its,rv,p,hz⟩:=I.list hq
  obtain ⟨its2,rv2,p2,hz2⟩:=I.list hq2
  obtain ⟨u,hu,ru⟩:=rv.get hx
  obtain ⟨u2,hu2,ru2⟩:=rv2.get hy
  have lt: ∀ c∈[z,TI,TO,i1,i2],c < s.heap.objs.size:=fun c hc=>by
   simp only[List.mem_cons,List.not_mem_nil,or_false] at hc
   rcases hc with rfl | rfl | rfl | rfl | rfl
   ·exact Heap.lt_size h1
   ·exact Heap.lt_size h2
   ·exact Heap.lt_size h3
   ·obtain ⟨o,e2,_⟩:=h4;exact Heap.lt_size e2
   ·obtain ⟨o,e2,_⟩:=h5;exact Heap.lt_size e2
  refine wpAny_pyNext_zip_item D h1 h2 h3 h4 h5 p.isList p2.isList (x:=u) (y:=u2) (by simpa using hu) (by simpa using hu2) fun h' o1 o2 o3 o4 o5 o6 o7=>⟨_,rfl,?_⟩
  refine wpAny_letOwnedTupleGo_zip (s:={ s with heap:=h' }) o1 fun h'' q1 q2=> ?_
  have pe:s.heap.objs.size≠z:=Nat.ne_of_gt (lt z (by simp))
  obtain ⟨J1,J2,J3⟩:=ZkI (h':=h'') (t':=s.toks) (ch:=[z,TI,TO,i1,i2]) (vs:=[x,y]) (us:=[u,u2]) I hf lt (.cons ru (.cons ru2 .nil)) (by show 2<=sizeLine;decide)
   (fun c o hc q=>by
    simp only[List.mem_cons,List.not_mem_nil,or_false,not_or] at hc
    exact (q2.2 c hc.1).trans (o7 c o hc.1 hc.2.2.1 hc.2.2.2.1 hc.2.2.2.2 q)) ((q2.2 _ pe).trans o5)
  refine ⟨.ref s.heap.objs.size,_,J1,rfl,⟨_,J2,rfl,fun xs' ys' x' y' hx1 hy1 hx2 hy2=> ?_⟩,⟨q1,(q2.2 TI D.TIz).trans (o7 TI _ D.TIz D.TITO D.TIi1 D.TIi2 h2),⟨u,u2,(q2.2 TO D.TOz).trans o2⟩,o3.at fun o q=>(q2.2 i1 D.i1z).trans q,o4.at fun o q=>(q2.2 i2 D.i2z).trans q⟩,J3⟩
  rw[I.list_inj hx1 hq,hx] at hx2
  rw[I.list_inj hy1 hq2,hy] at hy2
  cases hx2
  cases hy2
  rfl
 done:=by
  intro X hP hw hK hA i pins s σ H E I hf st hg
  subst hP hw hK hA
  obtain ⟨h1,h2,⟨x0,y0,h3⟩,h4,h5⟩:=st
  obtain ⟨xs,ys,hq,hq2,hx⟩:=hg
  obtain ⟨its,rv,p,hz⟩:=I.list hq
  obtain ⟨its2,rv2,p2,hz2⟩:=I.list hq2
  have he:its.toArray[i]?=none\/its2.toArray[i]?=none:=by
   rcases hx with hx | hx
   ·exact .inl (by simp only[List.getElem?_toArray];exact List.getElem?_eq_none (by rw[<- rv.length];exact hx))
   ·exact .inr (by simp only[List.getElem?_toArray];exact List.getElem?_eq_none (by rw[<- rv2.length];exact hx))
  refine wpAny_pyNext_zip_end hB D h1 h2 h3 h4 h5 p.isList p2.isList he fun h' keep=>⟨rfl,?_⟩
  refine Zil (t':=s.toks) (ch:=[z,TI,TO,i1,i2]) I (fun c o hc q=> ?_) hf
  simp only[List.mem_cons,List.not_mem_nil,or_false,not_or] at hc
  exact keep c o hc.1 hc.2.2.1 hc.2.2.2.1 hc.2.2.2.2 q
 self:=fun A i s Q E st q=>wpAny_pyIter_zip st.1 q
theorem ZnE {n a b:Nat} (h1:a < n) (h2:b < n):ZipApart (n + 4) (n + 2) (n + 3) n (n + 1) a b:=⟨Nat.ne_of_lt (by omega),Nat.ne_of_lt (by omega),Nat.ne_of_lt (by omega),Nat.ne_of_lt (by omega),Nat.ne_of_lt (by omega),Nat.ne_of_gt (by omega),Nat.ne_of_gt (by omega),Nat.ne_of_gt (by omega),Nat.ne_of_gt (by omega),Nat.ne_of_lt (by omega),Nat.ne_of_lt (by omega),Nat.ne_of_lt (by omega),Nat.ne_of_lt (by omega),Nat.ne_of_lt (by omega),Nat.ne_of_lt (by omega),Nat.ne_of_lt (by omega),Nat.ne_of_lt (by omega),Nat.ne_of_lt (by omega)⟩
theorem ZnF:bootBuiltins "zip"=some (.type "zip"):=by decide +kernel
theorem Zfq:bootBuiltins "enumerate"=some (.type "enumerate"):=by decide +kernel
section
variable {X:Cx} {ξ:XK} {a b:Expr} {elts:List Expr} {k0:Nat} {tp:Pos} {fa:Ev} {fs:Av} {p pos:Pos} {ta:TA}
noncomputable def Zqj (K:PySem.W.Frag) (t:TA):TI:=fun σ H R=>t σ H fun vs H1=> ∃ l xs,vs=[.ref l]/\SqL K H1 l xs/\R (Ite K l) H1
noncomputable def Zth (K:PySem.W.Frag) (t:TA):TI:=fun σ H R=>t σ H fun vs H1=> ∃ l l2 xs ys,vs=[.ref l,.ref l2]/\SqL K H1 l xs/\SqL K H1 l2 ys/\R (Itz K l l2) H1
theorem ZlK (hc:X.A.handled=none) (hg:Gl X "enumerate") (hm:X.mg "enumerate"=none) (ha:PA X [a] ta) (hs:starEach [a] X.env=(false,eval a X.env) :: starEach [] X.env:=by rfl) (hpl:(backTo pos (starEach [] X.env)).any (·.1)=false:=by rfl):
  PI X (.Tuple elts k0 tp) (.Call (.Name "enumerate" p) [a] [] pos) (Zqj X.K ta):=by
 intro pins s σ H R I h
 refine wpAny_Call_Name_kw (ZcE I hg hm Zfq (PyProof.Rows.callWith_type1 (thn (ha pos pins s σ H _ I h) fun us s1 ⟨vs,H1,I1,r1,q1⟩=> ?_) hs hpl) (by decide) (by decide))
 obtain ⟨l,xs,rfl,hq,q⟩:=q1
 obtain ⟨u,rfl,ru⟩:=ZcV r1
 cases ru
 obtain ⟨its,rv,pl,hz⟩:=I1.list hq
 refine call_enumerate_list pl.isList fun h' e1 e2 e3 e4=> ?_
 have T:=Zim (P:=X.prog) (w:=X.w) (K:=X.K) (B:=X.A) (elts:=elts) (k0:=k0) (tp:=tp) hc l (s1.heap.objs.size + 1) s1.heap.objs.size (Nat.ne_of_gt (Nat.lt_succ_self _))
 have I2:Inv X pins σ H1 { s1 with heap:=h',toks:=s1.toks }:=I1.kept (t':=s1.toks) e4
 refine T.self X.A 0 { s1 with heap:=h' } _ _ ⟨⟨_,e1⟩,e2⟩ ⟨_,_,_,_,H1,rfl,I2,T,⟨⟨_,e1⟩,e2⟩,fun b hb=> ?_,q⟩
 have hb':s1.heap.objs.size<=b:=by
  simp only[List.mem_cons,List.not_mem_nil,or_false] at hb
  rcases hb with rfl | rfl<;>omega
 exact I1.fpOk hb' (I1.hok.fresh hb')
theorem ZnG (hc:X.A.handled=none) (hg:Gl X "zip") (hm:X.mg "zip"=none) (ha:PA X [a,b] ta) (hs:starEach [a,b] X.env=(false,eval a X.env) :: starEach [b] X.env:=by rfl) (hpl:(backTo pos (starEach [b] X.env)).any (·.1)=false:=by rfl):
  PI X (.Tuple elts k0 tp) (.Call (.Name "zip" p) [a,b] [] pos) (Zth X.K ta):=by
 intro pins s σ H R I h
 refine wpAny_Call_Name_kw (ZcE I hg hm ZnF (PyProof.Rows.callWith_type1 (thn (ha pos pins s σ H _ I h) fun us s1 ⟨vs,H1,I1,r1,q1⟩=> ?_) hs hpl) (by decide) (by decide))
 obtain ⟨l,l2,xs,ys,rfl,hq,hq2,q⟩:=q1
 obtain ⟨u,u2,rfl,ru,ru2⟩:=Zjv r1
 cases ru
 cases ru2
 obtain ⟨its,rv,pl,hz⟩:=I1.list hq
 obtain ⟨its2,rv2,pl2,hz2⟩:=I1.list hq2
 have lt1:l < s1.heap.objs.size:=by obtain ⟨_,e,_⟩:=pl.isList;exact Heap.lt_size e
 have lt2:l2 < s1.heap.objs.size:=by obtain ⟨_,e,_⟩:=pl2.isList;exact Heap.lt_size e
 refine call_zip_2 pl.isList pl2.isList fun h' e1 e2 e3 e4 e5 e6 e7=> ?_
 have D:=ZnE lt1 lt2
 have T:=ZjO (P:=X.prog) (w:=X.w) (K:=X.K) (B:=X.A) (elts:=elts) (k0:=k0) (tp:=tp) hc D
 have I2:Inv X pins σ H1 { s1 with heap:=h',toks:=s1.toks }:=I1.kept (t':=s1.toks) e7
 refine T.self X.A 0 { s1 with heap:=h' } _ _ ⟨e1,e2,⟨_,_,e3⟩,e4,e5⟩ ⟨_,_,_,_,H1,rfl,I2,T,⟨e1,e2,⟨_,_,e3⟩,e4,e5⟩,fun c hc=> ?_,q⟩
 have hb':s1.heap.objs.size<=c:=by
  simp only[List.mem_cons,List.not_mem_nil,or_false] at hc
  rcases hc with rfl | rfl | rfl | rfl | rfl<;>omega
 exact I1.fpOk hb' (I1.hok.fresh hb')
noncomputable def iEn (fs:Av):Ro->Sto->Out Src:=fun ρ M=>(fs ρ M).bind fun ds M1=>match ds with | [.ref n]=> .ok (.enu n) M1 | _=> .bad
noncomputable def iZp (fs:Av):Ro->Sto->Out Src:=fun ρ M=>(fs ρ M).bind fun ds M1=>match ds with | [.ref n,.ref m]=> .ok (.zip n m) M1 | _=> .bad
theorem ZdK (hc:X.A.handled=none) (hm:X.mg "enumerate"=none) (ha:DA X ξ [a] fs) (hg:Gl X "enumerate":=by rfl) (hs:starEach [a] X.env=(false,eval a X.env) :: starEach [] X.env:=by rfl) (hpl:(backTo pos (starEach [] X.env)).any (·.1)=false:=by rfl):
  DI X ξ (.Tuple elts k0 tp) (.Call (.Name "enumerate" p) [a] [] pos) (iEn fs):=by
 obtain ⟨ta,pa,qa⟩:=ha
 refine ⟨_,ZlK hc hg hm pa hs hpl,fun σ ρ H α M R s hh q=>qa σ ρ H α M _ s hh (OG.seq q fun ds M1 vs H1 α1 e1 h1 r1 w1=> ?_)⟩
 match r1 with
 | .nil=>exact w1.elim
 | .cons r (.cons _ _)=>cases r<;>exact w1.elim
 | .cons r .nil=>
  cases r with
  | @ref l n hp=>
   obtain ⟨xs0,g0⟩:=h1.some_at hp
   refine ⟨l,xs0,rfl,SqL.of g0,w1 _ H1 α1 Ext.refl h1 fun i H' α' M' ex hr=> ?_⟩
   cases em:M'[n]? with
   |none=>rw[show nxt (.enu n) i M'=none by simp only[nxt,em]];exact True.intro
   |some so=>
    cases so with
    |lst es=>
     obtain ⟨xs,g1,g2⟩:=hr.at (ex.get hp) em
     cases ei:es[i]? with
     |none=>rw[show nxt (.enu n) i M'=some none by simp only[nxt,em,ei]];exact ⟨xs,SqL.of g1,by rw[g2.length];exact List.getElem?_eq_none_iff.mp ei⟩
     |some d=>
      obtain ⟨v,k1,k2⟩:=g2.get ei
      rw[show nxt (.enu n) i M'=some (some (D.tup [D.int i,d])) by simp only[nxt,em,ei]]
      refine ⟨⟨xs,v,SqL.of g1,k1⟩,fun x H'' y=> ?_⟩
      obtain ⟨pp,y1,rfl,y3⟩:=y
      have y4:=y3 xs v (SqL.of g1) k1
      subst y4
      exact ⟨Ext.new0 y1,hr.tup y1,.tup ZJ (.cons (.int i) (.cons (Rep.mono (Ext.new0 y1) k2) .nil))⟩
  |_=>exact w1.elim
theorem Zdf (hc:X.A.handled=none) (hm:X.mg "zip"=none) (ha:DA X ξ [a,b] fs) (hg:Gl X "zip":=by rfl) (hs:starEach [a,b] X.env=(false,eval a X.env) :: starEach [b] X.env:=by rfl) (hpl:(backTo pos (starEach [b] X.env)).any (·.1)=false:=by rfl):
  DI X ξ (.Tuple elts k0 tp) (.Call (.Name "zip" p) [a,b] [] pos) (iZp fs):=by
 obtain ⟨ta,pa,qa⟩:=ha
 refine ⟨_,ZnG hc hg hm pa hs hpl,fun σ ρ H α M R s hh q=>qa σ ρ H α M _ s hh (OG.seq q fun ds M1 vs H1 α1 e1 h1 r1 w1=> ?_)⟩
 split at w1
 ·rename_i n m
  cases r1 with
  |cons r t=>
   cases t with
   |cons r' t=>
    cases t
    cases r with
    |ref hp=>
    cases r' with
    |ref hp2=>
    rename_i l l2
    obtain ⟨xs0,g0⟩:=h1.some_at hp
    obtain ⟨ys0,g0'⟩:=h1.some_at hp2
    refine ⟨l,l2,xs0,ys0,rfl,SqL.of g0,SqL.of g0',w1 _ H1 α1 Ext.refl h1 fun i H' α' M' ex hr=> ?_⟩
    cases em:M'[n]? with
    |none=>rw[show nxt (.zip n m) i M'=none by simp only[nxt,em]];exact True.intro
    |some so=>
     cases em2:M'[m]? with
     |none=>cases so;rw[show nxt (.zip n m) i M'=none by simp only[nxt,em,em2]];exact True.intro
     |some so2=>
      cases so with
      |lst es=>
       cases so2 with
       |lst es2=>
        obtain ⟨xs,g1,g2⟩:=hr.at (ex.get hp) em
        obtain ⟨ys,g3,g4⟩:=hr.at (ex.get hp2) em2
        cases ei:es[i]? with
        |none=>rw[show nxt (.zip n m) i M'=some none by simp only[nxt,em,em2,ei]];exact ⟨xs,ys,SqL.of g1,SqL.of g3,.inl (by rw[g2.length];exact List.getElem?_eq_none_iff.mp ei)⟩
        |some d=>
         cases ej:es2[i]? with
         |none=>rw[show nxt (.zip n m) i M'=some none by simp only[nxt,em,em2,ei,ej]];exact ⟨xs,ys,SqL.of g1,SqL.of g3,.inr (by rw[g4.length];exact List.getElem?_eq_none_iff.mp ej)⟩
         |some d2=>
          obtain ⟨v,k1,k2⟩:=g2.get ei
          obtain ⟨v2,k3,k4⟩:=g4.get ej
          rw[show nxt (.zip n m) i M'=some (some (D.tup [d,d2])) by simp only[nxt,em,em2,ei,ej]]
          refine ⟨⟨xs,ys,v,v2,SqL.of g1,SqL.of g3,k1,k3⟩,fun x H'' y=> ?_⟩
          obtain ⟨pp,y1,rfl,y3⟩:=y
          have y4:=y3 xs ys v v2 (SqL.of g1) (SqL.of g3) k1 k3
          subst y4
          exact ⟨Ext.new0 y1,hr.tup y1,.tup ZJ (.cons (Rep.mono (Ext.new0 y1) k2) (.cons (Rep.mono (Ext.new0 y1) k4) .nil))⟩
 ·exact w1.elim
end
end DL
end
section
namespace DL
open PySem PySem.Spec PyProof.Rows L2
open PySem.SeqAt (EqAt RcAt RcNeAt)
inductive Ks (X:Cx) (H:Hp) (α:List Addr):Kd->Kd->Prop where
 |non:Ks X H α .non .non
 |bl (b:Bool):Ks X H α (.bl b) (.bl b)
 |int (i:Int):Ks X H α (.int i) (.int i)
 |str (x:Str):Ks X H α (.str x) (.str x)
 |tup {vs:List V} {ds es:List D}:Reps X.K H α vs ds->Reps X.K H α vs es->Ks X H α (.tup ds) (.tup es)
 |lst {vs:List V} {ds es:List D}:Reps X.K H α vs ds->Reps X.K H α vs es->Ks X H α (.lst ds) (.lst es)
section
variable {X:Cx} {ξ:XK} {pins:List (Addr × Obj)} {σ:L2.St} {H:Hp} {s:Shared} {α:List Addr} {M:Sto}
theorem ZnH (h:HR X.K H α M) {v:V} {x:D} {k:Kd} (r:Rep X.K H α v x) (e:kd M x=some k):
  (match k with | .tup ds=> ∃ p vs,v= .ref p/\SqT X.K H p vs/\Reps X.K H α vs ds | .lst ds=> ∃ p vs,v= .ref p/\SqL X.K H p vs/\Reps X.K H α vs ds | .non=>v= .non | .bl b=>v= .bl b | .int i=>v= .int i | .str x=>v= .str x):=by
 cases r with
 |non=>cases e;rfl
 |bl b=>cases e;rfl
 |int i=>cases e;rfl
 |str x=>cases e;rfl
 |err _ _ _=>cases e
 |dk _=>cases e
 |dt _=>cases e
 |fn _=>cases e
 | @tup p xs ds hp rp=>cases e;exact ⟨p,xs,rfl,(SqT.of hp),rp⟩
 | @con p xs ds hp rp=>cases e;exact ⟨p,xs,rfl,hp.sq,rp⟩
 | @rol p xs ds hp rp=>cases e;exact ⟨p,xs,rfl,hp.sq,rp⟩
 | @ref p n hp=>
  cases e1:M[n]? with
  |none=>simp only[kd,e1] at e;cases e
  |some o=>
   cases o with
   |lst ds=>
    simp only[kd,e1] at e
    cases e
    obtain ⟨xs,g1,r1⟩:=h.at hp e1
    exact ⟨p,xs,rfl,SqL.of g1,r1⟩
theorem Zin (I:Inv X pins σ H s) (h:HR X.K H α M) {v:V} {x y:D} {k l:Kd} (rx:Rep X.K H α v x) (ry:Rep X.K H α v y) (ex:kd M x=some k) (ey:kd M y=some l):Ks X H α k l:=by
 have a:=ZnH h rx ex
 have b:=ZnH h ry ey
 have nl: ∀ {p:Addr} {xs ys:List V},SqT X.K H p xs->SqL X.K H p ys->False:=fun {p xs ys} a c=>by
  obtain ⟨i1,_,⟨o1,g1,c1,_⟩,_⟩:=I.tuple a
  obtain ⟨i2,_,⟨o2,_,g2,c2,_⟩,_⟩:=I.list c
  rw[g1] at g2
  cases g2
  rw[c1] at c2
  exact absurd c2 (by decide)
 cases k with
 |non=>cases a;cases l<;>first | (cases b;done) | exact .non | (obtain ⟨_,_,q,_⟩:=b;cases q)
 |bl c=>cases a;cases l<;>first | (cases b;done) | (cases b;exact .bl c) | (obtain ⟨_,_,q,_⟩:=b;cases q)
 |int c=>cases a;cases l<;>first | (cases b;done) | (cases b;exact .int c) | (obtain ⟨_,_,q,_⟩:=b;cases q)
 |str c=>cases a;cases l<;>first | (cases b;done) | (cases b;exact .str c) | (obtain ⟨_,_,q,_⟩:=b;cases q)
 |tup ds=>
  obtain ⟨p,vs,rfl,q1,q2⟩:=a
  cases l with
  |tup es=>
   obtain ⟨p2,vs2,e2,q3,q4⟩:=b
   cases e2
   cases I.tuple_inj q1 q3
   exact .tup q2 q4
  |lst es=>
   obtain ⟨p2,vs2,e2,q3,q4⟩:=b
   cases e2
   exact (nl q1 q3).elim
  |_=>cases b
 |lst ds=>
  obtain ⟨p,vs,rfl,q1,q2⟩:=a
  cases l with
  |lst es=>
   obtain ⟨p2,vs2,e2,q3,q4⟩:=b
   cases e2
   cases I.list_inj q1 q3
   exact .lst q2 q4
  |tup es=>
   obtain ⟨p2,vs2,e2,q3,q4⟩:=b
   cases e2
   exact (nl q3 q1).elim
  |_=>cases b
theorem ZkJ (I:Inv X pins σ H s) (h:HR X.K H α M): ∀ (n:Nat) {v w:V} {x x' y y':D} {b b':Bool},Rep X.K H α v x->Rep X.K H α v x'->Rep X.K H α w y->Rep X.K H α w y'->eqF n M x y=some b->eqF n M x' y'=some b'->b=b':=by
 intro n
 induction n with
 |zero=>intro v w x x' y y' b b' _ _ _ _ e;simp only[eqF] at e;cases e
 |succ n ih=>
  have lists: ∀ (vs ws:List V) (xs xs' ys ys':List D) (b b':Bool),Reps X.K H α vs xs->Reps X.K H α vs xs'->Reps X.K H α ws ys->Reps X.K H α ws ys'->eqL (eqF n M) xs ys=some b->eqL (eqF n M) xs' ys'=some b'->b=b':=by
   intro vs
   induction vs with
   |nil=>
    intro ws xs xs' ys ys' b b' r1 r2 r3 r4 e e'
    cases r1;cases r2
    cases r3 with
    |nil=>cases r4;simp only[eqL,Option.some.injEq] at e e';rw[<- e,<- e']
    |cons _ _=>cases r4;simp only[eqL,Option.some.injEq] at e e';rw[<- e,<- e']
   |cons v vs iv=>
    intro ws xs xs' ys ys' b b' r1 r2 r3 r4 e e'
    cases r1 with
    |cons p1 t1=>
     cases r2 with
     |cons p2 t2=>
      cases r3 with
      |nil=>cases r4;simp only[eqL,Option.some.injEq] at e e';rw[<- e,<- e']
      |cons p3 t3=>
       cases r4 with
       |cons p4 t4=>
        rename_i d1 ds1 d2 ds2 w d3 ws ds3 d4 ds4
        cases a1:eqF n M d1 d3 with
        |none=>simp only[eqL,a1] at e;cases e
        |some a=>
         cases a2:eqF n M d2 d4 with
         |none=>simp only[eqL,a2] at e';cases e'
         |some a'=>
          cases c1:eqL (eqF n M) ds1 ds3 with
          |none=>simp only[eqL,a1,c1] at e;cases e
          |some c=>
           cases c2:eqL (eqF n M) ds2 ds4 with
           |none=>simp only[eqL,a2,c2] at e';cases e'
           |some c'=>
            simp only[eqL,a1,c1,Option.some.injEq] at e
            simp only[eqL,a2,c2,Option.some.injEq] at e'
            rw[<- e,<- e',ih p1 p2 p3 p4 a1 a2,iv _ _ _ _ _ _ _ t1 t2 t3 t4 c1 c2]
  intro v w x x' y y' b b' rx rx' ry ry' e e'
  unfold eqF at e e'
  cases k1:kd M x with
  |none=>rw[k1] at e;cases e
  |some ka=>
   cases k2:kd M y with
   |none=>rw[k1,k2] at e;cases e
   |some kb=>
    cases k3:kd M x' with
    |none=>rw[k3] at e';cases e'
    |some ka'=>
     cases k4:kd M y' with
     |none=>rw[k3,k4] at e';cases e'
     |some kb'=>
      rw[k1,k2] at e
      rw[k3,k4] at e'
      have s1:=Zin I h rx rx' k1 k3
      have s2:=Zin I h ry ry' k2 k4
      cases s1 with
      |tup a1 a2=>
       cases s2 with
       |tup b1 b2=>simp only[eqK] at e e';exact lists _ _ _ _ _ _ _ _ a1 a2 b1 b2 e e'
       |_=>simp only[eqK,Option.some.injEq] at e e';rw[<- e,<- e']
      |lst a1 a2=>
       cases s2 with
       |lst b1 b2=>
        simp only[eqK] at e e'
        rw[<- a1.length,<- b1.length] at e
        rw[<- a2.length,<- b2.length] at e'
        split at e
        ·rename_i c
         rw[if_pos c] at e'
         exact lists _ _ _ _ _ _ _ _ a1 a2 b1 b2 e e'
        ·rename_i c
         rw[if_neg c] at e'
         cases e;cases e';rfl
       |_=>simp only[eqK,Option.some.injEq] at e e';rw[<- e,<- e']
      |_=>cases s2<;>(simp only[eqK,Option.some.injEq] at e e';rw[<- e,<- e'])
noncomputable def eqs (M:Sto) (d:D):List D->Option (List Bool)
 | []=>some []
 |x :: r=>match eqF 12 M x d with | some b=>(match eqs M d r with | some bs=>some (b :: bs) | none=>none) | none=>none
theorem Zio: ∀ {M:Sto} {d:D} {xs:List D} {bs:List Bool},eqs M d xs=some bs->bs.length=xs.length
 |_,_,[],_,e=>by cases e;rfl
 |M,d,x :: r,bs,e=>by
  cases e1:eqF 12 M x d with
  |none=>simp only[eqs,e1] at e;cases e
  |some b=>
   cases e2:eqs M d r with
   |none=>simp only[eqs,e1,e2] at e;cases e
   |some cs=>simp only[eqs,e1,e2,Option.some.injEq] at e;subst e;rw[List.length_cons,List.length_cons,Zio e2]
theorem Zip: ∀ {M:Sto} {d:D} {xs:List D} {bs:List Bool} {i:Nat} {x:D},eqs M d xs=some bs->xs[i]?=some x-> ∃ b,bs[i]?=some b/\eqF 12 M x d=some b
 |_,_,[],_,i,x,e,hx=>by simp at hx
 |M,d,y :: r,bs,i,x,e,hx=>by
  cases e1:eqF 12 M y d with
  |none=>simp only[eqs,e1] at e;cases e
  |some b=>
   cases e2:eqs M d r with
   |none=>simp only[eqs,e1,e2] at e;cases e
   |some cs=>
    simp only[eqs,e1,e2,Option.some.injEq] at e
    subst e
    cases i with
    |zero=>simp at hx;subst hx;exact ⟨b,rfl,e1⟩
    |succ i=>simp at hx;obtain ⟨b',q1,q2⟩:=Zip e2 hx;exact ⟨b',by simpa using q1,q2⟩
open Classical in
theorem ZlL {A:Around} (hu:A.units + 64 < cLine) (I:Inv X pins σ H s) (h:HR X.K H α M) {vs:List V} {ds:List D} {us:List Value} {v:V} {d:D} {u:Value} {bs:List Bool} (rv:Zam vs us) (rp:Reps X.K H α vs ds) (ru:Zax v u) (rd:Rep X.K H α v d) (e:eqs M d ds=some bs):
  ∃ f:Value->Bool,(∀ y,y∈us.toArray->EqAt A.in1 s y u (f y))/\us.map f=bs:=by
 have ll:us.length=ds.length:=by rw[<- rv.length,rp.length]
 have at_: ∀ (i:Nat) y,us[i]?=some y-> ∃ w x b,Zax w y/\Rep X.K H α w x/\bs[i]?=some b/\eqF 12 M x d=some b:=fun i y hy=>by
  have hi:i < ds.length:=by rw[<- ll];exact (List.getElem?_eq_some_iff.mp hy).1
  obtain ⟨w,a1,a2⟩:=rp.get (List.getElem?_eq_getElem hi)
  obtain ⟨y',a3,a4⟩:=rv.get a1
  rw[hy] at a3
  cases a3
  obtain ⟨b,a5,a6⟩:=Zip e (List.getElem?_eq_getElem hi)
  exact ⟨w,_,b,a4,a2,a5,a6⟩
 refine ⟨fun y=>decide (∃ w x,Zax w y/\Rep X.K H α w x/\eqF 12 M x d=some true),fun y hy=> ?_,?_⟩
 ·obtain ⟨i,hi,ey⟩:=List.getElem_of_mem (by simpa using hy)
  obtain ⟨w,x,b,q1,q2,q3,q4⟩:=at_ i y (by rw[List.getElem?_eq_getElem hi,ey])
  have hb:decide (∃ w x,Zax w y/\Rep X.K H α w x/\eqF 12 M x d=some true)=b:=by
   cases b with
   |true=>exact decide_eq_true ⟨w,x,q1,q2,q4⟩
   |false=>
    refine decide_eq_false fun ⟨w',x',z1,z2,z3⟩=> ?_
    cases Zax.inj z1 q1
    have:=ZkJ I h 12 z2 q2 rd rd z3 q4
    cases this
  show EqAt A.in1 s y u (decide (∃ w x,Zax w y/\Rep X.K H α w x/\eqF 12 M x d=some true))
  rw[hb]
  exact (eq3 I h 12 x d w v y u b A.in1 (by rw[Around.in1_units];omega) q4 q2 rd q1 ru).1
 ·apply List.ext_getElem?
  intro i
  rw[List.getElem?_map]
  cases hy:us[i]? with
  |none=>
   have:bs[i]?=none:=List.getElem?_eq_none (by rw[Zio e,<- ll];exact List.getElem?_eq_none_iff.mp hy)
   rw[this]
   rfl
  |some y=>
   obtain ⟨w,x,b,q1,q2,q3,q4⟩:=at_ i y hy
   rw[q3]
   show some _=some b
   congr 1
   cases b with
   |true=>exact decide_eq_true ⟨w,x,q1,q2,q4⟩
   |false=>
    refine decide_eq_false fun ⟨w',x',z1,z2,z3⟩=> ?_
    cases Zax.inj z1 q1
    have:=ZkJ I h 12 z2 q2 rd rd z3 q4
    cases this
end
section
variable {X:Cx} {ξ:XK}
noncomputable def inE (x y:D) (M:Sto):Option Bool:=match Zer M y with | some ds=>(match eqs M x ds with | some bs=>some (bs.any id) | none=>none) | none=>none
noncomputable def Zr6:Bo:=fun x y M=>match inE x y M with | some b=> .ok (.bl b) M | none=> .bad
noncomputable def Ziq:Bo:=fun x y M=>match inE x y M with | some b=> .ok (.bl (!b)) M | none=> .bad
noncomputable def ZnI (X:Cx):V->List V->Hp->VK->Prop:=fun v vs H Q=> ∃ α M d ds bs p xs u j,HR X.K H α M/\v= .ref p/\vs=[u]/\Rep X.K H α u d/\SqL X.K H p xs/\Reps X.K H α xs ds/\eqs M d ds=some bs/\bs.findIdx? id=some j/\Q (.int (j:Nat)) H
theorem ZnJ (hu:X.A.units + 64 < cLine):MtR X "list.index" (ZnI X):=by
 intro pins s σ H x vs v us Q I rx rv hh
 obtain ⟨α,M,d,ds,bs,p,xs,u,j,h,e1,e2,rd,hq,rp,e,ej,q⟩:=hh
 subst e1 e2
 cases rx
 obtain ⟨uv,rfl,ru⟩:=ZcV rv
 obtain ⟨its,r,pl,hz⟩:=I.list hq
 obtain ⟨f,f1,f2⟩:=ZlL (A:=X.A) hu I h r rp ru rd e
 obtain ⟨⟨cls,dd,data,sl⟩,ho,hc,n,hd⟩:=pl.isList
 simp only at hc hd
 subst hc hd
 obtain ⟨jl,j1,j2⟩:=List.findIdx?_eq_some_iff_getElem.mp ej
 have lb:bs.length=its.length:=by rw[<- f2,List.length_map]
 have at_: ∀ (m:Nat) (hm:m < its.length),bs[m]?=some (f its[m]):=fun m hm=>by rw[<- f2,List.getElem?_map,List.getElem?_eq_getElem hm];rfl
 have hj:j < its.toArray.size:=by rw[List.size_toArray,<- lb];exact jl
 have hit:f its.toArray[j]=true:=by
  have:=at_ j (by rw[<- lb];exact jl)
  rw[List.getElem?_eq_getElem jl] at this
  have:=Option.some.inj this
  simp only[List.getElem_toArray]
  rw[<- this]
  exact j1
 have hno: ∀ m (hm:m < its.toArray.size),m < j->f its.toArray[m]=false:=fun m hm hmj=>by
  have hm':m < its.length:=by simpa using hm
  have:=at_ m hm'
  rw[List.getElem?_eq_getElem (by omega)] at this
  have:=Option.some.inj this
  simp only[List.getElem_toArray]
  rw[<- this]
  simpa using j2 m hmj
 have hs:(j:Int) < 2 ^ 63 - 1:=by
  have h1:j < its.length:=by rw[<- lb];exact jl
  have h2:its.length<=sizeLine:=by rw[<- r.length];exact hz
  have h3:sizeLine < 2 ^ 62:=by decide
  omega
 refine call_meets F.slot_list_index ⟨_,ho,rfl⟩ F.entry_list_index (F.args_list_index_2 _ _) (SeqAt.list_indexAt p its.toArray n dd sl uv f j hj hs hit hno) ⟨ho,f1,?_⟩
 exact ⟨.int (j:Nat),H,I.tok _,⟨_,rfl⟩,q⟩
noncomputable def mIdx:Me:=fun x ds M=>match x,ds with
 | .ref n,[d]=>(match M[n]? with | some (.lst xs)=>(match eqs M d xs with | some bs=>(match bs.findIdx? id with | some j=> .ok (.int (j:Nat)) M | none=> .bad) | none=> .bad) | none=> .bad)
 |_,_=> .bad
noncomputable def Zti:Me:=fun x ds M=>match x,ds with
 | .ref n,[d]=>(match M[n]? with | some (.lst xs)=>(match eqs M d xs with | some bs=> .ok (.int (bs.countP id:Nat)) M | none=> .bad) | none=> .bad)
 |_,_=> .bad
theorem ZnK:MO X ξ (ZnI X) mIdx:=by
 intro H α M v vs x ds Q h rx rs q
 cases rx with
 | @ref p n hp=>
  match rs with
  | .nil=>exact q.elim
  | .cons _ (.cons _ _)=>exact q.elim
  | .cons (v:=u) (d:=d) ru .nil=>
   cases em:M[n]? with
   |none=>simp only[mIdx,em] at q;exact q.elim
   |some so=>
    cases so with
    |lst es=>
     cases e2:eqs M d es with
     |none=>simp only[mIdx,em,e2] at q;exact q.elim
     |some bs=>
      cases e3:bs.findIdx? id with
      |none=>simp only[mIdx,em,e2,e3] at q;exact q.elim
      |some j=>
       simp only[mIdx,em,e2,e3] at q
       obtain ⟨xs,g1,g2⟩:=h.at hp em
       exact ⟨α,M,d,es,bs,p,xs,u,j,h,rfl,rfl,ru,SqL.of g1,g2,e2,e3,q _ H α Ext.refl h (.int _)⟩
 |_=>cases rs<;>exact q.elim
noncomputable def Zcp:List D->Option (List Int)
 | []=>some []
 | .int b :: r=>match Zcp r with | some bs=>some (b :: bs) | none=>none
 |_ :: _=>none
theorem ZgK {K:PySem.W.Frag} {H:Hp} {α:List Addr}: ∀ {vs:List V} {ds:List D} {bs:List Int},Reps K H α vs ds->Zcp ds=some bs->vs=bs.map V.int
 |_,_,_,.nil,e=>by cases e;rfl
 |_,_,bs,.cons (d:=d) (ds:=ds) r t,e=>by
  cases r with
  |int b=>
   cases e1:Zcp ds with
   |none=>simp only[Zcp,e1] at e;cases e
   |some cs=>
    simp only[Zcp,e1,Option.some.injEq] at e
    subst e
    rw[ZgK t e1]
    rfl
  |_=>cases e
noncomputable def Zg8 (X:Cx) (g:List Int->Option V):List V->Hp->VK->Prop:=fun vs H Q=> ∃ (p:Addr) (ns:List Int) (v:V),vs=[.ref p]/\SqL X.K H p (ns.map V.int)/\g ns=some v/\Q v H
theorem ZdH: ∀ {ns:List Int} {us:List Value} {i:Nat} {u:Value},Zam (ns.map V.int) us->us[i]?=some u-> ∃ t,u= .int (ns.getD i 0) t
 | [],us,i,u,h,e=>by cases h;simp at e
 |b :: r,us,i,u,h,e=>by
  cases h with
  |cons h1 h2=>
   cases i with
   |zero=>simp at e;subst e;exact h1
   |succ i=>simp at e;obtain ⟨t,g⟩:=ZdH h2 e;exact ⟨t,by simpa using g⟩
theorem Zfr (hc:X.calm=true) {pins:List (Addr × Obj)} {σ:L2.St} {H:Hp} {s:Shared} {p:Addr} {ns:List Int} (I:Inv X pins σ H s) (hl:SqL X.K H p (ns.map V.int)) {Q:Value->Shared->Prop} {E:Value->Shared->Prop}
  (q: ∀ (its:List Value) (it:Addr),Zam (ns.map V.int) its->its.length=ns.length->it=s.heap.objs.size->Walks X.prog X.w X.A.in1 it [it,p] [it] its.toArray.size (fun i v=>its.toArray[i]?=some v) (fun i h=>h.IsListIter it p i/\h.IsList p its.toArray)->
   (∀ b∈[it,p],b < (s.heap.push { cls:= .type "list_iterator",data:= .fields #[.ref p,.int 0 0] }).objs.size)->((s.heap.push { cls:= .type "list_iterator",data:= .fields #[.ref p,.int 0 0] }).IsListIter it p 0/\(s.heap.push { cls:= .type "list_iterator",data:= .fields #[.ref p,.int 0 0] }).IsList p its.toArray)->
   (∀ h' tk,(∀ b o,b ∉ [it]->(s.heap.push { cls:= .type "list_iterator",data:= .fields #[.ref p,.int 0 0] }).get? b=some o->h'.get? b=some o)->Inv X pins σ H { s with heap:=h',toks:=tk })->Q (.ref it) { s with heap:=s.heap.push { cls:= .type "list_iterator",data:= .fields #[.ref p,.int 0 0] } }):
  wpAny (model X.prog X.w) X.A.in1 (pyIter (.ref p)) Q E s:=by
 obtain ⟨its,hv,hp,hz⟩:=I.list hl
 have hlt:p < s.heap.objs.size:=by obtain ⟨_,e,_⟩:=hp.isList;exact Heap.lt_size e
 refine wpAny_pyIter_list hp.isList ?_
 refine q its s.heap.objs.size hv (by rw[<- hv.length,List.length_map]) rfl (Walks.list (A:=X.A.in1) (I.ok.hd hc) _ p (Nat.ne_of_lt hlt) its.toArray) (fun b hb=> ?_) ⟨⟨_,Heap.get?_push_size _ rfl,rfl,rfl⟩,hp.isList.push _⟩ fun h' tk hk=> ?_
 ·rw[Heap.size_push]
  simp only[List.mem_cons,List.not_mem_nil,or_false] at hb
  rcases hb with rfl | rfl
  ·exact Nat.lt_succ_self _
  ·exact Nat.lt_succ_of_lt hlt
 ·exact I.kept fun b o e=>hk b o (fun hm=>by rw[List.mem_singleton.mp hm] at e;exact Nat.lt_irrefl _ (Heap.lt_size e)) (Heap.get?_push_of_some _ e)
noncomputable def ZpP (ns:List Int):Option V:=if ∀ j,j < ns.length->(-(2 ^ 63)<=ns.getD j 0/\ns.getD j 0 < 2 ^ 63)/\ -(2 ^ 63)<=(ns.take (j + 1)).sum/\(ns.take (j + 1)).sum < 2 ^ 63 then some (.int ns.sum) else none
theorem Zcz (ns:List Int): ∀ j,preSum (fun i=>ns.getD i 0) j=(ns.take j).sum
 |0=>rfl
 |j + 1=>by
  show preSum (fun i=>ns.getD i 0) j + ns.getD j 0=_
  rw[Zcz ns j]
  by_cases h:j < ns.length
  ·rw[List.take_succ_eq_append_getElem h,List.sum_append_int]
   simp[h]
  ·rw[List.take_of_length_le (by omega),List.take_of_length_le (by omega)]
   simp[h]
theorem Zfs (hc:X.calm=true):Zcm X (.builtin "sum") (Zg8 X ZpP):=by
 intro pins s σ H vs us Q I rs hh
 obtain ⟨p,ns,v,e,hl,hg,q⟩:=hh
 subst e
 obtain ⟨u,rfl,ru⟩:=ZcV rs
 cases ru
 unfold ZpP at hg
 split at hg
 case isFalse=>cases hg
 rename_i fit
 cases hg
 refine call_sum_walk (Zfr hc I hl fun its it hv hlen ei W hfp st back=> ?_)
 refine ⟨it,_,_,_,_,_,fun i=>ns.getD i 0,rfl,W,st,hfp,fun i v hP=>ZdH hv (by simpa using hP),fun j hj=> ?_,fun h' tk t' hk=>⟨.int ns.sum,H,back h' tk hk,⟨t',?_⟩,q⟩⟩
 ·have hj':j < ns.length:=by rw[List.size_toArray,hlen] at hj;exact hj
  obtain ⟨a,b⟩:=fit j hj'
  exact ⟨a,by rw[Zcz];exact b⟩
 ·rw[Zcz,List.size_toArray,hlen,List.take_length]
theorem ZpQ {ns:List Int} (h:0 < ns.length):ns.max?=some (ns.getD (argBest (fun i j=>decide (ns.getD i 0 > ns.getD j 0)) (ns.length - 1)) 0):=by
 obtain ⟨h1,h2⟩:=argBest_gt (fun i=>ns.getD i 0) (ns.length - 1)
 refine List.max?_eq_some_iff.mpr ⟨?_,fun b hb=> ?_⟩
 ·have hl:argBest (fun i j=>decide (ns.getD i 0 > ns.getD j 0)) (ns.length - 1) < ns.length:=by omega
  rw[List.getD_eq_getElem?_getD,List.getElem?_eq_getElem hl]
  exact List.getElem_mem hl
 ·obtain ⟨j,hj,rfl⟩:=List.getElem_of_mem hb
  have:=h2 j (by omega)
  rwa [show ns.getD j 0=ns[j] by rw[List.getD_eq_getElem?_getD,List.getElem?_eq_getElem hj];rfl] at this
theorem ZjP {ns:List Int} (h:0 < ns.length):ns.min?=some (ns.getD (argBest (fun i j=>decide (ns.getD i 0 < ns.getD j 0)) (ns.length - 1)) 0):=by
 obtain ⟨h1,h2⟩:=argBest_lt (fun i=>ns.getD i 0) (ns.length - 1)
 refine List.min?_eq_some_iff.mpr ⟨?_,fun b hb=> ?_⟩
 ·have hl:argBest (fun i j=>decide (ns.getD i 0 < ns.getD j 0)) (ns.length - 1) < ns.length:=by omega
  rw[List.getD_eq_getElem?_getD,List.getElem?_eq_getElem hl]
  exact List.getElem_mem hl
 ·obtain ⟨j,hj,rfl⟩:=List.getElem_of_mem hb
  have:=h2 j (by omega)
  rwa [show ns.getD j 0=ns[j] by rw[List.getD_eq_getElem?_getD,List.getElem?_eq_getElem hj];rfl] at this
noncomputable def ZpR (ns:List Int):Option V:=ns.min?.map V.int
theorem Zir (hc:X.calm=true):Zcm X (.builtin "min") (Zg8 X ZpR):=by
 intro pins s σ H vs us Q I rs hh
 obtain ⟨p,ns,v,e,hl,hg,q⟩:=hh
 subst e
 obtain ⟨u,rfl,ru⟩:=ZcV rs
 cases ru
 have hn:0 < ns.length:=by cases ns with | nil=>cases hg | cons _ _=>simp
 unfold ZpR at hg
 rw[ZjP hn] at hg
 cases hg
 refine call_min_walk (Zfr hc I hl fun its it hv hlen ei W hfp st back=> ?_)
 refine ⟨it,_,_,_,_,_,_,rfl,W,st,hfp,by rw[List.size_toArray,hlen];exact hn,CmpOf.ints_lt (fun i=>ns.getD i 0) (fun i v hP=>ZdH hv (by simpa using hP)),fun v h' tk hP hk=>⟨_,H,back h' tk hk,?_,q⟩⟩
 rw[List.size_toArray,hlen] at hP
 exact ZdH hv (by simpa using hP)
noncomputable def Zev (g:List Int->Option Int):List D->Sto->Out D:=fun ds M=>match ds with
 | [x]=>(match Zer M x with | some xs=>(match x with | .con _=> .bad | .tup _=> .bad | _=>(match Zcp xs with | some ns=>(match g ns with | some i=> .ok (.int i) M | none=> .bad) | none=> .bad)) | none=> .bad)
 |_=> .bad
theorem Zis {g:List Int->Option Int} {gV:List Int->Option V} (hg: ∀ ns i,g ns=some i->gV ns=some (.int i)):CO X ξ (Zg8 X gV) (Zev g):=by
 intro H α M vs ds Q h rs q
 unfold Zev at q
 match rs with
 | .nil=>exact q.elim
 | .cons _ (.cons _ _)=>exact q.elim
 | .cons (d:=x) r .nil=>
  have fin: ∀ (p:Addr) (xs:List V) (ys:List D),SqL X.K H p xs->Reps X.K H α xs ys->OP X.K H α ξ Q (match Zcp ys with | some ns=>(match g ns with | some i=> .ok (.int i) M | none=> .bad) | none=> .bad)->Zg8 X gV [.ref p] H Q:=fun p xs ys k1 k2 q=>by
   cases e1:Zcp ys with
   |none=>rw[e1] at q;exact q.elim
   |some ns=>
    cases e2:g ns with
    |none=>simp only[e1,e2] at q;exact q.elim
    |some i=>
     simp only[e1,e2] at q
     have:=ZgK k2 e1
     subst this
     exact ⟨p,ns,.int i,rfl,k1,hg _ _ e2,q _ H α Ext.refl h (.int i)⟩
  cases r with
  | @rol p xs ds hp rp=>exact fin p xs ds hp.sq rp q
  | @ref p n hp=>
   cases em:M[n]? with
   |none=>simp only[Zer,em] at q;exact q.elim
   |some so=>
    cases so with
    |lst es=>
     simp only[Zer,em] at q
     obtain ⟨xs,g1,g2⟩:=h.at hp em
     exact fin p xs es (SqL.of g1) g2 q
  |tup _ _=>exact q.elim
  |con _ _=>exact q.elim
  |_=>exact q.elim
noncomputable def ZpS (ns:List Int):Option Int:=if ∀ j,j < ns.length->(-(2 ^ 63)<=ns.getD j 0/\ns.getD j 0 < 2 ^ 63)/\ -(2 ^ 63)<=(ns.take (j + 1)).sum/\(ns.take (j + 1)).sum < 2 ^ 63 then some ns.sum else none
theorem ZkK:CO X ξ (Zg8 X ZpP) (Zev ZpS):=Zis fun ns i e=>by
 unfold ZpS at e
 unfold ZpP
 split at e
 ·rename_i c;rw[if_pos c];cases e;rfl
 ·cases e
theorem ZlM:CO X ξ (Zg8 X ZpR) (Zev List.min?):=Zis fun ns i e=>by unfold ZpR;rw[e];rfl
theorem ZkL:bootBuiltins "sum"=some (.builtin "sum"):=by decide +kernel
end
end DL
end
section
namespace DL
open PySem PySem.Spec PyProof.Rows L2
section
variable {κ:Type} [DecidableEq κ]
variable {K:PySem.W.Frag} {H H':Hp} {α α':List Addr} {key:κ->D} {dec:D->Option κ}
end
section
variable {X:Cx} {ξ:XK} {H:Hp} {α:List Addr} {M:Sto}
end
section
variable {X:Cx} {ξ:XK} {o i e:Expr} {fo fi f:Ev} {pos pos':Pos}
end
end DL
end
section
namespace DL
open PySem PySem.Spec PyProof.Rows L2
theorem Zgc:bootBuiltins "reversed"=some (.type "reversed"):=by decide +kernel
section
variable {X:Cx} {ξ:XK} {tg a:Expr} {fs:Av} {p pos:Pos} {ta:TA}
noncomputable def iRv (fs:Av):Ro->Sto->Out Src:=fun ρ M=>(fs ρ M).bind fun ds M1=>match ds with | [.ref n]=>(match M1[n]? with | some (.lst xs)=> .ok (.rev n xs.length) M1 | none=> .bad) | _=> .bad
end
end DL
end
section
namespace DL
open PySem PySem.Spec PyProof.Rows L2
section
variable {X:Cx} {ξ:XK} {e e1 e2:Expr} {es:List Expr} {f:Ev} {pos:Pos}
noncomputable def eFm (f:Ev):Ev:=fun ρ M=>(f ρ M).bind fun x M1=>match x with
 | .int i=>if i.natAbs.log2 < 1900 then .ok (.str (Str.ofString (toString i))) M1 else .bad
 | .str y=>if y.length<=100000 then .ok (.str y) M1 else .bad
 |_=> .bad
theorem ZjQ (ha:DE X ξ e f):DE X ξ (.FormattedValue e (-1) none pos) (eFm f):=by
 obtain ⟨ta,pa,qa⟩:=ha
 refine ⟨fun σ H Q=>ta σ H fun x H1=>(∃ i,x= .int i/\i.natAbs.log2 < 1900/\Q (.str (Str.ofString (toString i))) H1)\/ ∃ y,x= .str y/\y.length<=100000/\Q (.str y) H1,fun pins s σ H Q I h=> ?_,fun σ ρ H α M Q s h q=> ?_⟩
 ·refine wpAny_FormattedValue_plain (wpAny_mono (pa pins s σ H _ I h) (fun v s1 ⟨x,H1,I1,r1,q1⟩=> ?_) fun _ _ z=>z)
  rcases q1 with ⟨i,rfl,hi,q⟩ | ⟨y,rfl,hy,q⟩
  ·obtain ⟨t,rfl⟩:=r1
   exact wpAny_formatField_int (by omega) ⟨.str (Str.ofString (toString i)),H1,I1.tok _,⟨_,rfl⟩,q⟩
  ·obtain ⟨t,rfl⟩:=r1
   exact wpAny_formatField_str ⟨.str y,H1,I1,⟨_,rfl⟩,q⟩ ⟨.str y,H1,I1.tok _,⟨_,rfl⟩,q⟩ (Nat.le_trans hy (by rw[sizeLine_eq];decide))
 ·refine qa σ ρ H α M _ s h (OG.seq q fun x M1 v H1 α1 e1 h1 r1 q1=> ?_)
  cases r1 with
  |int i=>
   by_cases hi:i.natAbs.log2 < 1900
   ·simp only[hi,if_true] at q1
    exact .inl ⟨i,rfl,hi,q1 _ H1 α1 Ext.refl h1 (.str _)⟩
   ·simp only[hi,if_false] at q1
    exact q1.elim
  |str y=>
   by_cases hi:y.length<=100000
   ·simp only[hi,if_true] at q1
    exact .inr ⟨y,rfl,hi,q1 _ H1 α1 Ext.refl h1 (.str _)⟩
   ·simp only[hi,if_false] at q1
    exact q1.elim
  |_=>exact q1.elim
noncomputable abbrev Jv:=Str->Ro->Sto->Out Str
noncomputable def PJ (X:Cx) (es:List Expr) (t:L2.St->Hp->Str->(Str->Hp->Prop)->Prop):Prop:=
 ∀ (pins:List (Addr × Obj)) (s:Shared) (σ:L2.St) (H:Hp) (acc:Str) (Q:Str->Hp->Prop),Inv X pins σ H s->t σ H acc Q->Joins (model X.prog X.w) X.A X.xe (evalEach es X.env) acc (fun out s1=>out.length<=100000/\ ∃ H',Inv X pins σ H' s1/\Q out H') s
noncomputable def DJ (X:Cx) (ξ:XK) (es:List Expr) (g:Jv):Prop:= ∃ t,PJ X es t/\ ∀ σ ρ H α M acc (Q:Str->Hp->Prop),SR X.K H α σ ρ->HR X.K H α M->OG X.K (fun _ _ v d=>v=d) H α ξ Q (g acc ρ M)->t σ H acc Q
noncomputable def jNil:Jv:=fun acc _ M=>if acc.length<=100000 then .ok acc M else .bad
noncomputable def Zcq (f:Ev) (g:Jv):Jv:=fun acc ρ M=>(f ρ M).bind fun x M1=>match x with
 | .str y=>if (acc ++ y).length<=100000 then g (acc ++ y) ρ M1 else .bad
 |_=> .bad
noncomputable def eFs (g:Jv):Ev:=fun ρ M=>(g Str.empty ρ M).bind fun x M1=> .ok (.str x) M1
theorem Zit:DJ X ξ [] jNil:=by
 refine ⟨fun σ H acc Q=>acc.length<=100000/\Q acc H,fun pins s σ H acc Q I h=>⟨h.1,H,I,h.2⟩,fun σ ρ H α M acc Q s h q=> ?_⟩
 unfold jNil at q
 by_cases hl:acc.length<=100000
 ·rw[if_pos hl] at q
  exact ⟨hl,q acc H α Ext.refl h rfl⟩
 ·rw[if_neg hl] at q
  exact q.elim
theorem ZbF {g:Jv} (ha:DE X ξ e f) (hr:DJ X ξ es g):DJ X ξ (e :: es) (Zcq f g):=by
 obtain ⟨ta,pa,qa⟩:=ha
 obtain ⟨tr,pr',qr⟩:=hr
 refine ⟨fun σ H acc Q=>ta σ H fun x H1=> ∃ y,x= .str y/\(acc ++ y).length<=100000/\tr σ H1 (acc ++ y) Q,fun pins s σ H acc Q I h=> ?_,fun σ ρ H α M acc Q s h q=> ?_⟩
 ·show wpAny _ _ (eval e X.env) _ _ s
  refine wpAny_mono (pa pins s σ H _ I h) (fun v s1 ⟨x,H1,I1,r1,q1⟩=> ?_) fun _ _ z=>z
  obtain ⟨y,rfl,hy,q⟩:=q1
  obtain ⟨t,rfl⟩:=r1
  exact ⟨y,t,rfl,Nat.le_trans hy (by rw[sizeLine_eq];decide),pr' pins s1 σ H1 (acc ++ y) Q I1 q⟩
 ·refine qa σ ρ H α M _ s h (OG.seq q fun x M1 v H1 α1 e1 h1 r1 q1=> ?_)
  cases r1 with
  |str y=>
   by_cases hi:(acc ++ y).length<=100000
   ·simp only[hi,if_true] at q1
    exact ⟨y,rfl,hi,qr σ ρ H1 α1 M1 (acc ++ y) Q (s.mono e1) h1 q1⟩
   ·simp only[hi,if_false] at q1
    exact q1.elim
  |_=>exact q1.elim
theorem ZlN {g:Jv} (h:DJ X ξ (e1 :: e2 :: es) g):DE X ξ (.JoinedStr (e1 :: e2 :: es) pos) (eFs g):=by
 obtain ⟨t,pj,qj⟩:=h
 refine ⟨fun σ H Q=>t σ H Str.empty fun x H1=>Q (.str x) H1,fun pins s σ H Q I h=> ?_,fun σ ρ H α M Q s h q=> ?_⟩
 ·refine wpAny_JoinedStr ?_
  have:=pj pins s σ H Str.empty _ I h
  have mono: ∀ (ms:List (Sem Value)) (acc:Str) (P R:Str->Shared->Prop) (s:Shared),(∀ o s,P o s->R o s)->Joins (model X.prog X.w) X.A X.xe ms acc P s->Joins (model X.prog X.w) X.A X.xe ms acc R s:=by
   intro ms
   induction ms with
   |nil=>intro acc P R s hp hj;exact hp _ _ hj
   |cons m r ih=>
    intro acc P R s hp hj
    exact wpAny_mono hj (fun v s1 ⟨y,t,e,l,k⟩=>⟨y,t,e,l,ih _ P R s1 hp k⟩) fun _ _ z=>z
  refine mono _ _ _ _ s (fun o s1 ⟨hl,H',I',q⟩=> ?_) this
  exact ⟨Nat.le_trans hl (by rw[sizeLine_eq];decide),.str o,H',I'.tok _,⟨_,rfl⟩,q⟩
 ·refine qj σ ρ H α M Str.empty _ s h (OG.seq q fun x M1 v H1 α1 e1 h1 r1 q1=> ?_)
  cases r1
  exact q1 _ H1 α1 Ext.refl h1 (.str x)
end
end DL
end
section
namespace DL
open PySem PySem.Spec PyProof.Rows L2
theorem Zg9 {β γ:Type} {o:Out β} {f:β->Sto->Out γ} {g:γ->Sto->Fl}:Zba (o.bind f) g=Zba o fun x M=>Zba (f x M) g:=by cases o<;>rfl
section
variable {X:Cx} {ξ:XK} {tg iter elt:Expr} {ifs:List Expr} {scope:Scope} {cl:List (Str × Addr)} {N:List Str} {k:Nat} {fr:List Nat} {fi:Ro->Sto->Out Src} {gt:Tg} {c:Tv} {f:Ev} {pos:Pos}
theorem ZlO (iv:Nat) {x:Str} {pos' spos:Pos} (hN:X.N.Nodup) (B:Blk X scope cl N k fr) (hi:DI X ξ tg iter fi) (hg: ∀ C fp s H,DG (blk X scope cl N C fp s H) tg gt) (ht: ∀ C fp s H,DC (blk X scope cl N C fp s H) ifs c) (he: ∀ C fp s H,DE (blk X scope cl N C fp s H) E0 elt f)
  (hiv:X.N[iv]?=some x:=by rfl) (hxl:Loc X.env.scope x:=by first | exact Or.inl rfl | exact Or.inr rfl) (hm:X.may iv=true:=by rfl) (hsw:swapsWith (.ListComp elt [⟨tg,iter,ifs,0⟩] scope pos) (some (.Name x pos')) spos.line X.env=pure true:=by rfl) (hf:X.fn x=true\/X.env.scope.names.lookup x=some .local:=by first | exact .inl rfl | exact .inr rfl | assumption)
  (hs: ∀ x,foldedSetIterable iter X.env x=pure x:=by intro _;rfl):DS X ξ (.Assign [.Name x pos'] (.ListComp elt [⟨tg,iter,ifs,0⟩] scope pos) spos) (Z4 (gNm iv) (ZaM fi k fr gt c f)):=by
 obtain ⟨wi,pi,qi⟩:=hi
 refine ⟨fun Dn σ H=> ∃ ρ α M,SR X.K H α σ ρ/\HR X.K H α M/\FP X.K H α ξ Dn (Z4 (gNm iv) (ZaM fi k fr gt c f) ρ M),?_,fun σ ρ H α M Dn s h q=>⟨ρ,α,M,s,h,q⟩⟩
 rintro pins s σ H Dn I ⟨ρ,α,M,sr,hr,op⟩
 rw[exec_Assign_Name_used _ _ _ _ hsw]
 refine wpAny_bind (wpAny_standAt (wpAny_bind ?_))
 show wpAny _ X.A (do let _ <- comprehension (.ListComp elt [⟨tg,iter,ifs,0⟩] scope pos) scope X.env _ (newList []) false (eval iter X.env) (some (assign (.Name x pos') X.env))) _ _ s
 have op:FP X.K H α ξ Dn (Zba (fi ρ M) fun src M1=>Zba (match ZdG src gt c f M1.length (cnt src M1) 0 (roB k fr ρ) (M1 ++ [.lst []]) with | .ok _ M2'=> .ok (.ref M1.length) M2' | _=> .bad) fun d M1=>Fl.nx (ρ.set iv (some d)) M1):=by
  have e:Z4 (gNm iv) (ZaM fi k fr gt c f) ρ M=(Zba (fi ρ M) fun src M1=>Zba (match ZdG src gt c f M1.length (cnt src M1) 0 (roB k fr ρ) (M1 ++ [.lst []]) with | .ok _ M2'=> .ok (.ref M1.length) M2' | _=> .bad) fun d M1=>Fl.nx (ρ.set iv (some d)) M1):=by
   unfold Z4 ZaM
   rw[Zg9]
   rfl
  rw[<- e]
  exact op
 refine wpAny_bind (wpAny_mono (wpAny_comprehension_free (Q:=fun _ s'=>SP X pins Dn .next s') (use:=some (assign (.Name x pos') X.env)) rfl hs B.clos B.kind B.names ?_) (fun _ s' hq=>wpAny_pure (wpAny_pure hq)) fun _ _ e=>e)
 refine thn (pi pins s σ H (fun J H2=> ∃ α2 M2 src,Ext X.K H H2 α α2/\HR X.K H2 α2 M2/\ZmF X.K H2 α2 J src/\FP X.K H2 α2 ξ Dn (Zba (match ZdG src gt c f M2.length (cnt src M2) 0 (roB k fr ρ) (M2 ++ [.lst []]) with | .ok _ M2'=> .ok (.ref M2.length) M2' | _=> .bad) fun d M1=>Fl.nx (ρ.set iv (some d)) M1)) I
  (qi σ ρ H α M _ sr hr (FP.seq op fun src M1 J H1 α1 e1 h1 r1 q1=>⟨α1,M1,src,e1,h1,r1,q1⟩))) fun v s1 w1=>thn w1 fun itv s2 w2=> ?_
 obtain ⟨it,fp,tn,J,H2,rfl,I2,T,st2,f2,α2,M2,src,e2,h2,sc,op2⟩:=w2
 have srI:=sr.mono e2
 refine wpAny_newObj_type ?_
 have I3:Inv X pins σ (upd H2 s2.heap.objs.size (.lst [])) { s2 with heap:=s2.heap.push { cls:= .type "list",data:= .seq ([]:List Value).toArray } }:=I2.lnew (its:=[]) (t':=s2.toks) .nil (Nat.zero_le _)
 have fD:H2 s2.heap.objs.size=none:=I2.fresh
 generalize hD:s2.heap.objs.size=D at I3 fD
 generalize hs3:({ s2 with heap:=s2.heap.push { cls:= .type "list",data:= .seq ([]:List Value).toArray } }:Shared)=s3 at I3
 generalize hH3:upd H2 D (.lst [])=H3 at I3
 have h3:HR X.K H3 (α2 ++ [D]) (M2 ++ [.lst []]):=by rw[<- hH3];exact h2.new fD .nil
 have e3:Ext X.K H2 H3 α2 (α2 ++ [D]):=by rw[<- hH3];exact Ext.new fD
 have aD:RefK H3 (α2 ++ [D]) 0 M2.length D:=⟨h2.last D,by first | exact Kn.lst ZJ | (rw[<- hH3];exact Kn.lst ZJ)⟩
 have lt2: ∀ b∈fp,b < s2.heap.objs.size:=fun b hb=>let ⟨o,e,_⟩:=T.obj _ _ st2 b hb;Heap.lt_size e
 have keep3: ∀ b o,s2.heap.get? b=some o->s3.heap.get? b=some o:=fun b o e=>by rw[<- hs3];exact Heap.get?_push_of_some _ e
 have f3: ∀ b∈fp,Ze6 X pins H3 b:=fun b hb=>⟨by rw[<- hH3,Z1 (by rw[<- hD];exact Nat.ne_of_lt (lt2 b hb))];exact (f2 b hb).1,(f2 b hb).2⟩
 have lt3: ∀ b∈fp,b < s3.heap.objs.size:=fun b hb=>let ⟨o,e,_⟩:=T.obj _ _ st2 b hb;Heap.lt_size (keep3 b o e)
 have st3:tn 0 s3.heap:=T.keep _ _ _ st2 fun b _ o e=>keep3 b o e
 refine wpAny_newFunctionEnv B.cell (by intro y hy;simp at hy) (fun h₁ hns₁ hsb₁=> ?_) B.kind
 have keep4: ∀ b o,s3.heap.get? b=some o->h₁.get? b=some o:=fun b o e=>hsb₁.extBut b o (Nat.ne_of_lt (Heap.lt_size e)) (Heap.get?_push_of_some _ e)
 have I4:=Zii (tk:=s3.toks + ([]:List (Str × Value)).length) B I3 f3 lt3 hns₁ keep4
 have st4:tn 0 h₁:=T.keep _ _ _ st3 fun b _ o e=>keep4 b o e
 have fp5: ∀ {H':Hp},(∀ b∈fp,H' b=none)-> ∀ b∈fp,Ze6 (blk X scope cl N s3.heap.objs.size fp s3 H3) [] H' b:=fun hn b hb=>⟨hn b hb,Nat.ne_of_lt (lt3 b hb),(Zih B I3 f3 lt3).exfs b hb,.inl hb,fun x c h=>(f3 b hb).2.2.2.2.1 x c (B.sub x c h),fun p hp=>(by simp[blk] at hp)⟩
 cases er:ZdG src gt c f M2.length (cnt src M2) 0 (roB k fr ρ) (M2 ++ [.lst []]) with
 |exc x M9=>rw[er] at op2;exact op2.elim
 |bad=>rw[er] at op2;exact op2.elim
 |ok u9 M9=>
  rw[er] at op2
  have loop:codeAny (model X.prog X.w) X.A (.compLoop (.ListComp elt [⟨tg,iter,ifs,0⟩] scope pos) 0 (.ref it) (.ref D) (compEnvC scope cl s3.heap.objs.size X.env)) (compPost (model X.prog X.w) X.A X.xe (some (assign (.Name x pos') X.env)) (fun _ s'=>SP X pins Dn .next s') (.ref D) s3.heap.objs.size) { s3 with heap:=h₁,toks:=s3.toks + ([]:List (Str × Value)).length }:=by
   refine ZgJ (Y:=blk X scope cl N s3.heap.objs.size fp s3 H3) T (fun _ _ z=>z) fp5 (hg _ fp s3 H3) (ht _ fp s3 H3) (he _ fp s3 H3) (fun i H' α' M' ex hr=>sc i H' α' M' (e3.trans ex) hr) aD I4 st4 (fun b hb=>(f3 b hb).1) ((srI.blk).mono e3) h3 er ?_
   intro σ5 H5 α5 s6 I6 ex5 hr5
   obtain ⟨I7,tu⟩:=ZgI B I3 f3 I6
   obtain ⟨m6,hm6,_⟩:=id I6.loc
   refine wpAny_assign_Name (Ze5 (v:= .ref D) I7 hN hiv hxl hm rfl (fun s8 I8 ⟨a,sb8,ha⟩=> ?_) hf)
   have nca:s3.heap.objs.size≠a:=by
    rcases ha with e | e
    ·rw[e];exact Nat.ne_of_gt I3.lt
    ·intro z
     obtain ⟨v,o,e',_⟩:=I3.cell x a e
     exact absurd (Heap.lt_size e') (by rw[<- z];exact Nat.lt_irrefl _)
   exact ⟨m6,hm6.sameBut sb8 nca,fun h' sb=>⟨_,H5,tu _ s8 h' I8 (fun b o hb e=>(sb.2 b hb).trans e),op2 _ H5 α5 (e3.trans ex5) hr5 ((srI.mono (e3.trans ex5)).set iv (.ref (ex5.get aD)))⟩⟩
  exact codeAny_compStart_list loop (T.self X.A 0 _ _ _ st4 loop)
end
end DL
end
section
namespace DL
open PySem PySem.Spec PyProof.Rows L2
noncomputable def Ztj:Bo:=fun x y M=>match x,y with
 | .ref n,.int k=>match M[n]? with
  |some (.lst xs)=>if (-9223372036854775808<=k/\k < 9223372036854775808)/\xs.length * k.toNat<=100000 then .ok (.ref M.length) (M ++ [.lst (List.replicate k.toNat xs).flatten]) else .bad
  |none=> .bad
 |_,_=> .bad
section
variable {X:Cx} {ξ:XK} {a b:Expr} {fa fb:Ev} {pos:Pos}
end
end DL
end
namespace DL
open PySem PySem.Spec L2
open PySem.W
theorem Zha:typeLookup (.type "list_reverseiterator") "__len__"=pure none:=by rw[typeLookup_type,builtinLookup_eq_fast];kernel_rfl
theorem ZjR:typeLookup (.type "list_reverseiterator") "__length_hint__"=pure (some (.builtin "list_reverseiterator.__length_hint__")):=by rw[typeLookup_type,builtinLookup_eq_fast];kernel_rfl
theorem ZlP:isSubtype (.type "list_reverseiterator") (.type "list_reverseiterator")=pure true:=by rw[isSubtype_type];kernel_rfl
theorem Ziu:splitId "list_reverseiterator.__length_hint__"=some ("list_reverseiterator","__length_hint__"):=by decide +kernel
section
variable {prog:Program} {w:World} {A:Around} {E:Value->Shared->Prop} {s:Shared}
theorem ZjS {I:Addr} {Q:Bool->Shared->Prop} (hT:s.TypeIs (.ref I) "list_reverseiterator") (h:Q false s):wpAny (model prog w) A (Builtin.List.listLengthHint (.ref I)) Q E s:=by
 unfold Builtin.List.listLengthHint
 refine wpAny_bind (wpAny_specialOf hT Zha ?_)
 show wpAny _ A (specialOf (Value.ref I) (Str.ofString "__length_hint__") >>= _) _ _ _
 refine wpAny_bind (wpAny_specialOf hT ZjR ?_)
 simp only[Ziu]
 refine wpAny_bind (wpAny_isInstance hT ZlP ?_)
 exact wpAny_pure h
end
section
variable {prog:Program} {w:World} {A:Around} {s:Shared} {R:Result->Shared->Prop}
variable {I:Addr} {fp wr:List Addr} {G:Array GenState->Array GenState->Prop} {n:Nat} {P:Nat->Value->Prop} {St:Nat->Shared->Prop}
theorem Zhb (W:WalksS prog w A.in1 I fp wr G n P St) (hT: ∀ i s,St i s->s.TypeIs (.ref I) "list_reverseiterator") (S:Addr) (res:Value) (c₀:Nat) (hst:St 0 s) (hSf:S ∉ fp) (hI:I∈fp)
  (hS:s.heap.get? S=some { cls:= .type "list",data:= .seq #[] c₀ })
  (hR: ∀ s' acc' c',Moved (S :: wr) G s s'->s'.heap.get? S=some { cls:= .type "list",dict:=none,data:= .seq acc' c',slots:= #[] }->ItemsOf P acc' n->R (.ok (.ret res)) s') (hn:n<=sizeLine):
  wpAny (model prog w) A.in1 (Builtin.List.listExtendWith (.ref S) (.ref I) res)
   (fun fin s'=>match fin with | .done f=>R (.ok f) s' | .again c'=>c'.quiet=true/\codeAny (model prog w) A c' R s') (fun e s'=>R (.error e) s') s:=by
 have hSI:S≠I:=fun e=>hSf (e ▸ hI)
 unfold Builtin.List.listExtendWith
 refine wpAny_bind (wpAny_typeOf (hT 0 _ hst) ?_)
 have h1:Builtin.List.listSameRef (.ref S) (.ref I)=false:=by simp[Builtin.List.listSameRef,hSI]
 have h2:(Value.type "list_reverseiterator" == Value.type "list")=false:=by decide
 have h3:(Value.type "list_reverseiterator" == Value.type "tuple")=false:=by decide
 simp only[h1,h2,h3,Bool.or_false,Bool.false_eq_true,if_false]
 refine wpAny_bind (W.self 0 _ _ _ hst ?_)
 refine wpAny_bind (wpAny_holding ?_)
 refine ZjS (hT 0 _ hst) ?_
 refine wpAny_pure ⟨plainId_quiet F.plain_extend_loop _,codeAny_extend_loopS W hn _ hSf _ n 0 _ _ _ rfl (Nat.zero_le _) hst hS (ItemsOf.nil P) fun s' acc' c' hm hS' hacc=> ?_⟩
 exact hR s' acc' c' hm hS' hacc
theorem Zew (W:WalksS prog w A.in1 I fp wr G n P St) (hT: ∀ i s,St i s->s.TypeIs (.ref I) "list_reverseiterator") (S:Addr) (hst:St 0 s) (hSf:S ∉ fp) (hI:I∈fp)
  (hS:s.heap.get? S=some { cls:= .type "list",data:= .seq #[] })
  (hR: ∀ s' acc' c',Moved (S :: wr) G s s'->s'.heap.get? S=some { cls:= .type "list",dict:=none,data:= .seq acc' c',slots:= #[] }->ItemsOf P acc' n->R (.ok (.ret .none)) s') (hn:n<=sizeLine):
  wpAny (model prog w) A.in1 (Builtin.«list.__init__» ⟨[.ref S,.ref I],[]⟩)
   (fun fin s'=>match fin with | .done f=>R (.ok f) s' | .again c'=>c'.quiet=true/\codeAny (model prog w) A c' R s') (fun e s'=>R (.error e) s') s:=by
 show wpAny _ A.in1 (do let old <- Builtin.List.listItems (.ref S);Builtin.List.listUpdate (.ref S) (fun _=> #[]);letGo old.toList.reverse;Builtin.List.listExtendWith (.ref S) (.ref I) .none) _ _ s
 refine wpAny_bind ?_
 unfold Builtin.List.listItems
 refine wpAny_bind (wpAny_seqItems hS rfl (wpAny_pure ?_))
 show wpAny _ A.in1 (updateSeq S (fun _=> #[]) >>= fun _=>letGo (#[]:Array Value).toList.reverse >>= fun _=>Builtin.List.listExtendWith (.ref S) (.ref I) .none) _ _ s
 refine wpAny_bind (wpAny_updateSeq hS rfl ?_)
 have hS₂:=Heap.get?_update_self (Obj.mapSeq (fun _=>(#[]:Array Value))) hS rfl
 have oth: ∀ b o,b≠S->s.heap.get? b=some o->(s.heap.update S (Obj.mapSeq (fun _=>(#[]:Array Value)))).get? b=some o:=
  fun b o hb e=>(Heap.get?_update_other _ _ (Ne.symm hb)).trans e
 refine wpAny_bind (wpAny_letGo ?_)
 refine Zhb W hT S .none _ (W.frame 0 s _ s.toks hst (Nat.le_refl _) fun b hb o e=>oth b o (fun h=>hSf (h ▸ hb)) e) hSf hI hS₂ (fun s' acc' c' hm hS' hacc=> ?_) hn
 exact hR s' acc' c' (Moved.trans W.gtrans ((Moved.refl W.grefl).then_heap (Nat.le_refl _) fun b o hb e=>oth b o (fun h=>hb (h ▸ List.mem_cons_self)) e) hm) hS' hacc
end
section
variable {prog:Program} {w:World} {A:Around} {E:Value->Shared->Prop} {s:Shared}
variable {I:Addr} {fp wr:List Addr} {G:Array GenState->Array GenState->Prop} {n:Nat} {P:Nat->Value->Prop} {St:Nat->Shared->Prop}
theorem Zex {Q:Value->Shared->Prop} (W:WalksS prog w A.in1.in1 I fp wr G n P St) (hT: ∀ i s,St i s->s.TypeIs (.ref I) "list_reverseiterator") (hst:St 0 s) (hfp: ∀ b∈fp,b < s.heap.objs.size) (hI:I∈fp)
  (hQ: ∀ s' acc' c',Moved (s.heap.objs.size :: wr) G { s with heap:=s.heap.push { cls:= .type "list",data:= .seq #[] } } s'->
   s'.heap.get? s.heap.objs.size=some { cls:= .type "list",dict:=none,data:= .seq acc' c',slots:= #[] }->ItemsOf P acc' n->Q (.ref s.heap.objs.size) s') (hn:n<=sizeLine):
  wpAny (model prog w) A (call (.type "list") [.ref I]) Q E s:=by
 have hSf:s.heap.objs.size ∉ fp:=fun hm=>Nat.lt_irrefl _ (hfp _ hm)
 refine callType_codes (Q₁:=fun obj s₁=>obj= .ref s.heap.objs.size/\s₁={ s with heap:=s.heap.push { cls:= .type "list",data:= .seq #[] } }) F.called_list (F.typeCall_list_1 _) F.entry_list_init
  (code_list_new _ ⟨rfl,rfl⟩) fun obj s₁ h₁=> ?_
 obtain ⟨rfl,rfl⟩:=h₁
 have hS:(s.heap.push { cls:= .type "list",data:= .seq #[] }).get? s.heap.objs.size=some { cls:= .type "list",data:= .seq #[] }:=Heap.get?_push_size _ rfl
 refine ⟨⟨_,hS,rfl⟩,F.args_list_init_2 _ _,Zew W hT _ (W.frame 0 s _ s.toks hst (Nat.le_refl _) fun b _ o e=>Heap.get?_push_of_some _ e) hSf hI hS (fun s' acc' c' hm hS' hacc=> ?_) hn⟩
 exact ⟨rfl,hQ s' acc' c' hm hS' hacc⟩
end
section
variable {X:Cx} {ξ:XK} {a:Expr} {fs:Av} {p1 p2 p3 pos:Pos} {ta:TA}
noncomputable def tLR (K:PySem.W.Frag) (t:TA):TE:=fun σ H Q=>t σ H fun vs H1=> ∃ l xs,vs=[.ref l]/\SqL K H1 l xs/\ ∀ p,H1 p=none->Q (.ref p) (upd H1 p (.lst xs.reverse))
theorem Ziv {its:List Value} {acc:Array Value} (h:ItemsOf (fun i v=>its.toArray[its.toArray.size - 1 - i]?=some v) acc its.toArray.size):acc=its.reverse.toArray:=by
 obtain ⟨hz,hv⟩:=h
 apply Array.ext'
 apply List.ext_getElem?
 intro i
 rw[List.toList_toArray]
 by_cases hi:i < acc.size
 ·have e:acc.toList[i]?=some acc[i]:=by rw[Array.getElem?_toList];exact Array.getElem?_eq_getElem hi
  have:=hv i _ (Array.getElem?_eq_getElem hi)
  rw[e,<- this,List.getElem?_toArray,List.size_toArray,List.getElem?_reverse (by rw[hz,List.size_toArray] at hi;exact hi)]
 ·rw[List.getElem?_eq_none (by rw[Array.length_toList];omega),List.getElem?_eq_none (by rw[hz,List.size_toArray] at hi;rw[List.length_reverse];omega)]
theorem Zqk (hc:X.A.handled=none) (hgl:Gl X "list") (hml:X.mg "list"=none) (hg:Gl X "reversed") (hm:X.mg "reversed"=none) (ha:PA X [a] ta) (hs:starEach [a] X.env=(false,eval a X.env) :: starEach [] X.env:=by rfl) (hpl:(backTo p3 (starEach [] X.env)).any (·.1)=false:=by rfl) (hs1:starEach [.Call (.Name "reversed" p2) [a] [] p3] X.env=(false,eval (.Call (.Name "reversed" p2) [a] [] p3) X.env) :: starEach [] X.env:=by rfl) (hpl1:(backTo pos (starEach [] X.env)).any (·.1)=false:=by rfl):
  PE X (.Call (.Name "list" p1) [.Call (.Name "reversed" p2) [a] [] p3] [] pos) (tLR X.K ta):=by
 intro pins s σ H Q I h
 refine wpAny_Call_Name_kw (ZcE I hgl hml Zaj (PyProof.Rows.callWith_type1 ?_ hs1 hpl1) (by decide) (by decide))
 rw[hs1]
 show wpAny _ _ (spliced ((false,eval (.Call (.Name "reversed" p2) [a] [] p3) X.env) :: backTo pos (starEach [] X.env))) _ _ s
 refine Calls.spliced_cons ?_
 refine wpAny_Call_Name_kw (ZcE I hg hm Zgc (PyProof.Rows.callWith_type1 (thn (ha p3 pins s σ H _ I h) fun us s1 ⟨vs,H1,I1,r1,q1⟩=> ?_) hs hpl) (by decide) (by decide))
 obtain ⟨l,xs,rfl,hq,q⟩:=q1
 obtain ⟨u,rfl,ru⟩:=ZcV r1
 cases ru
 obtain ⟨its,rv,pl,hz⟩:=I1.list hq
 have hll:l < s1.heap.objs.size:=by
  obtain ⟨o,ho,_⟩:=pl.isList
  exact Heap.lt_size ho
 refine call_reversed_list pl.isList (Calls.spliced_nil ?_)
 have W:=(PySem.Walks.listRev (prog:=X.prog) (w:=X.w) (A:=X.A.in1.in1) hc s1.heap.objs.size l (Nat.ne_of_lt hll) its.toArray).toS
 have hsz:its.toArray.size<=sizeLine:=by rw[List.size_toArray,<- rv.length];exact hz
 refine Zex W (fun i s x=>x.2.1.typeIs) ⟨Nat.zero_le _,⟨_,Heap.get?_push_size _ rfl,rfl,?_⟩,?_⟩ ?_ (by simp) (fun s' acc c hmv hS hit=> ?_) hsz
 ·show Data.fields #[.ref l,rawInt ((its.toArray.size:Int) - 1)]=_
  rw[show (its.toArray.size:Int) - 1 - ((0:Nat):Int)=(its.toArray.size:Int) - 1 by omega]
 ·exact pl.isList.at fun o e=>Heap.get?_push_of_some _ e
 ·intro b hb
  have:b=s1.heap.objs.size\/b=l:=by simpa using hb
  have hz2:(s1.heap.push (revObj l ((its.toArray.size:Int) - 1))).objs.size=s1.heap.objs.size + 1:=by simp[Heap.push]
  show b < (s1.heap.push (revObj l ((its.toArray.size:Int) - 1))).objs.size
  rw[hz2]
  rcases this with rfl | rfl
  ·exact Nat.lt_succ_self _
  ·exact Nat.lt_succ_of_lt hll
 ·have ea:=Ziv hit
  subst ea
  have hz2:(s1.heap.push (revObj l ((its.toArray.size:Int) - 1))).objs.size=s1.heap.objs.size + 1:=by simp[Heap.push]
  have K: ∀ b u,s1.heap.get? b=some u->s'.heap.get? b=some u:=by
   intro b u hb
   have hlt:=Heap.lt_size hb
   refine hmv.heap b u ?_ (Heap.get?_push_of_some _ (Heap.get?_push_of_some _ hb))
   intro hmem
   have:b=s1.heap.objs.size + 1\/b=s1.heap.objs.size:=by
    simp only[List.mem_cons,List.not_mem_nil,or_false] at hmem
    rcases hmem with e | e
    ·exact .inl (e.trans hz2)
    ·exact .inr e
   rcases this with e | e
   ·exact absurd (e ▸ hlt) (Nat.not_lt.mpr (Nat.le_succ _))
   ·exact absurd (e ▸ hlt) (Nat.lt_irrefl _)
  have es:s'={ s1 with heap:=s'.heap,toks:=s'.toks }:=by
   obtain ⟨h1,g1,d1,t1,o1⟩:=s1
   obtain ⟨h2,g2,d2,t2,o2⟩:=s'
   have e1:g2=g1:=hmv.gens
   have e2:d2=d1:=hmv.drawn
   have e3:o2=o1:=hmv.os
   subst e1 e2 e3
   rfl
  have hS':s'.heap.get? (s1.heap.objs.size + 1)=some { cls:= .type "list",dict:=none,data:= .seq its.reverse.toArray c,slots:= #[] }:=by
   rw[<- hz2];exact hS
  show EP X pins σ Q (.ref (s1.heap.push (revObj l ((its.toArray.size:Int) - 1))).objs.size) s'
  rw[hz2,es]
  refine ⟨.ref _,_,I1.laid (t':=s'.toks) (o:= .lst xs.reverse) K (Nat.le_succ _) ?_,rfl,q _ (I1.hok.fresh (Nat.le_succ _))⟩
  exact ⟨by rw[List.length_reverse];exact hz,its.reverse,c,rv.reverse,hS'⟩
noncomputable def bLR:List D->Sto->Out D:=fun ds M1=>match ds with
 | [.ref n]=>(match M1[n]? with | some (.lst xs)=> .ok (.ref M1.length) (M1 ++ [.lst xs.reverse]) | none=> .bad)
 | [.rol xs]=> .ok (.ref M1.length) (M1 ++ [.lst xs.reverse])
 |_=> .bad
theorem Zql (hc:X.A.handled=none) (hml:X.mg "list"=none) (hm:X.mg "reversed"=none) (ha:DA X ξ [a] fs) (hgl:Gl X "list":=by rfl) (hg:Gl X "reversed":=by rfl) (hs:starEach [a] X.env=(false,eval a X.env) :: starEach [] X.env:=by rfl) (hpl:(backTo p3 (starEach [] X.env)).any (·.1)=false:=by rfl) (hs1:starEach [.Call (.Name "reversed" p2) [a] [] p3] X.env=(false,eval (.Call (.Name "reversed" p2) [a] [] p3) X.env) :: starEach [] X.env:=by rfl) (hpl1:(backTo pos (starEach [] X.env)).any (·.1)=false:=by rfl):
  DE X ξ (.Call (.Name "list" p1) [.Call (.Name "reversed" p2) [a] [] p3] [] pos) (Zk bLR fs):=by
 obtain ⟨ta,pa,qa⟩:=ha
 refine ⟨_,Zqk hc hgl hml hg hm pa hs hpl hs1 hpl1,fun σ ρ H α M Q s hh w=>qa σ ρ H α M _ s hh (OG.seq w fun ds M1 vs H1 α1 e1 h1 r1 w1=> ?_)⟩
 match r1 with
 | .nil=>exact w1.elim
 | .cons r (.cons _ _)=>cases r<;>exact w1.elim
 | .cons r .nil=>
  cases r with
  | @rol a xs ds hp rp=>
   have w2:OP X.K H1 α1 ξ Q (.ok (.ref M1.length) (M1 ++ [.lst ds.reverse])):=w1
   exact ⟨a,xs,rfl,hp.sq,fun l hl=>w2 _ _ (α1 ++ [l]) (Ext.new hl) (h1.new hl rp.rev) (.ref ⟨h1.last l,Kn.lst ZJ⟩)⟩
  | @ref a n hp=>
   cases em:M1[n]? with
   |none=>simp only[bLR,em] at w1;exact w1.elim
   |some so=>
    cases so with
    |lst es=>
     simp only[bLR,em] at w1
     obtain ⟨xs,g1,g2⟩:=h1.at hp em
     exact ⟨a,xs,rfl,SqL.of g1,fun l hl=>w1 _ _ (α1 ++ [l]) (Ext.new hl) (h1.new hl g2.rev) (.ref ⟨h1.last l,Kn.lst ZJ⟩)⟩
  |_=>exact w1.elim
end
end DL
section
namespace DL3
open PySem PySem.Spec PyProof.Rows L2 DL
open Sem (wp)
section
variable {prog:Program} {w:World} {A:Around} {E:Value->Shared->Prop} {s:Shared}
end
section
variable {prog:Program} {w:World} {A:Around} {E:Value->Shared->Prop} {s:Shared}
end
section
variable {X:Cx} {ξ:XK} {y1 y2 y3:Expr} {elts:List Expr} {k0:Nat} {tp:Pos} {fs:Av} {p pos:Pos} {ta:TA}
end
end DL3
end
section
namespace DL4
open PySem PySem.Spec PyProof.Rows L2 DL
open Sem (wp)
section
variable {prog:Program} {w:World} {A:Around} {E:Value->Shared->Prop} {s:Shared}
end
section
variable {prog:Program} {w:World} {A:Around} {E:Value->Shared->Prop} {s:Shared}
end
section
variable {X:Cx} {ξ:XK} {y1 y2 y3 y4:Expr} {elts:List Expr} {k0:Nat} {tp:Pos} {fs:Av} {p pos:Pos} {ta:TA}
end
end DL4
end
section
namespace PySem.SeqAt
open AutoSeq1 (wpAny_loadPart')
open MeetsSeq MeetsSeq2 MeetsSeq3 SeqRoads2
end PySem.SeqAt
namespace DL
open PySem PySem.Spec PyProof.Rows L2
open PySem.SeqAt
noncomputable def Zft:List D->Option (List Int)
 | []=>some []
 | .int i :: r=>match Zft r with | some is=>some (i :: is) | none=>none
 |_ :: _=>none
theorem Zfu {K:PySem.W.Frag} {H:Hp} {α:List Addr}: ∀ {vs:List V} {ds:List D} {a:List Int},Reps K H α vs ds->Zft ds=some a->vs=a.map V.int
 |_,_,a,.nil,e=>by cases e;rfl
 |_,_,a,.cons (d:=d) (ds:=ds) r t,e=>by
  cases r with
  |int i=>
   unfold Zft at e
   split at e
   ·rename_i is e1
    cases e
    rw[Zfu t e1]
    rfl
   ·cases e
  |_=>cases e
section
variable {X:Cx} {pins:List (Addr × Obj)} {σ:L2.St} {H:Hp} {s:Shared} {α:List Addr} {M:Sto}
theorem Ziw: ∀ {xs:List V} {us:List Value} {j:Nat} {u:Value},Zam xs us->us[j]?=some u-> ∃ x,xs[j]?=some x/\Zax x u
 | [],us,j,u,h,e=>by cases h;simp at e
 |x :: xs,us,j,u,h,e=>by
  cases h with
  |cons h1 h2=>
   cases j with
   |zero=>simp at e;subst e;exact ⟨x,rfl,h1⟩
   |succ j=>simp at e;obtain ⟨y,g1,g2⟩:=Ziw h2 e;exact ⟨y,by simpa using g1,g2⟩
theorem Zgd {K:PySem.W.Frag}: ∀ {xs:List V} {ds:List D} {j:Nat} {x:V},Reps K H α xs ds->xs[j]?=some x-> ∃ d,ds[j]?=some d/\Rep K H α x d
 |_,_,j,x,.nil,e=>by simp at e
 |_,_,0,x,.cons r _,e=>by simp at e;subst e;exact ⟨_,rfl,r⟩
 |_,_,j + 1,x,.cons _ t,e=>by
  obtain ⟨d,g1,g2⟩:=Zgd (j:=j) t (by simpa using e)
  exact ⟨d,by simpa using g1,g2⟩
end
end DL
end
section
namespace PySem
open Sem (wp)
section
variable {prog:Program} {w:World} {A:Around} {R:Result->Shared->Prop} {I:Addr} {fp wr:List Addr} {P:Nat->Value->Prop} {St:Nat->Heap->Prop}
end
section
variable {prog:Program} {w:World} {A:Around} {E:Value->Shared->Prop} {s:Shared}
end
end PySem
namespace DL
open PySem PySem.Spec PyProof.Rows L2
open PySem.SeqAt
section
variable {X:Cx} {pins:List (Addr × Obj)} {σ:L2.St} {H:Hp} {s:Shared} {α:List Addr} {M:Sto}
end
end DL
end
section
namespace HT
open PySem PyProof.Rows
section
open PySem.SeqAt
open PySem.AutoSeq1 (wpAny_loadPart')
open PySem.MeetsSeq PySem.MeetsSeq2 PySem.MeetsSeq3
end
section
variable {prog:Program} {w:World} {A:Around} {E:Value->Shared->Prop} {s:Shared}
end
end HT
namespace DL
open PySem PySem.Spec PyProof.Rows L2
section
variable {X:Cx} {ξ:XK}
end
end DL
end
section
namespace DL
open PySem PySem.Spec PyProof.Rows L2
end DL
end
section
namespace DL
open PySem PySem.Spec PyProof.Rows L2
section
variable {X:Cx} {pins:List (Addr × Obj)} {σ:L2.St} {H:Hp} {s:Shared} {a b:Addr} {v:V} {r:Value} {A:Around} {E:Value->Shared->Prop}
end
section
variable {X:Cx} {ξ:XK} {tg iter kx vx:Expr} {ifs:List Expr} {scope:Scope} {cl:List (Str × Addr)} {N:List Str} {k:Nat} {fr:List Nat} {fi:Ro->Sto->Out Src} {gt:Tg} {c:Tv} {fk fv:Ev} {pos:Pos}
end
end DL
end
section
namespace DL
open PySem PySem.Spec PyProof.Rows L2
section
variable {prog:Program} {w:World} {A:Around} {E:Value->Shared->Prop} {s:Shared} {d it:Addr} {od:Obj} {es:Array DictEntry} {ep i n:Nat}
end
section
variable {X:Cx} {pins:List (Addr × Obj)} {σ:L2.St} {H:Hp} {s:Shared} {d:Addr} {o:Obj} {kvs:List (List Key × V)}
end
section
variable {X:Cx} {ξ:XK} {tg a:Expr} {f:Ev} {te:TE}
end
end DL
end
section
namespace DL
open PySem PySem.Spec PyProof.Rows L2
section
variable {X:Cx} {ξ:XK} {e:Expr} {es:List Expr} {fs:Av} {p pos:Pos} {x:Str}
end
section
variable {X:Cx} {ξ:XK} {pos p:Pos} {v:Expr} {keys:List (Option Expr)} {values:List Expr} {k:Str} {f:Ev} {kfs:List (Str × Ev)} {j:Nat}
end
section
variable {X:Cx} {ξ:XK} {tg a:Expr} {f:Ev} {te:TE}
end
end DL
end
section
namespace DL
open PySem PySem.Spec PyProof.Rows L2
section
variable {X:Cx} {ξ:XK} {pins:List (Addr × Obj)} {σ:L2.St} {H:Hp} {s:Shared} {α:List Addr} {M:Sto}
end
end DL
end
section
namespace DL
open PySem PySem.Spec PyProof.Rows L2
noncomputable def Its (lo c:Int) (n:Nat):It:=⟨fun i _=>i < n,fun i H x H'=>H'=H/\x= .int (lo + (i:Nat) * c),fun i _=>n<=i⟩
theorem Zix {P:Program} {w:World} {K:PySem.W.Frag} {B:Around} {tg:Expr} (it:Addr) (lo c:Int) (n:Nat):Turn P w K B tg (Its lo c n) [it] it (fun i h=>IsRangeIter h it (lo + (i:Nat) * c) ((n:Int) - (i:Nat)) c) where
 mem:=by simp
 obj:=fun i h st b hb=>by
  have e:b=it:=by simpa using hb
  subst e
  exact ⟨_,st,fun v z=>by
   have z':Data.fields _=Data.cell v:=z
   cases z'⟩
 keep:=fun i h h' st k=>k it (by simp) _ st
 item:=by
  intro X hP hw hK hB i pins s σ H E I hf st hg
  subst hP hw hK
  obtain ⟨f0,f1,f2,f3,f4,f5⟩:=hf it (by simp)
  have hlt:i < n:=hg
  refine wpAny_pyNext_range_item st (by omega) fun h' st' sb=> ?_
  have I1:Inv X pins σ H { s with heap:=h',toks:=s.toks + 1 }:=I.turned (fun b o hb e=>(sb.2 b hb).trans e) f0 f1 f3 f4 f5
  have st2:IsRangeIter h' it (lo + ((i + 1:Nat):Int) * c) ((n:Int) - ((i + 1:Nat):Int)) c:=by
   have e1:lo + ((i + 1:Nat):Int) * c=lo + (i:Nat) * c + c:=by rw[Int.natCast_add,Int.add_mul];simp;omega
   have e2:(n:Int) - ((i + 1:Nat):Int)=(n:Int) - (i:Nat) - 1:=by omega
   rw[e1,e2]
   exact st'
  exact ⟨_,rfl,Zjq (s:={ s with heap:=h',toks:=s.toks + 1 }) (n:="range_iterator") st2 rfl rfl (by decide) ⟨.int (lo + (i:Nat) * c),H,I1,⟨s.toks,rfl⟩,⟨rfl,rfl⟩,st2,fun b hb=>(hf b hb).1⟩⟩
 done:=by
  intro X hP hw hK hB i pins s σ H E I hf st hg
  subst hP hw hK
  obtain ⟨f0,f1,f2,f3,f4,f5⟩:=hf it (by simp)
  exact DQ.Ze4 I.qh st (by have:n<=i:=hg;omega) fun h' eb=>⟨rfl,I.turned (t':=s.toks) (fun b o hb e=>eb b o hb e) f0 f1 f3 f4 f5⟩
 self:=fun _ _ _ _ _ st h=>wpAny_pyIter_rangeiter st h
noncomputable def stN (lo hi c:Int):Nat:=if lo < hi then ((hi - lo - 1) / c + 1).toNat else 0
section
variable {X:Cx} {ξ:XK} {tg:Expr} {fs:Av} {pos:Pos}
theorem ZlQ {pins:List (Addr × Obj)} {σ:L2.St} {H:Hp} {s:Shared} {R:It->Hp->Prop} {E:Value->Shared->Prop} {lo hi c:Int} {t u v:Tok} {tk:Nat} (I:Inv X pins σ H s) (h1: -(2 ^ 62)<=lo) (h2:lo < 2 ^ 62) (h3: -(2 ^ 62)<=hi) (h4:hi < 2 ^ 62) (c1:1<=c) (c2:c<=1000)
  (q:R (Its lo c (stN lo hi c)) H):wpAny (model X.prog X.w) X.A (pyIter (.ref s.heap.objs.size)) (PIE X pins σ tg R) E { s with heap:=s.heap.push { cls:= .type "range",data:= .fields #[.int lo t,.int hi u,.int c v] },toks:=tk }:=by
 have hdiv: ∀ z:Int,0<=z->0<=z / c/\z / c<=z:=fun z hz=>⟨Int.ediv_nonneg hz (by omega),Int.ediv_le_self _ hz⟩
 refine wpAny_pyIter_range (IsRange.new ..) ?_ ?_
 ·have cp:0 < c:=by omega
  have e:(2:Int) ^ 62=4611686018427387904:=by decide
  unfold Builtin.Range.small Builtin.Range.rangeSize Builtin.Range.rangeFitsLong
  rw[if_pos (show c > 0 from cp)]
  by_cases z:lo < hi
  ·obtain ⟨g1,g2⟩:=hdiv (hi - lo - 1) (by omega)
   rw[if_pos z]
   have g3:(hi - lo - 1) / c * c<=hi - lo - 1:=Int.ediv_mul_le _ (by omega)
   generalize (hi - lo - 1) / c=m at *
   simp
   refine ⟨by omega,.inr ?_⟩
   rw[if_pos cp]
   omega
  ·rw[if_neg z]
   simp
   omega
 have I1:Inv X pins σ H { s with heap:=s.heap.push { cls:= .type "range",data:= .fields #[.int lo t,.int hi u,.int c v] },toks:=tk }:=I.kept fun b o e=>Heap.get?_push_of_some _ e
 refine ⟨(s.heap.push { cls:= .type "range",data:= .fields #[.int lo t,.int hi u,.int c v] }).objs.size,[(s.heap.push { cls:= .type "range",data:= .fields #[.int lo t,.int hi u,.int c v] }).objs.size],_,_,H,rfl,
  I1.kept (t':=tk) fun b o e=>Heap.get?_push_of_some _ e,Zix _ lo c (stN lo hi c),?_,fun b hb=> ?_,q⟩
 ·have e1:lo + ((0:Nat):Int) * c=lo:=by simp
  have e2:((stN lo hi c:Nat):Int) - ((0:Nat):Int)=Builtin.Range.rangeSize lo hi c:=by
   unfold stN Builtin.Range.rangeSize
   by_cases z:lo < hi
   ·have:=hdiv (hi - lo - 1) (by omega)
    rw[if_pos z,if_pos (show c > 0 by omega),if_pos z]
    omega
   ·rw[if_neg z,if_pos (show c > 0 by omega),if_neg z]
    rfl
  show IsRangeIter _ _ (lo + ((0:Nat):Int) * c) (((stN lo hi c:Nat):Int) - ((0:Nat):Int)) c
  rw[e1,e2]
  exact Heap.get?_push_size _ rfl
 ·have e:b=(s.heap.push { cls:= .type "range",data:= .fields #[.int lo t,.int hi u,.int c v] }).objs.size:=by simpa using hb
  subst e
  exact I1.fpOk (Nat.le_refl _) (I1.hok.fresh (Nat.le_refl _))
noncomputable def Zqm (ta:TA):TI:=fun σ H R=>ta σ H fun vs H1=> ∃ i j c:Int,vs=[.int i,.int j,.int c]/\(-(2 ^ 62)<=i/\i < 2 ^ 62/\ -(2 ^ 62)<=j/\j < 2 ^ 62/\1<=c/\c<=1000)/\R (Its i c (stN i j c)) H1
theorem Ziy {a b c:Expr} {ta:TA} {p:Pos} (hg:Gl X "range") (hm:X.mg "range"=none) (ha:PA X [a,b,c] ta) (hs:starEach [a,b,c] X.env=[(false,eval a X.env),(false,eval b X.env),(false,eval c X.env)]:=by rfl) (hs2:starEach [b,c] X.env=[(false,eval b X.env),(false,eval c X.env)]:=by rfl):
  PI X tg (.Call (.Name "range" p) [a,b,c] [] pos) (Zqm ta):=by
 intro pins s σ H R I h
 refine Call_ (ZcE I hg hm boot_range (PyProof.Rows.callWith_type1 (thn (ha pos pins s σ H _ I h) fun us s1 ⟨vs,H1,I1,r1,q1⟩=> ?_) (by rw[hs,hs2]) (by rw[hs2];rfl)))
 obtain ⟨i,j,c,e,⟨q1,q2,q3,q4,q5,q6⟩,q⟩:=q1
 subst e
 cases r1 with
 |cons r rr=>
  cases rr with
  |cons r' rr=>
   cases rr with
   |cons r'' rr=>
    cases rr
    obtain ⟨t,rfl⟩:=r
    obtain ⟨t',rfl⟩:=r'
    obtain ⟨t'',rfl⟩:=r''
    exact call_range_3 (by omega) (ZlQ I1 q1 q2 q3 q4 q5 q6 q) (.inl (PyProof.noPylong_small (by omega)))
noncomputable def Ziz (lo c:Int) (n:Nat):List D:=(List.range n).map fun (i:Nat)=>D.int (lo + (i:Int) * c)
theorem ZgL {lo c:Int} {n:Nat}:(Ziz lo c n).length=n:=by simp[Ziz]
noncomputable def iR3 (fs:Av):Ro->Sto->Out Src:=fun ρ M=>(fs ρ M).bind fun ds M1=>match ds with
 | [.int i,.int j,.int c]=>if -(2 ^ 62)<=i/\i < 2 ^ 62/\ -(2 ^ 62)<=j/\j < 2 ^ 62/\1<=c/\c<=1000 then .ok (.pur (Ziz i c (stN i j c))) M1 else .bad
 |_=> .bad
theorem ZiA {K:PySem.W.Frag} {H:Hp} {α:List Addr} {lo c:Int} {n:Nat}:ZmF K H α (Its lo c n) (.pur (Ziz lo c n)):=by
 intro i H' α' M' ex hr
 show match some (Ziz lo c n)[i]? with | some none=>_ | some (some d)=>_ | none=>True
 by_cases h:i < n
 ·have e:(Ziz lo c n)[i]?=some (.int (lo + (i:Int) * c)):=by simp[Ziz,h]
  rw[e]
  refine ⟨h,fun x H'' y=> ?_⟩
  obtain ⟨e1,e2⟩:=y
  subst e1 e2
  exact ⟨Ext.refl,hr,.int _⟩
 ·rw[List.getElem?_eq_none (by rw[ZgL];omega)]
  exact Nat.le_of_not_lt h
theorem ZiB {a b c:Expr} {p:Pos} (hm:X.mg "range"=none) (ha:DA X ξ [a,b,c] fs) (hgl:Gl X "range":=by rfl) (hs:starEach [a,b,c] X.env=[(false,eval a X.env),(false,eval b X.env),(false,eval c X.env)]:=by rfl) (hs2:starEach [b,c] X.env=[(false,eval b X.env),(false,eval c X.env)]:=by rfl):DI X ξ tg (.Call (.Name "range" p) [a,b,c] [] pos) (iR3 fs):=by
 obtain ⟨ta,pa,qa⟩:=ha
 refine ⟨_,Ziy hgl hm pa hs hs2,fun σ ρ H α M R s hh q=>qa σ ρ H α M _ s hh (OG.seq q fun ds M1 vs H1 α1 e1 h1 r1 w1=> ?_)⟩
 split at w1
 ·rename_i i j c
  cases r1 with
  |cons r t=>
   cases t with
   |cons r' t=>
    cases t with
    |cons r'' t=>
     cases t
     cases r
     cases r'
     cases r''
     by_cases z: -(2 ^ 62)<=i/\i < 2 ^ 62/\ -(2 ^ 62)<=j/\j < 2 ^ 62/\1<=c/\c<=1000
     ·simp only[if_pos z] at w1
      exact ⟨i,j,c,rfl,z,w1 _ H1 α1 Ext.refl h1 ZiA⟩
     ·simp only[if_neg z] at w1
      exact w1.elim
 ·exact w1.elim
end
end DL
end
namespace DL
open PySem PySem.Spec L2
section
variable {X:Cx} {ξ:XK} {a b c:Expr} {fa fb fc:Ev} {pos:Pos}
noncomputable def ZlR (f:Ev):Prop:= ∀ ρ,(∃ d,∀ M,f ρ M= .ok d M)\/ ∀ M,f ρ M= .bad
theorem ZnL {d:D}:ZlR (eC d):=fun _=> .inl ⟨d,fun _=>rfl⟩
theorem Zqn {r r':R2} {f g:Bo} (hp:ZlR fb) (hf:BO X ξ r f) (hg:BO X ξ r' g) {ta tb tc:TE}
  (qa: ∀ σ ρ H α M Q,SR X.K H α σ ρ->HR X.K H α M->OP X.K H α ξ Q (fa ρ M)->ta σ H Q)
  (qb: ∀ σ ρ H α M Q,SR X.K H α σ ρ->HR X.K H α M->OP X.K H α ξ Q (fb ρ M)->tb σ H Q)
  (qc: ∀ σ ρ H α M Q,SR X.K H α σ ρ->HR X.K H α M->OP X.K H α ξ Q (fc ρ M)->tc σ H Q):
  ∀ σ ρ H α M Q,SR X.K H α σ ρ->HR X.K H α M->OP X.K H α ξ Q (ZaT (e2 f fa fb) (e2 g fb fc) ρ M)->Zks r r' ta tb tc σ H Q:=by
 intro σ ρ H α M Q s h q
 unfold ZaT e2 at q
 rcases hp ρ with ⟨d,hd⟩ | hd
 ·have q:OP X.K H α ξ Q ((fa ρ M).bind fun x M1=>(fb ρ M1).bind fun y M2=>(f x y M2).bind fun z M3=>match z with | .bl k=>if k=true then (fc ρ M3).bind fun w M4=>g d w M4 else .ok (.bl false) M3 | _=> .bad):=by
   simp only[hd,Out.bind] at q ⊢
   cases e:fa ρ M with
   |ok x M1=>simp only[e] at q ⊢;exact q
   |exc c M1=>simp only[e] at q ⊢;exact q
   |bad=>simp only[e] at q ⊢;exact q
  refine qa σ ρ H α M _ s h (OG.seq q fun x M1 v H1 α1 e1 h1 r1 q1=> ?_)
  rw[hd] at q1
  refine qb σ ρ H1 α1 M1 _ (s.mono e1) h1 ?_
  rw[hd]
  intro w H2 α2 e2 h2 r2
  have q2:=OG.ext (o:=(f x d M1).bind fun z M3=>match z with | .bl k=>if k=true then (fc ρ M3).bind fun w M4=>g d w M4 else .ok (.bl false) M3 | _=> .bad) q1 e2
  refine hf H2 α2 M1 v w x d _ h2 (Rep.mono e2 r1) r2 (OG.seq q2 fun z M3 u H3 α3 e3 h3 r3 q3=> ?_)
  cases r3 with
  |bl k=>
   refine ⟨k,rfl,?_⟩
   cases k with
   |true=>
    refine Zkw (qc σ ρ H3 α3 M3 _ ((s.mono e1).mono (e2.trans e3)) h3 (OG.seq q3 fun w' M4 u' H4 α4 e4 h4 r4 q4=> ?_))
    exact hg H4 α4 M4 w u' d w' Q h4 (Rep.mono (e3.trans e4) r2) r4 q4
   |false=>exact Zkv (q3 _ H3 α3 Ext.refl h3 (.bl false))
  |_=>exact q3.elim
 ·simp only[hd] at q
  refine qa σ ρ H α M _ s h ?_
  cases e:fa ρ M with
  |ok x M1=>rw[e] at q;exact q.elim
  |exc c M1=>rw[e] at q;exact q
  |bad=>rw[e] at q;exact q
theorem ZnM {op op':CmpOp} {r r':R2} {f g:Bo} (ho:OpR X (compareOp op) r) (hf:BO X ξ r f) (ho':OpR X (compareOp op') r') (hg:BO X ξ r' g) (hp:ZlR fb) (ha:DE X ξ a fa) (hb:DE X ξ b fb) (hc:DE X ξ c fc)
  (hm:lastMarks [op,op'] [b,c]=false:=by with_unfolding_all rfl):DE X ξ (.Compare a [op,op'] [b,c] pos) (ZaT (e2 f fa fb) (e2 g fb fc)):=by
 obtain ⟨ta,ha,qa⟩:=ha
 obtain ⟨tb,hb,qb⟩:=hb
 obtain ⟨tc,hc,qc⟩:=hc
 exact ⟨_,Zju ho ho' ha hb hc hm,Zqn hp hf hg qa qb qc⟩
end
end DL
section
namespace DL
open PySem PySem.Spec PyProof.Rows L2 PySem.W
section
variable {K:PySem.W.Frag} {H:Hp} {α:List Addr}
end
section
variable {X:Cx} {ξ:XK} {pos:Pos}
variable {o e:Expr} {fo fa:Ev} {apos cpos:Pos}
end
end DL
end
section
namespace PySem.SeqAt
open MeetsSeq MeetsSeq2 MeetsSeq3 SeqRoads2
end PySem.SeqAt
namespace DL
open PySem PySem.Spec PyProof.Rows L2 PySem.W
section
variable {X:Cx} {ξ:XK} {o e:Expr} {fo fa:Ev} {apos cpos:Pos}
end
end DL
end
section
namespace ST
open PySem PyProof.Rows
noncomputable abbrev lt (a b:List Int):Bool:=HT.Zb1 a b
noncomputable def le (a b:List Int):Prop:=lt b a=false
theorem ZiC: ∀ a:List Int,lt a a=false
 | []=>rfl
 |x :: r=>by
  show HT.Zb1 (x :: r) (x :: r)=false
  rw[HT.Zbh,if_pos rfl]
  exact ZiC r
theorem ZlS: ∀ {a b c:List Int},lt a b=true->lt b c=true->lt a c=true
 | [],[],_,h,_=>by cases h
 | [],_ :: _,[],_,h=>by cases h
 | [],_ :: _,_ :: _,_,_=>rfl
 |_ :: _,[],_,h,_=>by cases h
 |_ :: _,_ :: _,[],_,h=>by cases h
 |x :: a,y :: b,z :: c,h,g=>by
  show HT.Zb1 (x :: a) (z :: c)=true
  have h:HT.Zb1 (x :: a) (y :: b)=true:=h
  have g:HT.Zb1 (y :: b) (z :: c)=true:=g
  rw[HT.Zbh] at h g ⊢
  by_cases e1:x=y
  ·subst e1
   rw[if_pos rfl] at h
   by_cases e2:x=z
   ·rw[if_pos e2] at g ⊢;exact ZlS h g
   ·rw[if_neg e2] at g ⊢;exact g
  ·rw[if_neg e1] at h
   have h:=of_decide_eq_true h
   by_cases e2:y=z
   ·subst e2;rw[if_neg e1];exact decide_eq_true h
   ·rw[if_neg e2] at g
    have g:=of_decide_eq_true g
    rw[if_neg (by omega)]
    exact decide_eq_true (by omega)
theorem Zfv: ∀ {a b:List Int},lt a b=false->lt b a=false->a=b
 | [],[],_,_=>rfl
 | [],_ :: _,h,_=>by cases h
 |_ :: _,[],_,h=>by cases h
 |x :: a,y :: b,h,g=>by
  have h:HT.Zb1 (x :: a) (y :: b)=false:=h
  have g:HT.Zb1 (y :: b) (x :: a)=false:=g
  rw[HT.Zbh] at h g
  by_cases e:x=y
  ·subst e
   rw[if_pos rfl] at h g
   rw[Zfv h g]
  ·rw[if_neg e] at h
   rw[if_neg (Ne.symm e)] at g
   have:=of_decide_eq_false h
   have:=of_decide_eq_false g
   omega
theorem Zey (a:List Int):le a a:=ZiC a
theorem ZiD {a b:List Int} (h:lt a b=true):le a b:=by
 unfold le
 cases e:lt b a with
 |false=>rfl
 |true=>have:=ZlS h e;rw[ZiC] at this;cases this
theorem Zhc {a b c:List Int} (h:le a b) (g:le b c):le a c:=by
 unfold le at *
 cases e:lt c a with
 |false=>rfl
 |true=>
  cases e2:lt b a with
  |true=>rw[e2] at h;cases h
  |false=>
   cases e3:lt a b with
   |true=>rw[ZlS e e3] at g;cases g
   |false=>
    have:=Zfv e3 e2
    subst this
    rw[e] at g;cases g
theorem Zge {a b c:List Int} (h:lt a b=true) (g:le b c):lt a c=true:=by
 cases e:lt a c with
 |true=>rfl
 |false=>have:=Zhc g e;unfold le at this;rw[h] at this;cases this
variable (kf:Keyed->List Int)
noncomputable def ky (xs:Array Keyed) (i:Nat):List Int:=match xs[i]? with | some p=>kf p | none=>[]
noncomputable def Up (xs:Array Keyed) (n:Nat):Prop:= ∀ i j,i<=j->j < n->le (ky kf xs i) (ky kf xs j)
noncomputable def Dn (xs:Array Keyed) (n:Nat):Prop:= ∀ i j,i<=j->j < n->le (ky kf xs j) (ky kf xs i)
variable {kf}
theorem ZiE {xs ys:Array Keyed} {i j:Nat} (h:xs[i]?=ys[j]?):ky kf xs i=ky kf ys j:=by unfold ky;rw[h]
theorem ZiF {xs:Array Keyed} {i j:Nat} (hj:j<=xs.size) (k:Nat):ky kf (mirror xs i j ((j - i) / 2)) k=if i<=k/\k < j then ky kf xs (i + j - 1 - k) else ky kf xs k:=by
 have g:=getElem?_mirror_all (i:=i) hj k
 split
 ·rename_i c;rw[if_pos c] at g;exact ZiE g
 ·rename_i c;rw[if_neg c] at g;exact ZiE g
theorem ZaV {xs:Array Keyed} {i j:Nat} (hj:j<=xs.size) (hs: ∀ k,i<=k->k < j->ky kf xs k=ky kf xs (j - 1)) (k:Nat):ky kf (mirror xs i j ((j - i) / 2)) k=ky kf xs k:=by
 rw[ZiF hj]
 split
 ·rename_i c;rw[hs k c.1 c.2,hs (i + j - 1 - k) (by omega) (by omega)]
 ·rfl
theorem ZkM {xs:Array Keyed} {p d:Nat} (hp:p < xs.size) (hd:d<=p) (k:Nat):ky kf (bubble xs p d) k=if k=p - d then ky kf xs p else if p - d < k/\k<=p then ky kf xs (k - 1) else ky kf xs k:=by
 have g:=getElem?_bubble hp d hd k
 by_cases c1:k=p - d
 ·rw[if_pos c1] at g ⊢;exact ZiE g
 ·rw[if_neg c1] at g ⊢
  by_cases c2:p - d < k/\k<=p
  ·rw[if_pos c2] at g ⊢;exact ZiE g
  ·rw[if_neg c2] at g ⊢;exact ZiE g
structure Cm (M:Model) (A:Around) (E:Value->Shared->Prop) (s:Shared) (kf:Keyed->List Int) (B:SortSt->Prop) (N:Nat):Prop where
 sz: ∀ st,B st->(arrOf st).size=N
 put: ∀ st xs,B st->xs.Perm (arrOf st)->B (setArr st xs)
 cmp: ∀ st i j (Q:Option Bool->SortSt->Prop),B st->i < N->j < N->Q (some (lt (ky kf (arrOf st) i) (ky kf (arrOf st) j))) st->wpS M A E s (ltAt' i j) Q st
section
variable {prog:Program} {w:World} {A:Around} {E:Value->Shared->Prop} {s:Shared} {B:SortSt->Prop} {N:Nat}
theorem Up.more {xs:Array Keyed} {n:Nat} (h:Up kf xs n) (h1:1<=n) (hl:le (ky kf xs (n - 1)) (ky kf xs n)):Up kf xs (n + 1):=by
 intro i j ij jn
 by_cases c:j < n
 ·exact h i j ij c
 ·have:j=n:=by omega
  subst this
  by_cases c2:i=j
  ·subst c2;exact Zey _
  ·exact Zhc (h i (j - 1) (by omega) (by omega)) hl
theorem Dn.more {xs:Array Keyed} {n:Nat} (h:Dn kf xs n) (h1:1<=n) (hl:le (ky kf xs n) (ky kf xs (n - 1))):Dn kf xs (n + 1):=by
 intro i j ij jn
 by_cases c:j < n
 ·exact h i j ij c
 ·have:j=n:=by omega
  subst this
  by_cases c2:i=j
  ·subst c2;exact Zey _
  ·exact Zhc hl (h i (j - 1) (by omega) (by omega))
theorem ZnN (C:Cm (model prog w) A E s kf B N) {st:SortSt} {a n:Nat} {Q:AscSt->SortSt->Prop} (hn:n<=N) (ha:1<=a) (an:a<=n) (hB:B st) (hu:Up kf (arrOf st) a)
  (q: ∀ m,a<=m->m<=n->Up kf (arrOf st) m->(m=n\/lt (ky kf (arrOf st) m) (ky kf (arrOf st) (m - 1))=true)->Q (none,m) st):wpS (model prog w) A E s (ascLoop a n) Q st:=by
 unfold ascLoop
 refine wpS_forRange (fun x c t=>t=st/\c=(none,x)/\Up kf (arrOf st) x) (fun x c t ax xn hI=> ?_) (fun c t hI=> ?_) ⟨rfl,rfl,hu⟩
 ·obtain ⟨rfl,rfl,h⟩:=hI
  refine wpS_bind (C.cmp t x (x - 1) _ hB (by omega) (by omega) ?_)
  cases z:lt (ky kf (arrOf t) x) (ky kf (arrOf t) (x - 1)) with
  |true=>exact wpS_pure (q x ax (by omega) h (.inr z))
  |false=>exact wpS_pure ⟨rfl,rfl,h.more (by omega) z⟩
 ·obtain ⟨rfl,rfl,h⟩:=hI
  rw[Nat.max_eq_right an] at h ⊢
  exact q n an (Nat.le_refl _) h (.inl rfl)
theorem ZkN (C:Cm (model prog w) A E s kf B N) {st:SortSt} {m n:Nat} {Q:Option Nat->SortSt->Prop} (hn:n<=N) (h1:1<=m) (mn:m<=n) (hB:B st) (hd:Dn kf (arrOf st) m)
  (q: ∀ m t,B t->1<=m->m<=n->Up kf (arrOf t) m->Q (some m) t):wpS (model prog w) A E s (tail3 m n) Q st:=by
 have sz:=C.sz st hB
 have hB':=C.put st (mirror (arrOf st) 0 m ((m - 0) / 2)) hB (mirror_perm ..)
 refine wpS_bind (wpS_reverse (wpS_bind (ZnN C hn h1 mn hB' (fun i j ij jm=> ?_) fun k k1 k2 hu _=>wpS_pure (q k _ hB' (by omega) k2 hu))))
 show le (ky kf (mirror (arrOf st) 0 m ((m - 0) / 2)) i) (ky kf (mirror (arrOf st) 0 m ((m - 0) / 2)) j)
 rw[ZiF (by omega),ZiF (by omega),if_pos ⟨by omega,by omega⟩,if_pos ⟨by omega,jm⟩]
 exact hd _ _ (by omega) (by omega)
noncomputable def Eqs (kf:Keyed->List Int) (xs:Array Keyed) (x e:Nat):Prop:=e + 1<=x/\ ∀ i,x - (e + 1)<=i->i < x->ky kf xs i=ky kf xs (x - 1)
theorem Zqo {xs:Array Keyed} {x:Nat} (h:1<=x):Eqs kf xs x 0:=⟨by omega,fun i a b=>by rw[show i=x - 1 by omega]⟩
theorem ZnO (C:Cm (model prog w) A E s kf B N) {st:SortSt} {m n:Nat} {Q:DescSt->SortSt->Prop} (hn:n<=N) (h1:1<=m) (mn:m<=n) (hB:B st) (hd:Dn kf (arrOf st) m)
  (q: ∀ x e t,B t->m<=x->x<=n->Dn kf (arrOf t) x->Eqs kf (arrOf t) x e->Q (none,x,e) t):wpS (model prog w) A E s (descLoop m n) Q st:=by
 unfold descLoop
 refine wpS_forRange (fun x c t=> ∃ e,c=(none,x,e)/\B t/\Dn kf (arrOf t) x/\Eqs kf (arrOf t) x e) (fun x c t ax xn hI=> ?_) (fun c t hI=> ?_) ⟨0,rfl,hB,hd,Zqo h1⟩
 ·obtain ⟨e,rfl,hB,hd,he⟩:=hI
  have sz:=C.sz t hB
  refine wpS_bind (C.cmp t x (x - 1) _ hB (by omega) (by omega) ?_)
  cases z:lt (ky kf (arrOf t) x) (ky kf (arrOf t) (x - 1)) with
  |true=>
   have up1:=hd.more (by omega) (ZiD z)
   show wpS _ _ _ _ (if e > 0 then _ else _) _ _
   by_cases c:e > 0
   ·rw[if_pos c]
    refine wpS_bind (wpS_reverse (wpS_pure ⟨0,rfl,C.put t _ hB (mirror_perm ..),fun i j ij jx=> ?_,Zqo (by omega)⟩))
    show le (ky kf (mirror (arrOf t) (x - (e + 1)) x ((x - (x - (e + 1))) / 2)) j) (ky kf (mirror (arrOf t) (x - (e + 1)) x ((x - (x - (e + 1))) / 2)) i)
    rw[ZaV (by omega) he.2,ZaV (by omega) he.2]
    exact up1 i j ij jx
   ·rw[if_neg c]
    exact wpS_pure ⟨0,rfl,hB,up1,Zqo (by omega)⟩
  |false=>
   refine wpS_bind (C.cmp t (x - 1) x _ hB (by omega) (by omega) ?_)
   cases z2:lt (ky kf (arrOf t) (x - 1)) (ky kf (arrOf t) x) with
   |true=>exact wpS_pure (q x e t hB ax (by omega) hd he)
   |false=>
    have ee:ky kf (arrOf t) x=ky kf (arrOf t) (x - 1):=Zfv z z2
    refine wpS_pure ⟨e + 1,rfl,hB,hd.more (by omega) z2,by have:=he.1;omega,fun i a b=> ?_⟩
    rw[show x + 1 - 1=x by omega]
    by_cases c:i=x
    ·rw[c]
    ·rw[ee];exact he.2 i (by omega) (by omega)
 ·obtain ⟨e,rfl,hB,hd,he⟩:=hI
  rw[Nat.max_eq_right mn] at hd he ⊢
  exact q n e t hB mn (Nat.le_refl _) hd he
theorem ZkO (C:Cm (model prog w) A E s kf B N) {st:SortSt} {m n:Nat} {Q:Option Nat->SortSt->Prop} (hn:n<=N) (mn:m + 1<=n) (hB:B st) (hd:Dn kf (arrOf st) (m + 1))
  (q: ∀ m t,B t->1<=m->m<=n->Up kf (arrOf t) m->Q (some m) t):wpS (model prog w) A E s (descPart m n) Q st:=by
 refine wpS_bind (wpS_lift (wpAny_rule ⟨rfl,wpS_bind (ZnO C hn (by omega) mn hB hd fun x e t hB hx xn hd he=> ?_)⟩))
 have sz:=C.sz t hB
 show wpS _ _ _ _ (if e > 0 then _ else _) _ _
 by_cases c:e > 0
 ·rw[if_pos c]
  refine wpS_bind (wpS_reverse (ZkN (m:=x) C hn (by omega) xn (C.put t _ hB (mirror_perm ..)) (fun i j ij jx=> ?_) q))
  show le (ky kf (mirror (arrOf t) (x - (e + 1)) x ((x - (x - (e + 1))) / 2)) j) (ky kf (mirror (arrOf t) (x - (e + 1)) x ((x - (x - (e + 1))) / 2)) i)
  rw[ZaV (by omega) he.2,ZaV (by omega) he.2]
  exact hd i j ij jx
 ·rw[if_neg c]
  exact ZkN (m:=x) C hn (by omega) xn hB hd q
theorem Zqp (C:Cm (model prog w) A E s kf B N) {st:SortSt} {n:Nat} {Q:Option Nat->SortSt->Prop} (hn:n<=N) (h1:1<=n) (hB:B st)
  (q: ∀ m t,B t->1<=m->m<=n->Up kf (arrOf t) m->Q (some m) t):wpS (model prog w) A E s (countRun' 0 n) Q st:=by
 have sz:=C.sz st hB
 rw[countRun0_eq]
 refine wpS_bind (ZnN C hn (Nat.le_refl 1) h1 hB (fun i j ij j1=>by rw[show i=j by omega];exact Zey _) fun m m1 m2 hu ho=> ?_)
 show wpS _ _ _ _ (if (m == n)=true then _ else _) _ _
 by_cases c:m=n
 ·rw[if_pos (by simpa using c)]
  exact wpS_pure (q m st hB m1 m2 hu)
 ·rw[if_neg (by simpa using c)]
  have hl:=ho.resolve_left c
  by_cases c1:m > 1
  ·rw[if_pos c1]
   refine wpS_bind (C.cmp st 0 (m - 1) _ hB (by omega) (by omega) ?_)
   cases z:lt (ky kf (arrOf st) 0) (ky kf (arrOf st) (m - 1)) with
   |true=>exact wpS_pure (q m st hB m1 m2 hu)
   |false=>
    have al: ∀ k,0<=k->k < m->ky kf (arrOf st) k=ky kf (arrOf st) (m - 1):=fun k _ km=>
     Zfv (Zhc z (hu 0 k (by omega) km)) (hu k (m - 1) (by omega) (by omega))
    refine wpS_bind (wpS_reverse (ZkO C hn (by omega) (C.put st _ hB (mirror_perm ..)) (fun i j ij jx=> ?_) q))
    show le (ky kf (mirror (arrOf st) 0 m ((m - 0) / 2)) j) (ky kf (mirror (arrOf st) 0 m ((m - 0) / 2)) i)
    rw[ZaV (by omega) al,ZaV (by omega) al]
    by_cases d:j < m
    ·rw[al i (by omega) (by omega),al j (by omega) d];exact Zey _
    ·have:j=m:=by omega
     subst this
     by_cases d2:i=j
     ·rw[d2];exact Zey _
     ·rw[al i (by omega) (by omega)];exact ZiD hl
  ·rw[if_neg c1]
   have:m=1:=by omega
   subst this
   refine ZkO C hn (by omega) hB (fun i j ij jx=> ?_) q
   by_cases d2:i=j
   ·rw[d2];exact Zey _
   ·rw[show i=0 by omega,show j=1 by omega];exact ZiD hl
theorem Zqq (C:Cm (model prog w) A E s kf B N) {st:SortSt} {n ok:Nat} {Q:Bool->SortSt->Prop} (hn:n<=N) (hk:ok<=n) (hB:B st) (hu:Up kf (arrOf st) ok)
  (q: ∀ t,B t->Up kf (arrOf t) n->Q true t):wpS (model prog w) A E s (binarySort' 0 n ok) Q st:=by
 rw[binarySort'_eq]
 simp only[Nat.zero_add]
 refine wpS_bind (wpS_mono (wpS_forRange (fun k c t=>c=(none,())/\B t/\Up kf (arrOf t) (min k n)) (Q:=fun c t=>c=(none,())/\B t/\Up kf (arrOf t) n) (fun k c t ak kn hI=> ?_) (fun c t hI=> ?_) ⟨rfl,hB,fun i j ij jn=> ?_⟩) fun c t hI=> ?_)
 ·obtain ⟨rfl,hB,hu⟩:=hI
  rw[Nat.min_eq_left (by omega)] at hu
  have sz:=C.sz t hB
  have kN:k < N:=by omega
  refine wpS_bind (wpS_mono (wpS_forRange (fun x c t'=>t'=t/\ ∃ l r,c=(none,l,r)/\(l<=r/\r<=k/\r - l<=k - x)/\(∀ i,i < l->le (ky kf (arrOf t) i) (ky kf (arrOf t) k))/\ ∀ i,r<=i->i < k->lt (ky kf (arrOf t) k) (ky kf (arrOf t) i)=true)
   (Q:=fun c t'=>t'=t/\ ∃ l r,c=(none,l,r)/\l<=k/\(∀ i,i < l->le (ky kf (arrOf t) i) (ky kf (arrOf t) k))/\ ∀ i,l<=i->i < k->lt (ky kf (arrOf t) k) (ky kf (arrOf t) i)=true) (fun x c t' _ xk hI=> ?_) (fun c t' hI=> ?_) ⟨rfl,0,k,rfl,by omega,fun i hi=>by omega,fun i a b=>by omega⟩) fun c t' hI=> ?_)
  ·obtain ⟨rfl,l,r,rfl,⟨lr,rk,hm⟩,lo,hi⟩:=hI
   show wpS _ _ _ _ (if l ≥ r then _ else _) _ _
   by_cases c:l ≥ r
   ·rw[if_pos c]
    have:l=r:=by omega
    subst this
    exact wpS_pure ⟨rfl,l,l,rfl,rk,lo,hi⟩
   ·rw[if_neg c]
    refine wpS_bind (C.cmp t' k ((l + r) / 2) _ hB kN (by omega) ?_)
    cases z:lt (ky kf (arrOf t') k) (ky kf (arrOf t') ((l + r) / 2)) with
    |true=>exact wpS_pure ⟨rfl,l,(l + r) / 2,rfl,by omega,lo,fun i a b=>Zge z (hu _ _ a b)⟩
    |false=>exact wpS_pure ⟨rfl,(l + r) / 2 + 1,r,rfl,by omega,fun i a=>Zhc (hu i ((l + r) / 2) (by omega) (by omega)) z,hi⟩
  ·obtain ⟨rfl,l,r,rfl,⟨lr,rk,hm⟩,lo,hi⟩:=hI
   have:l=r:=by omega
   subst this
   exact ⟨rfl,l,l,rfl,rk,lo,hi⟩
  ·obtain ⟨rfl,l,r,rfl,lk,lo,hi⟩:=hI
   show wpS _ _ _ _ (moveDown' k l >>= fun _=>pure (ForInStep.yield (none,()))) _ _
   rw[moveDown'_eq]
   refine wpS_bind (wpS_modify (wpS_pure ⟨rfl,C.put t' _ hB (bubble_perm ..),?_⟩))
   rw[Nat.min_eq_left (by omega)]
   intro i j ij jk
   show le (ky kf (bubble (arrOf t') k (k - l)) i) (ky kf (bubble (arrOf t') k (k - l)) j)
   rw[ZkM (by omega) (by omega),ZkM (by omega) (by omega),show k - (k - l)=l by omega]
   by_cases i1:i=l
   ·rw[if_pos i1]
    by_cases j1:j=l
    ·rw[if_pos j1];exact Zey _
    ·rw[if_neg j1,if_pos (by omega)];exact ZiD (hi _ (by omega) (by omega))
   ·rw[if_neg i1]
    by_cases i2:l < i/\i<=k
    ·rw[if_pos i2,if_neg (by omega),if_pos (by omega)];exact hu _ _ (by omega) (by omega)
    ·rw[if_neg i2]
     by_cases j1:j=l
     ·rw[if_pos j1];exact lo _ (by omega)
     ·rw[if_neg j1]
      by_cases j2:l < j/\j<=k
      ·rw[if_pos j2];exact hu _ _ (by omega) (by omega)
      ·rw[if_neg j2];exact hu _ _ (by omega) (by omega)
 ·obtain ⟨rfl,hB,hu⟩:=hI
  rw[show min (max (max ok 1) n) n=n by omega] at hu
  exact ⟨rfl,hB,hu⟩
 ·by_cases c:ok=0
  ·rw[show i=j by omega];exact Zey _
  ·exact hu i j ij (by omega)
 ·obtain ⟨rfl,hB,hu⟩:=hI
  exact wpS_pure (q t hB hu)
structure Cn (B:SortSt->Prop):Prop where
 fail: ∀ st,B st->failedOf st=none
 pend: ∀ st,B st->pendingOf st= #[]
theorem ZnP (C:Cm (model prog w) A E s kf B N) (D:Cn B) {st:SortSt} {Q:Unit->SortSt->Prop} (h2:2<=N) (h64:N < 64) (hB:B st)
  (q: ∀ t t',B t->arrOf t'=arrOf t->failedOf t'=none->Up kf (arrOf t) N->Q () t'):wpS (model prog w) A E s sortRuns' Q st:=by
 rw[sortRuns'_eq]
 refine wpS_bind (wpS_get ?_)
 have mr:minRun' N N 0=N:=by
  have:minRun' ((N - 1) + 1) N 0=N:=by rw[minRun'_succ,if_pos h64];rfl
  rwa [show N - 1 + 1=N by omega] at this
 simp only[C.sz st hB,mr]
 refine wpS_bind (wpS_mono (wpS_forRange (fun x c t=>(x=0/\c=(none,0)/\B t)\/(1<=x/\c=(none,N)/\ ∃ t0,B t0/\t=setPending t0 #[(0,N,0)]/\Up kf (arrOf t0) N)) (Q:=fun c t=>c=(none,N)/\ ∃ t0,B t0/\t=setPending t0 #[(0,N,0)]/\Up kf (arrOf t0) N) (fun x c t _ xN hI=> ?_) (fun c t hI=> ?_) (.inl ⟨rfl,rfl,hB⟩)) fun c t hI=> ?_)
 ·rcases hI with ⟨rfl,rfl,hB⟩ | ⟨x1,rfl,hD⟩
  ·show wpS _ _ _ _ (if 0 ≥ N then _ else _) _ _
   rw[if_neg (by omega)]
   simp only[Nat.sub_zero,Nat.min_self,Nat.zero_add]
   refine wpS_bind (Zqp C (Nat.le_refl _) (by omega) hB fun m t1 hB1 m1 m2 hu=> ?_)
   have fin: ∀ t1,B t1->Up kf (arrOf t1) N->(pendingOf t1).back?=none/\((0=0/\((none,N):Option Unit × Nat)=(none,0)/\B (setPending t1 ((pendingOf t1).push (0,N,0))))\/(1<=0 + 1/\((none,N):Option Unit × Nat)=(none,N)/\ ∃ t0,B t0/\setPending t1 ((pendingOf t1).push (0,N,0))=setPending t0 #[(0,N,0)]/\Up kf (arrOf t0) N)):=fun t1 hB1 hu=>by
    rw[D.pend t1 hB1]
    exact ⟨rfl,.inr ⟨by omega,rfl,t1,hB1,rfl,hu⟩⟩
   show wpS _ _ _ _ (if m < N then _ else _) _ _
   by_cases c:m < N
   ·rw[if_pos c]
    refine wpS_bind (wpS_lift (wpAny_rule ⟨rfl,wpS_bind (Zqq C (Nat.le_refl _) m2 hB1 hu fun t2 hB2 hu2=> ?_)⟩))
    simp only[Bool.not_true,Bool.false_eq_true,if_false]
    refine wpS_bind (wpS_get ?_)
    rw[(fin t2 hB2 hu2).1]
    refine wpS_bind (wpS_modify (wpS_pure (.inr ⟨by omega,rfl,t2,hB2,?_,hu2⟩)))
    rw[D.pend t2 hB2];rfl
   ·rw[if_neg c]
    have:m=N:=by omega
    subst this
    refine wpS_bind (wpS_get ?_)
    rw[(fin t1 hB1 hu).1]
    refine wpS_bind (wpS_modify (wpS_pure (.inr ⟨by omega,rfl,t1,hB1,?_,hu⟩)))
    rw[D.pend t1 hB1];rfl
  ·show wpS _ _ _ _ (if N ≥ N then _ else _) _ _
   rw[if_pos (Nat.le_refl _)]
   exact wpS_pure ⟨rfl,hD⟩
 ·rcases hI with ⟨x0,_,_⟩ | ⟨_,hc,hD⟩
  ·omega
  ·exact ⟨hc,hD⟩
 ·obtain ⟨rfl,t0,hB0,rfl,hu⟩:=hI
  refine wpS_bind (wpS_mono (wpS_forRange (fun _ c t=>t=setPending t0 #[(0,N,0)]/\c=(none,())) (Q:=fun c t=>t=setPending t0 #[(0,N,0)]/\c=(none,())) (fun x c t _ _ hI=> ?_) (fun _ _ h=>h) ⟨rfl,rfl⟩) fun c t hI=> ?_)
  ·obtain ⟨rfl,rfl⟩:=hI
   refine wpS_bind (wpS_get ?_)
   rw[if_pos (show (pendingOf (setPending t0 #[(0,N,0)])).size<=1 from Nat.le_refl 1)]
   exact wpS_pure ⟨rfl,rfl⟩
  ·obtain ⟨rfl,rfl⟩:=hI
   exact wpS_pure (q t0 _ hB0 rfl (D.fail t0 hB0) hu)
theorem ZiG (x y:Value):keyLt' (tuples' true) x y=(do
  let xs <- Builtin.List.listItems x
  let ys <- Builtin.List.listItems y
  for ((p,q),i) in (xs.toList.zip ys.toList).zipIdx do
   if !(<- eqBool p q) then return <- oneLt' (true && i == 0) p q
  return decide (xs.size < ys.size)):=rfl
noncomputable def ZnQ (x:(Value × Value) × Nat) (_:Option Bool × Unit):Sem (ForInStep (Option Bool × Unit)):=match x with
 | ((p,q),i)=>do
  let b <- eqBool p q
  if (!b)=true then do
   let r <- oneLt' (true && i == 0) p q
   pure (ForInStep.done (some r,()))
  else pure (ForInStep.yield (none,()))
theorem ZiH {f:Bool} {a b:Int} {t u:Tok} {Q:Bool->Shared->Prop} (h:Q (decide (a < b)) s):wpAny (model prog w) A (oneLt' f (.int a t) (.int b u)) Q E s:=by
 cases f with
 |true=>exact oneLt_int h
 |false=>
  rw[oneLt'_eq]
  simp only[Bool.false_eq_true,if_false]
  exact wpAny_bind (HT.Zjx _ _ _ _ _ _ _ _ _ _ (wpAny_truthy_bool h))
theorem ZgM: ∀ {us vs:List Value} {ns ms:List Int},IntsAre us ns->IntsAre vs ms-> ∀ (k:Nat) (Q:Option Bool × Unit->Shared->Prop),
  (∀ b,b=HT.Zb1 ns ms->Q (some b,()) s)->(HT.Zb1 ns ms=decide (us.length < vs.length)->Q (none,()) s)->wpAny (model prog w) A (forIn ((us.zip vs).zipIdx k) (none,()) ZnQ) Q E s
 |_,_,_,_,.nil,.nil,k,Q,_,h2=>by
  simp only[List.zip_nil_left,List.zipIdx_nil,List.forIn_nil]
  exact wpAny_pure (h2 rfl)
 |_,_,_,_,.nil,.cons m t hv,k,Q,_,h2=>by
  simp only[List.zip_nil_left,List.zipIdx_nil,List.forIn_nil]
  exact wpAny_pure (h2 (by simp[HT.Zb1]))
 |_,_,_,_,.cons n t hu,.nil,k,Q,_,h2=>by
  simp only[List.zip_nil_right,List.zipIdx_nil,List.forIn_nil]
  exact wpAny_pure (h2 (by simp[HT.Zb1]))
 |_,_,_,_,.cons (ns:=ns) (vs:=us) n t hu,.cons (ns:=ms) (vs:=vs) m u hv,k,Q,h1,h2=>by
  rw[List.zip_cons_cons,List.zipIdx_cons,List.forIn_cons]
  obtain ⟨e,he,hi⟩:=HT.Zjw A s n t m u
  refine wpAny_bind (wpAny_bind (he prog w _ _ ?_))
  cases e with
  |true=>
   have:n=m:=hi.mp rfl
   subst this
   refine wpAny_pure (ZgM hu hv (k + 1) Q (fun b hb=>h1 b ?_) fun z=>h2 ?_)
   ·rw[HT.Zbh,if_pos rfl];exact hb
   ·rw[HT.Zbh,if_pos rfl,z];simp
  |false=>
   have:n≠m:=fun z=>by have:=hi.mpr z;cases this
   refine wpAny_bind (ZiH (wpAny_pure (wpAny_pure (h1 _ ?_))))
   rw[HT.Zbh,if_neg this]
noncomputable def Zdg (h:Heap) (v:Value) (ns:List Int):Prop:= ∃ a o its n,v= .ref a/\h.get? a=some o/\o.cls= .type "tuple"/\o.data= .seq its n/\IntsAre its.toList ns
theorem Zfw: ∀ {us:List Value} {ns ms:List Int},IntsAre us ns->IntsAre us ms->ns=ms
 |_,_,_,.nil,.nil=>rfl
 |_,_,_,.cons n t h,.cons _ _ g=>by rw[Zfw h g]
theorem Zdg.uniq {h:Heap} {v:Value} {ns ms:List Int} (a:Zdg h v ns) (b:Zdg h v ms):ns=ms:=by
 obtain ⟨p,o,its,n,rfl,e1,e2,e3,e4⟩:=a
 obtain ⟨p',o',its',n',e5,f1,f2,f3,f4⟩:=b
 cases e5
 rw[e1] at f1
 cases f1
 rw[e3] at f3
 cases f3
 exact Zfw e4 f4
theorem Zdg.kept {h h':Heap} {v:Value} {ns:List Int} (a:Zdg h v ns) (k: ∀ p o,h.get? p=some o->o.cls= .type "tuple"->h'.get? p=some o):Zdg h' v ns:=by
 obtain ⟨p,o,its,n,e0,e1,e2,e3,e4⟩:=a
 exact ⟨p,o,its,n,e0,k p o e1 e2,e2,e3,e4⟩
theorem Zqr {x y:Value} {ns ms:List Int} {Q:Bool->Shared->Prop} (hx:Zdg s.heap x ns) (hy:Zdg s.heap y ms) (q:Q (HT.Zb1 ns ms) s):wpAny (model prog w) A (keyLt' (tuples' true) x y) Q E s:=by
 obtain ⟨a,o,its,n,rfl,e1,e2,e3,e4⟩:=hx
 obtain ⟨b,o',its',n',rfl,f1,f2,f3,f4⟩:=hy
 rw[ZiG]
 refine wpAny_bind (listItems_at e1 e3 (wpAny_bind (listItems_at f1 f3 ?_)))
 show wpAny _ _ (forIn ((its.toList.zip its'.toList).zipIdx 0) (none,()) ZnQ >>= _) _ _ _
 refine wpAny_bind (ZgM e4 f4 0 _ (fun b hb=> ?_) fun z=> ?_)
 ·rw[hb];exact wpAny_pure q
 ·show wpAny _ _ (pure (decide (its.size < its'.size))) _ _ _
  rw[show decide (its.size < its'.size)=HT.Zb1 ns ms by rw[z];simp]
  exact wpAny_pure q
open Classical in
noncomputable def kfH (h:Heap) (p:Keyed):List Int:=if e: ∃ ns,Zdg h p.1 ns then e.choose else []
theorem ZkP {h:Heap} {p:Keyed} {ns:List Int} (e:Zdg h p.1 ns):kfH h p=ns:=by
 unfold kfH
 rw[dif_pos ⟨ns,e⟩]
 exact (Exists.choose_spec (⟨ns,e⟩: ∃ ns,Zdg h p.1 ns)).uniq e
structure TB (a₀:Array Keyed) (st:SortSt):Prop where
 perm:(arrOf st).Perm a₀
 kind:kindOf st=tuples' true
 fail:failedOf st=none
 pend:pendingOf st= #[]
theorem Zqs {a₀:Array Keyed} (hk: ∀ p∈a₀.toList,∃ ns,Zdg s.heap p.1 ns):Cm (model prog w) A E s (kfH s.heap) (TB a₀) a₀.size where
 sz st h:=h.perm.size_eq
 put st xs h hp:=⟨hp.trans h.perm,h.kind,h.fail,h.pend⟩
 cmp st i j Q h hi hj q:=by
  have sz:=h.perm.size_eq
  have gt: ∀ k,k < a₀.size-> ∃ x p ns,(arrOf st)[k]?=some (x,p)/\Zdg s.heap x ns/\ky (kfH s.heap) (arrOf st) k=ns:=fun k kk=>by
   have kl:k < (arrOf st).size:=by omega
   have e:(arrOf st)[k]?=some (arrOf st)[k]:=getElem?_pos _ k kl
   obtain ⟨ns,ht⟩:=hk _ ((Array.perm_iff_toList_perm.mp h.perm).mem_iff.mp (show (arrOf st)[k]∈(arrOf st).toList by simp))
   refine ⟨(arrOf st)[k].1,(arrOf st)[k].2,ns,e,ht,?_⟩
   unfold ky
   rw[e]
   exact ZkP ht
  obtain ⟨x,p,ns,e1,t1,k1⟩:=gt i hi
  obtain ⟨y,p',ms,e2,t2,k2⟩:=gt j hj
  rw[k1,k2] at q
  rw[ltAt'_eq]
  refine wpS_bind (wpS_get ?_)
  show wpS _ _ _ _ (elem' (arrOf st) i >>= fun x=>elem' (arrOf st) j >>= fun y=>lt' x y) Q st
  rw[elem'_eq,elem'_eq,e1,e2]
  refine wpS_bind (wpS_pure (wpS_bind (wpS_pure ?_)))
  rw[lt'_eq]
  refine wpS_bind (wpS_get ?_)
  rw[h.kind]
  exact wpS_bind (wpS_lift (wpAny_attempt (Zqr t1 t2 ⟨rfl,wpS_pure q⟩)))
theorem Zqt {a₀:Array Keyed}:Cn (TB a₀):=⟨fun _ h=>h.fail,fun _ h=>h.pend⟩
theorem ZlT {v:Value} {n:Int} {ns:List Int} {Q:Option Value->Shared->Prop} (h:Zdg s.heap v (n :: ns)) (q: ∀ t,Q (some (.int n t)) s):wpAny (model prog w) A (firstOfTuple' v) Q E s:=by
 obtain ⟨a,o,its,m,rfl,e1,e2,e3,e4⟩:=h
 have e:firstOfTuple' (.ref a)=(do
  if (<- typeOf (.ref a)) != .type "tuple" then return none
  return (<- Builtin.List.listItems (.ref a))[0]?):=rfl
 rw[e]
 refine wpAny_bind (wpAny_typeOf ⟨o,e1,e2⟩ ?_)
 rw[if_neg (by decide)]
 refine wpAny_bind (listItems_at e1 e3 (wpAny_pure ?_))
 cases its with
 |mk l=>
  cases e4 with
  |cons n t h=>exact q t
theorem ZgN: ∀ {vs:List Value},(∀ v∈vs,∃ n ns,Zdg s.heap v (n :: ns))-> ∀ (Q:List (Option Value)->Shared->Prop),(∀ us ns,IntsAre us ns->us.length=vs.length->Q (us.map some) s)->wpAny (model prog w) A (vs.mapM firstOfTuple') Q E s
 | [],_,Q,q=>by
  rw[List.mapM_nil]
  exact wpAny_pure (q [] [] .nil rfl)
 |v :: vs,h,Q,q=>by
  obtain ⟨n,ns,hv⟩:=h v (by simp)
  rw[List.mapM_cons]
  refine wpAny_bind (ZlT hv fun t=>wpAny_bind (ZgN (fun x hx=>h x (List.mem_cons_of_mem _ hx)) _ fun us ms hi hl=>wpAny_pure ?_))
  exact q (.int n t :: us) (n :: ms) (.cons n t hi) (by simp[hl])
theorem ZnR {vs:List Value} {Q:SortKind->Shared->Prop} (h: ∀ v∈vs,∃ n ns,Zdg s.heap v (n :: ns)) (ne:vs≠[]) (q:Q (tuples' true) s):wpAny (model prog w) A (keyKind' vs.toArray) Q E s:=by
 rw[keyKind'_eq,List.mapM_toArray]
 simp only[map_eq_pure_bind,bind_assoc,pure_bind]
 refine wpAny_bind (ZgN h _ fun us ns hi hl=> ?_)
 have a1:((us.map some).toArray.all fun x=>x.isSome)=true:=by simp
 rw[if_pos a1]
 refine wpAny_bind (wpAny_rule ?_)
 have a2:(us.map some).toArray.filterMap id=us.toArray:=by simp
 rw[a2,oneTypeOnly'_eq,List.mapM_toArray,mapM_typeOf_ints hi]
 cases us with
 |nil=>exact absurd (List.eq_nil_of_length_eq_zero hl.symm) ne
 |cons u us=>
  simp only[map_pure,pure_bind]
  have b0:(List.map (fun _=>Value.type "int") (u :: us)).toArray[0]?=some (Value.type "int"):=by simp
  have b1:((List.map (fun _=>Value.type "int") (u :: us)).toArray.all fun x=>x == Value.type "int")=true:=by
   rw[List.all_toArray,List.all_map,List.all_eq_true]
   exact fun _ _=>rfl
  rw[b0]
  show wpAny _ _ (pure (if ((List.map (fun _=>Value.type "int") (u :: us)).toArray.all fun x=>x == Value.type "int")=true then some (Value.type "int") else none) >>= _) _ _ _
  rw[if_pos b1]
  exact wpAny_bind (wpAny_pure (wpAny_pure q))
theorem ZnS {a:Addr} {vs:List Value} {n:Nat} {P:Fin->Shared->Prop} (ho:s.heap.get? a=some (seqObj "list" vs.toArray n)) (hk: ∀ v∈vs,∃ k ns,Zdg s.heap v (k :: ns)) (h64:vs.length < 64)
  (q: ∀ out:List Value,out.Perm vs->(∀ i j (hi:i < out.length) (hj:j < out.length),i<=j-> ∀ ns ms,Zdg s.heap out[i] ns->Zdg s.heap out[j] ms->HT.Zb1 ms ns=false)->P (.done (.ret .none)) { s with heap:=sortedHeap s.heap a vs out.toArray }):
  wpAny (model prog w) A (Builtin.«list.sort» ⟨[.ref a],[]⟩) P E s:=by
 have al:a < s.heap.objs.size:=Heap.lt_size ho
 obtain ⟨e1,o1⟩: ∃ e1,(s.heap.update a (Obj.mapSeq fun _=> #[])).get? a=some (seqObj "list" #[] e1):=⟨_,get?_update_seq ho (fun _=> #[])⟩
 have o2:(((s.heap.update a (Obj.mapSeq fun _=> #[])).push (seqObj "tuple" vs.toArray 0)).push (seqObj "list" #[] 0)).get? a=some (seqObj "list" #[] e1):=
  Heap.get?_push_of_some _ (Heap.get?_push_of_some _ o1)
 have kp: ∀ v ns,Zdg s.heap v ns->Zdg (((s.heap.update a (Obj.mapSeq fun _=> #[])).push (seqObj "tuple" vs.toArray 0)).push (seqObj "list" #[] 0)) v ns:=fun v ns ht=>ht.kept fun p o ep ec=>by
  have:p≠a:=fun z=>by
   subst z
   rw[ho] at ep
   cases ep
   revert ec
   show ¬ (Value.type "list"=Value.type "tuple")
   decide
  exact Heap.get?_push_of_some _ (Heap.get?_push_of_some _ ((Heap.get?_update_other _ _ (Ne.symm this)).trans ep))
 rw[list_sort_plain]
 refine wpAny_bind (listItems_at ho rfl (wpAny_bind (listUpdate_at ho rfl (wpAny_bind (seqEpoch_at o1 rfl (wpAny_bind (wpAny_newTuple (wpAny_bind (wpAny_newList (wpAny_holding ?_))))))))))
 show wpAny _ _ _ P E { s with heap:=((s.heap.update a (Obj.mapSeq fun _=> #[])).push (seqObj "tuple" vs.toArray 0)).push (seqObj "list" #[] 0) }
 have vz:vs.toArray.size=vs.length:=by simp
 have fin: ∀ xs:Array Keyed,xs.Perm (pairsOf vs)->(∀ i j,i<=j->j < vs.length->le (ky (kfH (((s.heap.update a (Obj.mapSeq fun _=> #[])).push (seqObj "tuple" vs.toArray 0)).push (seqObj "list" #[] 0))) xs i) (ky (kfH (((s.heap.update a (Obj.mapSeq fun _=> #[])).push (seqObj "tuple" vs.toArray 0)).push (seqObj "list" #[] 0))) xs j))->
   P (.done (.ret .none)) { s with heap:=sortedHeap s.heap a vs (xs.map (·.2)) }:=by
  intro xs hp hu
  have hl:xs.toList.Perm (vs.zip vs):=by rw[<- pairsOf_toList];exact Array.perm_iff_toList_perm.mp hp
  have hm: ∀ p∈xs.toList,p.1=p.2/\p.1∈vs:=fun p hp=>mem_zip_self (hl.mem_iff.mp hp)
  have e2:(xs.toList.map (·.2)).Perm vs:=by
   have:=hl.map (fun p:Keyed=>p.2)
   rwa [List.map_snd_zip (Nat.le_refl _)] at this
  have ea:xs.map (·.2)=(xs.toList.map (·.2)).toArray:=by
   apply Array.toList_inj.mp
   simp
  rw[ea]
  refine q _ e2 fun i j hi hj ij ns ms t1 t2=> ?_
  have li:i < xs.size:=by simpa using hi
  have lj:j < xs.size:=by simpa using hj
  have lv:xs.size=vs.length:=by rw[hp.size_eq,pairsOf_size]
  have kk: ∀ k (hk:k < xs.size) (ns:List Int),Zdg s.heap (xs[k]).2 ns->ky (kfH (((s.heap.update a (Obj.mapSeq fun _=> #[])).push (seqObj "tuple" vs.toArray 0)).push (seqObj "list" #[] 0))) xs k=ns:=fun k hk ns ht=>by
   unfold ky
   rw[getElem?_pos xs k hk]
   exact ZkP (kp _ _ (by rw[(hm xs[k] (by simp)).1];exact ht))
  have:=hu i j ij (by omega)
  rw[kk i li ns (by simpa using t1),kk j lj ms (by simpa using t2)] at this
  exact this
 have Zdc: ∀ st':SortSt,(arrOf st').Perm (pairsOf vs)->failedOf st'=none->(∀ i j,i<=j->j < vs.length->le (ky (kfH (((s.heap.update a (Obj.mapSeq fun _=> #[])).push (seqObj "tuple" vs.toArray 0)).push (seqObj "list" #[] 0))) (arrOf st') i) (ky (kfH (((s.heap.update a (Obj.mapSeq fun _=> #[])).push (seqObj "tuple" vs.toArray 0)).push (seqObj "list" #[] 0))) (arrOf st') j))->
   wpAny (model prog w) A (do
    let b <- seqEpoch a
    Builtin.List.listUpdate (.ref a) fun _=>(arrOf st').map (·.2)
    if let some e:=failedOf st' then rule "list.sort.comparison-raised";throw e
    if (b != e1)=true then rule "list.sort.modified";raiseError "ValueError" "list modified during sort"
    ret .none) P E { s with heap:=((s.heap.update a (Obj.mapSeq fun _=> #[])).push (seqObj "tuple" vs.toArray 0)).push (seqObj "list" #[] 0) }:=by
  intro st' hp hf hu
  refine wpAny_bind (seqEpoch_at o2 rfl (wpAny_bind (listUpdate_at o2 rfl ?_ (hsz2:= ?_))))
  ·rw[hf]
   simp only[bne_self_eq_false,Bool.false_eq_true,if_false]
   exact wpAny_pure (fin _ hp hu)
  ·rw[Array.size_map,hp.size_eq,pairsOf_size,sizeLine_eq];omega
 by_cases c:vs.toArray.size < 2
 ·rw[if_pos c,if_pos c]
  refine wpAny_bind (wpAny_pure ?_)
  show wpAny _ _ ((pure ():StateT SortSt Sem Unit).run (SortSt.mk' general' (vs.toArray.zip vs.toArray) #[] 7 none) >>= _) _ _ _
  rw[StateT.run_pure]
  exact wpAny_bind (wpAny_pure (Zdc (SortSt.mk' general' (vs.toArray.zip vs.toArray) #[] 7 none) (Array.Perm.refl _) rfl fun i j ij jn=>by rw[show i=j by omega];exact Zey _))
 ·rw[if_neg c,if_neg c]
  refine wpAny_bind (ZnR (fun v hv=> ?_) (fun z=> ?_) (wpAny_bind (wpAny_mono (ZnP (N:=(pairsOf vs).size) (Q:=fun _ t'=> ∃ t,TB (pairsOf vs) t/\arrOf t'=arrOf t/\failedOf t'=none/\Up (kfH (((s.heap.update a (Obj.mapSeq fun _=> #[])).push (seqObj "tuple" vs.toArray 0)).push (seqObj "list" #[] 0))) (arrOf t) (pairsOf vs).size) (Zqs fun p hp=> ?_) Zqt (by rw[pairsOf_size];omega) (by rw[pairsOf_size];exact h64) ⟨Array.Perm.refl _,rfl,rfl,rfl⟩ fun t t' a1 a2 a3 a4=>⟨t,a1,a2,a3,a4⟩) ?_ fun _ _ z=>z)))
  ·obtain ⟨k,ns,ht⟩:=hk v hv
   exact ⟨k,ns,kp _ _ ht⟩
  ·rw[z] at c;simp at c
  ·rw[pairsOf_toList] at hp
   obtain ⟨k,ns,ht⟩:=hk p.1 (mem_zip_self hp).2
   exact ⟨_,kp _ _ ht⟩
  ·rintro ⟨⟨⟩,t'⟩ s' ⟨rfl,t,tb,ea,ef,hu⟩
   rw[pairsOf_size] at hu
   exact Zdc t' (by rw[ea];exact tb.perm) ef (by rw[ea];exact hu)
theorem ZjT {l:Addr} {vs:List Value} {Q:Value->Shared->Prop} (hl:s.heap.IsList l vs.toArray) (hk: ∀ v∈vs,∃ k ns,Zdg s.heap v (k :: ns)) (h64:vs.length < 64)
  (q: ∀ out:List Value,out.Perm vs->(∀ i j (hi:i < out.length) (hj:j < out.length),i<=j-> ∀ ns ms,Zdg s.heap out[i] ns->Zdg s.heap out[j] ms->HT.Zb1 ms ns=false)->Q (.ref (s.heap.objs.size + 1)) { s with heap:=sortedAll s.heap vs out.toArray }):
  wpAny (model prog w) A (call (.builtin "sorted") [.ref l]) Q E s:=by
 have z1:((s.heap.push (seqObj "list" #[] 0)).update s.heap.objs.size (Obj.mapSeq (· ++ vs.toArray))).objs.size=s.heap.objs.size + 1:=by rw[Heap.size_update,size_push']
 have o1:(((s.heap.push (seqObj "list" #[] 0)).update s.heap.objs.size (Obj.mapSeq (· ++ vs.toArray))).push (seqObj "list" vs.toArray 0)).get? (s.heap.objs.size + 1)=some (seqObj "list" vs.toArray 0):=by
  rw[<- z1];exact Heap.get?_push_size _ rfl
 have kp: ∀ p o,s.heap.get? p=some o->(((s.heap.push (seqObj "list" #[] 0)).update s.heap.objs.size (Obj.mapSeq (· ++ vs.toArray))).push (seqObj "list" vs.toArray 0)).get? p=some o:=fun p o ep=>
  Heap.get?_push_of_some _ ((Heap.get?_update_other _ _ (Nat.ne_of_gt (Heap.lt_size ep))).trans (Heap.get?_push_of_some _ ep))
 refine Calls.call_function_entry kind_sorted plain_sorted entry_sorted (args_sorted1 _) ?_
 unfold Builtin.«sorted»
 refine wpAny_bind (m:=checkCount "sorted" 1 1 _) (wpAny_pure (wpAny_bind (collect_list hl (wpAny_bind (wpAny_newList ?_)))))
 show wpAny _ _ _ _ _ { s with heap:=((s.heap.push (seqObj "list" #[] 0)).update s.heap.objs.size (Obj.mapSeq (· ++ vs.toArray))).push (seqObj "list" vs.toArray 0) }
 rw[z1]
 refine wpAny_bind (wpAny_holding (wpAny_call_entry slot_list_sort ⟨_,o1,rfl⟩ entry_list_sort (ZnS o1 (fun v hv=> ?_) h64 fun out hp hs=>⟨_,rfl,wpAny_pure ⟨_,rfl,q out hp fun i j hi hj ij ns ms t1 t2=>hs i j hi hj ij ns ms (t1.kept fun p o e _=>kp p o e) (t2.kept fun p o e _=>kp p o e)⟩⟩) (args_list_sort _)))
 obtain ⟨k,ns,ht⟩:=hk v hv
 exact ⟨k,ns,ht.kept fun p o e _=>kp p o e⟩
end
end ST
end
section
namespace ST
noncomputable def ins (x:List Int):List (List Int)->List (List Int)
 | []=>[x]
 |y :: r=>if lt y x=true then y :: ins x r else x :: y :: r
noncomputable def srt:List (List Int)->List (List Int)
 | []=>[]
 |x :: r=>ins x (srt r)
theorem Zez (x:List Int): ∀ l,(ins x l).Perm (x :: l)
 | []=> .refl _
 |y :: r=>by
  unfold ins
  split
  ·exact ((Zez x r).cons y).trans (.swap x y r)
  ·exact .refl _
theorem ZgO: ∀ l,(srt l).Perm l
 | []=> .refl _
 |x :: r=>(Zez x (srt r)).trans ((ZgO r).cons x)
theorem ZkQ (x:List Int): ∀ l,l.Pairwise le->(ins x l).Pairwise le
 | [],_=>List.pairwise_singleton _ _
 |y :: r,h=>by
  obtain ⟨h1,h2⟩:=List.pairwise_cons.mp h
  unfold ins
  split
  ·rename_i c
   refine List.pairwise_cons.mpr ⟨fun z hz=> ?_,ZkQ x r h2⟩
   rcases List.mem_cons.mp ((Zez x r).mem_iff.mp hz) with rfl | hz
   ·exact ZiD c
   ·exact h1 z hz
  ·rename_i c
   have c:le x y:=by unfold le;simpa using c
   refine List.pairwise_cons.mpr ⟨fun z hz=> ?_,h⟩
   rcases List.mem_cons.mp hz with rfl | hz
   ·exact c
   ·exact Zhc c (h1 z hz)
theorem ZkR: ∀ l,(srt l).Pairwise le
 | []=> .nil
 |x :: r=>ZkQ x _ (ZkR r)
theorem ZjU {a b:List (List Int)} (hp:a.Perm b) (h:a.Pairwise le):a=srt b:=
 List.Perm.eq_of_pairwise (fun x y _ _ h1 h2=>Zfv h2 h1) h (ZkR b) (hp.trans (ZgO b).symm)
end ST
namespace DL
open PySem PySem.Spec PyProof.Rows L2 PySem.W
theorem ZdL {α β:Type} {F:α->β->Prop} {us us':List β} (hp:us'.Perm us): ∀ {xs:List α},Paired F xs us-> ∃ xs',xs'.Perm xs/\Paired F xs' us':=by
 induction hp with
 |nil=>intro xs h;exact ⟨xs,.refl _,h⟩
 | @cons a l1 l2 h ih=>
  intro xs r
  cases r with
  |cons r1 r2=>
   obtain ⟨xs',p1,p2⟩:=ih r2
   exact ⟨_ :: xs',p1.cons _,.cons r1 p2⟩
 |swap a b l=>
  intro xs r
  cases r with
  |cons r1 r2=>
   cases r2 with
   |cons r2 r3=>exact ⟨_ :: _ :: _,.swap _ _ _,.cons r2 (.cons r1 r3)⟩
 |trans h1 h2 i1 i2=>
  intro xs r
  obtain ⟨x1,p1,q1⟩:=i2 r
  obtain ⟨x2,p2,q2⟩:=i1 q1
  exact ⟨x2,p2.trans p1,q2⟩
theorem ZiI {K:PySem.W.Frag} {H:Hp} {α:List Addr} {vs vs':List V} (hp:vs'.Perm vs): ∀ {ds:List D},Reps K H α vs ds-> ∃ ds',ds'.Perm ds/\Reps K H α vs' ds':=by
 induction hp with
 |nil=>intro xs h;exact ⟨xs,.refl _,h⟩
 | @cons a l1 l2 h ih=>
  intro xs r
  cases r with
  |cons r1 r2=>
   obtain ⟨xs',p1,p2⟩:=ih r2
   exact ⟨_ :: xs',p1.cons _,.cons r1 p2⟩
 |swap a b l=>
  intro xs r
  cases r with
  |cons r1 r2=>
   cases r2 with
   |cons r2 r3=>exact ⟨_ :: _ :: _,.swap _ _ _,.cons r2 (.cons r1 r3)⟩
 |trans h1 h2 i1 i2=>
  intro xs r
  obtain ⟨x1,p1,q1⟩:=i2 r
  obtain ⟨x2,p2,q2⟩:=i1 q1
  exact ⟨x2,p2.trans p1,q2⟩
noncomputable def ZmG (K:PySem.W.Frag) (H:Hp) (x:V) (ns:List Int):Prop:= ∃ q,x= .ref q/\SqT K H q (ns.map V.int)
section
variable {X:Cx} {ξ:XK}
noncomputable def Zqu (X:Cx):List V->Hp->VK->Prop:=fun vs H Q=> ∃ p xs,vs=[.ref p]/\SqL X.K H p xs/\xs.length < 64/\(∀ x∈xs,∃ k ns,ZmG X.K H x (k :: ns))/\
 ∀ l ys,H l=none->ys.Perm xs->(∀ i j (hi:i < ys.length) (hj:j < ys.length),i<=j-> ∀ ns ms,ZmG X.K H ys[i] ns->ZmG X.K H ys[j] ms->ST.le ns ms)->Q (.ref l) (upd H l (.lst ys))
theorem ZeA {pins:List (Addr × Obj)} {σ:L2.St} {H:Hp} {s:Shared} (I:Inv X pins σ H s) {x:V} {u:Value} {ns:List Int} (h:ZmG X.K H x ns) (r:Zax x u):ST.Zdg s.heap u ns:=by
 obtain ⟨q,rfl,hq⟩:=h
 cases r
 obtain ⟨its,r2,⟨o,k1,k2,n,k3⟩,_⟩:=I.tuple hq
 exact ⟨q,o,its.toArray,n,rfl,k1,k2,k3,by simpa using Zg2 r2⟩
theorem ZdM:Zcm X (.builtin "sorted") (Zqu X):=by
 intro pins s σ H vs us Q I rs hh
 obtain ⟨p,xs,e,hl,h64,hk,q⟩:=hh
 subst e
 obtain ⟨u,rfl,ru⟩:=ZcV rs
 cases ru
 obtain ⟨its,rv,pl,hz⟩:=I.list hl
 refine ST.ZjT (vs:=its) pl.isList (fun v hv=> ?_) (by rw[<- rv.length];exact h64) fun out hp hs=> ?_
 ·obtain ⟨i,hi,rfl⟩:=List.getElem_of_mem hv
  obtain ⟨x,e1,e2⟩:=Ziw rv (List.getElem?_eq_getElem hi)
  obtain ⟨k,ns,hx⟩:=hk x (List.mem_of_getElem? e1)
  exact ⟨k,ns,ZeA I hx e2⟩
 ·obtain ⟨ys,p1,p2⟩:=ZdL hp rv
  obtain ⟨n,hn⟩:=sortedAll_at s.heap its out.toArray
  refine ⟨.ref _,_,I.laid (t':=s.toks) (o:= .lst ys) (fun _ _ h=>sortedAll_old h) (Nat.le_succ _) ⟨by rw[p1.length_eq];exact hz,out,n,p2,hn⟩,rfl,q _ ys (I.hok.fresh (Nat.le_succ _)) p1 fun i j hi hj ij ns ms k1 k2=> ?_⟩
  have hl:ys.length=out.length:=Zam.length p2
  have a1: ∀ i (hi:i < ys.length),Zax ys[i] (out[i]'(by omega)):=fun i hi=>by
   obtain ⟨u,e1,e2⟩:=Zam.get p2 (List.getElem?_eq_getElem hi)
   rw[List.getElem?_eq_getElem (by omega)] at e1
   cases e1
   exact e2
  exact hs i j (by omega) (by omega) ij ns ms (ZeA I k1 (a1 i hi)) (ZeA I k2 (a1 j hj))
theorem Zfx:bootBuiltins "sorted"=some (.builtin "sorted"):=by decide +kernel
noncomputable def kyD:D->Option (List Int)
 | .tup xs=>(match Zft xs with | some (k :: ns)=>some (k :: ns) | _=>none)
 |_=>none
noncomputable def ksD:List D->Option (List (List Int))
 | []=>some []
 |d :: r=>match kyD d,ksD r with | some k,some ks=>some (k :: ks) | _,_=>none
noncomputable def tupD (ns:List Int):D:= .tup (ns.map D.int)
noncomputable def ZjV (ds:List D) (M:Sto):Out D:=if ds.length < 64 then (match ksD ds with | some ks=> .ok (.ref M.length) (M ++ [.lst ((ST.srt ks).map tupD)]) | none=> .bad) else .bad
noncomputable def bSrt:List D->Sto->Out D:=fun ds M=>match ds with
 | [.ref n]=>(match M[n]? with | some (.lst xs)=>ZjV xs M | none=> .bad)
 | [.rol xs]=>ZjV xs M
 |_=> .bad
theorem Zfy: ∀ {xs:List D} {a:List Int},Zft xs=some a->xs=a.map D.int
 | [],a,e=>by cases e;rfl
 |x :: r,a,e=>by
  cases x with
  |int i=>
   unfold Zft at e
   split at e
   ·rename_i is e1
    cases e
    rw[Zfy e1]
    rfl
   ·cases e
  |_=>cases e
theorem Zfz: ∀ a:List Int,Zft (a.map D.int)=some a
 | []=>rfl
 |i :: r=>by rw[List.map_cons,Zft,Zfz r]
theorem ZnT {d:D} {ns:List Int} (h:kyD d=some ns):d=tupD ns/\ ∃ k r,ns=k :: r:=by
 unfold kyD at h
 split at h
 ·rename_i xs
  split at h
  ·rename_i k r e
   cases h
   exact ⟨by unfold tupD;rw[<- Zfy e],k,r,rfl⟩
  ·cases h
 ·cases h
theorem ZkS: ∀ {ds:List D} {ks:List (List Int)},ksD ds=some ks->ds=ks.map tupD/\ ∀ k∈ks,k≠[]
 | [],ks,e=>by cases e;exact ⟨rfl,fun k hk=>by cases hk⟩
 |d :: r,ks,e=>by
  unfold ksD at e
  split at e
  ·rename_i k ks' e1 e2
   cases e
   obtain ⟨h1,h2⟩:=ZkS e2
   obtain ⟨h3,k0,r0,h4⟩:=ZnT e1
   refine ⟨by rw[List.map_cons,<- h1,<- h3],fun x hx=> ?_⟩
   rcases List.mem_cons.mp hx with rfl | hx
   ·rw[h4];exact List.cons_ne_nil _ _
   ·exact h2 x hx
  ·cases e
theorem ZiJ {H:Hp} {α:List Addr} {v:V} {ns:List Int} (r:Rep X.K H α v (tupD ns)):ZmG X.K H v ns:=by
 cases r with
 |tup hp rp=>
  have:=Zfu rp (Zfz ns)
  subst this
  exact ⟨_,rfl,SqT.of hp⟩
theorem ZfA:CO X ξ (Zqu X) bSrt:=by
 intro H α M vs ds Q h rs q
 have fin: ∀ (p:Addr) (xs:List V) (ys:List D),SqL X.K H p xs->Reps X.K H α xs ys->OP X.K H α ξ Q (ZjV ys M)->Zqu X [.ref p] H Q:=fun p xs ys k1 k2 q=>by
  unfold ZjV at q
  split at q
  ·rename_i c
   cases e:ksD ys with
   |none=>simp only[e] at q;exact q.elim
   |some ks=>
    simp only[e] at q
    obtain ⟨e1,e2⟩:=ZkS e
    subst e1
    refine ⟨p,xs,rfl,k1,by rw[k2.length];exact c,fun x hx=> ?_,fun l zs hl hp hs=> ?_⟩
    ·obtain ⟨i,hi,rfl⟩:=List.getElem_of_mem hx
     obtain ⟨d,d1,d2⟩:=Zgd k2 (List.getElem?_eq_getElem hi)
     obtain ⟨k,hk,rfl⟩:=List.mem_map.mp (List.mem_of_getElem? d1)
     match k,e2 k hk,d2 with
     |a :: b,_,d2=>exact ⟨a,b,ZiJ d2⟩
     | [],z,_=>exact absurd rfl z
    ·obtain ⟨ds',p1,p2⟩:=ZiI hp k2
     obtain ⟨ks',p3,p4⟩: ∃ ks':List (List Int),ks'.Perm ks/\ds'=ks'.map tupD:=by
      have:Paired (fun (a:List Int) d=>d=tupD a) ks (ks.map tupD):=by
       clear k2 c e p1 hp e2 q
       induction ks with
       |nil=>exact .nil
       |cons a b ih=>exact .cons rfl ih
      obtain ⟨ks',q1,q2⟩:=ZdL p1 this
      refine ⟨ks',q1,?_⟩
      clear q1 p1 p2
      induction q2 with
      |nil=>rfl
      |cons h _ ih=>rw[List.map_cons,h,ih]
     subst p4
     have hup:ks'.Pairwise ST.le:=by
      refine List.pairwise_iff_getElem.mpr fun i j hi hj ij=> ?_
      have lz:zs.length=ks'.length:=by rw[p2.length,List.length_map]
      have kk: ∀ i (hi:i < ks'.length),ZmG X.K H (zs[i]'(by omega)) ks'[i]:=fun i hi=>by
       obtain ⟨d,d1,d2⟩:=Zgd p2 (List.getElem?_eq_getElem (show i < zs.length by omega))
       rw[List.getElem?_map,List.getElem?_eq_getElem hi] at d1
       cases d1
       exact ZiJ d2
      exact hs i j (by omega) (by omega) (Nat.le_of_lt ij) _ _ (kk i hi) (kk j hj)
     rw[ST.ZjU p3 hup] at p2
     exact q _ _ (α ++ [l]) (Ext.new hl) (h.new hl p2) (.ref ⟨h.last l,Kn.lst ZJ⟩)
  ·exact q.elim
 match rs with
 | .nil=>exact q.elim
 | .cons r (.cons _ _)=>cases r<;>exact q.elim
 | .cons (d:=x) r .nil=>
  cases r with
  | @rol p xs ds hp rp=>exact fin p xs ds hp.sq rp q
  | @ref p n hp=>
   cases em:M[n]? with
   |none=>simp only[bSrt,em] at q;exact q.elim
   |some so=>
    cases so with
    |lst es=>
     simp only[bSrt,em] at q
     obtain ⟨xs,g1,g2⟩:=h.at hp em
     exact fin p xs es (SqL.of g1) g2 q
  |_=>exact q.elim
end
end DL
end
section
namespace DL
open PySem PySem.Spec PyProof.Rows L2
theorem ZlU {g:Sv} {n k:Nat} {ds:List D} {M M':Sto} {d:D} (hl:ds.length=n) (h:g (ds.map some ++ List.replicate k none) M= .ret d M'):fnF g n k ds M= .ok d M':=by
 unfold fnF
 rw[if_pos hl,h]
theorem ZiK {g h:Sv} {ρ ρ1:Ro} {M M1:Sto} (e:g ρ M= .nx ρ1 M1):ZD g h ρ M=h ρ1 M1:=by
 unfold ZD
 rw[e]
theorem ZiL {i j:Int} (h1: -(2 ^ 64) < j) (h2:j < 2 ^ 64):Zau i j:= .inr (.inl (intBits_le_64 h1 h2))
theorem ZiM {i j:Int} (h1: -(2 ^ 64) < i) (h2:i < 2 ^ 64):Zau i j:= .inl (intBits_le_64 h1 h2)
theorem at0 {x:D} {r:List D}:atI (x :: r) 0=some x:=by
 show (ixN (r.length + 1) 0).bind _=_
 unfold ixN
 rw[if_pos (by decide),if_pos (by omega)]
 rfl
theorem at1 {x y:D} {r:List D}:atI (x :: y :: r) 1=some y:=by
 show (ixN (r.length + 2) 1).bind _=_
 unfold ixN
 rw[if_pos (by decide),if_pos (by omega)]
 rfl
theorem ix0 {n:Nat}:ixN (n + 1) 0=some 0:=by
 unfold ixN
 rw[if_pos (by decide),if_pos (by omega)]
 rfl
theorem ix1 {n:Nat}:ixN (n + 2) 1=some 1:=by
 unfold ixN
 rw[if_pos (by decide),if_pos (by omega)]
 rfl
theorem ZjW {ns:List Int} {k:Nat} (h:k < ns.length):atI (ns.map D.int) (k:Int)=some (.int ns[k]):=Zlt (by rw[List.getElem?_map,List.getElem?_eq_getElem h];rfl)
theorem ZgP {ρ:Ro} {i:Nat} {x:Option D} (h:ρ[i]?=some x):ρ.set i x=ρ:=by
 apply List.ext_getElem?
 intro k
 by_cases hk:k=i
 ·subst hk
  rw[List.getElem?_set_self (List.getElem?_eq_some_iff.mp h).1,h]
 ·rw[List.getElem?_set_ne (Ne.symm hk)]
noncomputable def cEu (i j:Nat):Sv:=Ze3 i j (Zc (Zg j) (Zc (e2 dMod (Zg i) (Zg j)) aNil))
theorem ZkT {c:Tv} {i j:Nat} {M:Sto} (hij:i≠j) (hc: ∀ (ρ:Ro) (b:Nat),ρ[j]?=some (some (.int b))->c ρ M= .ok (decide (b≠0)) M): ∀ (b a:Nat) (ρ:Ro),ρ[i]?=some (some (.int a))->ρ[j]?=some (some (.int b))->
  sWh c (cEu i j) ρ M= .nx ((ρ.set i (some (.int (Nat.gcd a b:Nat)))).set j (some (.int 0))) M:=by
 intro b
 induction b using Nat.strongRecOn with
 |ind b ih=>
  intro a ρ hi hj
  by_cases h0:b=0
  ·subst h0
   rw[Zfk (M1:=M) (by rw[hc ρ 0 hj];rfl),Nat.gcd_zero_right,ZgP hi,ZgP (x:=some (.int 0)) hj]
  ·have hl:i < ρ.length:=(List.getElem?_eq_some_iff.mp hi).1
   have hl2:j < ρ.length:=(List.getElem?_eq_some_iff.mp hj).1
   have ht:c ρ M= .ok true M:=by rw[hc ρ b hj,decide_eq_true h0]
   have hb:cEu i j ρ M= .nx ((ρ.set i (some (.int b))).set j (some (.int (a % b:Nat)))) M:=by
    have hb0: ¬ (b:Int)=0:=by omega
    have hm:(a:Int).fmod (b:Int)=((a % b:Nat):Int):=by rw[Int.fmod_eq_emod_of_nonneg _ (by omega)];rfl
    simp[cEu,Ze3,Zc,aNil,Zg,e2,dMod,Out.bind,Zba,hi,hj,hb0,hm,h0]
   have g1:((ρ.set i (some (.int b))).set j (some (.int (a % b:Nat))))[i]?=some (some (.int b)):=by
    rw[List.getElem?_set_ne (Ne.symm hij),List.getElem?_set_self hl]
   have g2:((ρ.set i (some (.int b))).set j (some (.int (a % b:Nat))))[j]?=some (some (.int (a % b:Nat))):=by
    rw[List.getElem?_set_self (by simpa using hl2)]
   have q:=ih (a % b) (Nat.mod_lt _ (by omega)) b _ g1 g2
   rw[ZgG ht hb (by rw[q];intro z;cases z),q]
   have eg:Nat.gcd b (a % b)=Nat.gcd a b:=by rw[Nat.gcd_comm b,<- Nat.gcd_rec,Nat.gcd_comm]
   rw[eg,List.set_comm _ _ (Ne.symm hij),List.set_set,List.set_set]
theorem ZnU {M:Sto} {a b:Int}:eqF 12 M (.int a) (.int b)=some (a == b):=rfl
theorem ne0 {j:Nat} {M:Sto} (ρ:Ro) (b:Nat) (h:ρ[j]?=some (some (.int b))):tv (e2 dNe (Zg j) (eC (.int 0))) ρ M= .ok (decide (b≠0)) M:=by
 simp[tv,e2,Zg,eC,h,Out.bind,dNe,ZnU]
 by_cases c:b=0
 ·subst c;rfl
 ·have: ¬ (b:Int)=0:=by omega
  simp[c,this]
theorem gt0 {j:Nat} {M:Sto} (ρ:Ro) (b:Nat) (h:ρ[j]?=some (some (.int b))):tv (e2 dGt (Zg j) (eC (.int 0))) ρ M= .ok (decide (b≠0)) M:=by
 simp[tv,e2,Zg,eC,h,Out.bind,dGt]
 by_cases c:b=0
 ·subst c;rfl
 ·have:0 < b:=by omega
  simp[c,this]
theorem ZiN (a:Int):(if a < 0 then -a else a)=(a.natAbs:Int):=by split<;>omega
noncomputable def Ztk:Sv:=(ZD (Ze3 2 3 (Zc (Zk bAbs (Zc (Zg 0) aNil)) (Zc (Zk bAbs (Zc (Zg 1) aNil)) aNil)))
 (ZD (sWh (tv (e2 dNe (Zg 3) (eC (.int 0)))) (Ze3 2 3 (Zc (Zg 3) (Zc (e2 dMod (Zg 2) (Zg 3)) aNil))))
 (ZN (Zg 2))))
noncomputable def FGcd:List D->Sto->Out D:=fnF Ztk 2 2
theorem ZnV (a b:Int) (M:Sto):FGcd [.int a,.int b] M= .ok (.int (Int.gcd a b:Nat)) M:=by
 refine ZlU rfl ?_
 refine (ZiK (ρ1:=[some (.int a),some (.int b),some (.int (a.natAbs:Nat)),some (.int (b.natAbs:Nat))]) (M1:=M) ?_).trans ?_
 ·simp[fnF,ZD,sNil,ZN,Znx,Zds,sIf,Z4,Ze3,ZpN,Zba,gNm,gNl,gCs,gTp,DL.e2,Zg,eC,Zao,Zcn,Zk,Zc,aNil,tv,ZcX,Zb2,Zaa,ZaT,Znk,Zg4,eIf,ZgC,ZdC,Out.bind,dAdd,dSub,dMul,dDiv,dMod,dPow,dLt,dLe,dGt,dGe,dIx,atD,at0,at1,ix0,ix1,bLen,bAbs,bMax,bMin,bInt,bList,Zer,Zbq,kd,ZcD,dIs,dIsNot,isP,ZiN]
 ·have q:=ZkT (c:=tv (e2 dNe (Zg 3) (eC (.int 0)))) (i:=2) (j:=3) (M:=M) (by decide) ne0 b.natAbs a.natAbs [some (.int a),some (.int b),some (.int (a.natAbs:Nat)),some (.int (b.natAbs:Nat))] rfl rfl
  refine (ZiK q).trans ?_
  rfl
end DL
end
section
end
section
namespace HD
open PySem PySem.W PyProof.Rows
noncomputable def ZpT (thr:Thread->Bool) (stp:SharedT->Thread->Option (SharedT × Thread)) (n:Nat):SharedT->Thread->Option SharedT:=
 Nat.rec (motive:=fun _=>SharedT->Thread->Option SharedT) (fun _ _=>none) (fun _ ih s t=>Bool.rec (motive:=fun _=>Option SharedT) (Option.rec (motive:=fun _=>Option SharedT) none (fun r=>ih r.1 r.2) (stp s t)) (some s) (thr t)) n
noncomputable def ZjX (ok:Thread->Bool) (stp:SharedT->Thread->Option (SharedT × Thread)) (s:SharedT) (t:Thread):Option (SharedT × Thread):=Bool.rec (motive:=fun _=>Option (SharedT × Thread)) none (stp s t) (ok t)
section
variable {tb:String->Option Builtin} {p:Program} {w:World} {n₀:Nat} {ann:Option Value}
theorem ZkU: ∀ {n:Nat} {s s':SharedT} {t:Thread},ZpT through (ZjX (stepOk n₀ ann) (stepT (denote tb) p w)) n s t=some s'->topRun tb p w n₀ ann n s.abs t=some s'.abs
 |0,s,s',t,h=>by cases h
 |n + 1,s,s',t,h=>by
  unfold topRun
  change Bool.rec (motive:=fun _=>Option SharedT) (Option.rec (motive:=fun _=>Option SharedT) none (fun r=>ZpT through (ZjX (stepOk n₀ ann) (stepT (denote tb) p w)) n r.1 r.2) (ZjX (stepOk n₀ ann) (stepT (denote tb) p w) s t)) (some s) (through t)=some s' at h
  cases ht:through t with
  |true=>
   rw[ht] at h
   have h':some s=some s':=h
   cases h'
   rfl
  |false=>
   rw[ht] at h
   cases hk:stepOk n₀ ann t with
   |false=>
    have e:ZjX (stepOk n₀ ann) (stepT (denote tb) p w) s t=none:=by unfold ZjX;rw[hk]
    rw[e] at h
    cases h
   |true=>
    have e:ZjX (stepOk n₀ ann) (stepT (denote tb) p w) s t=stepT (denote tb) p w s t:=by unfold ZjX;rw[hk]
    rw[e] at h
    cases hs:stepT (denote tb) p w s t with
    |none=>rw[hs] at h;cases h
    |some r=>
     obtain ⟨s2,t2⟩:=r
     rw[hs] at h
     have:=stepT_spec hs
     rw[this]
     exact ZkU (n:=n) h
end
noncomputable def T0 (w:World) (os:OsState):SharedT:=
 ⟨[boot_o_0,boot_o_1,boot_o_2,boot_o_3,boot_o_4,boot_o_5,boot_o_6,boot_o_7,boot_o_8,boot_o_9,boot_o_10].foldl (fun (r:Nat × BT) o=>(r.1 + 1,r.2.ins r.1 (o w.params))) (0,.nil) |>.2,11,(boot_heap w.params).life,#[],boot_drawn,boot_toks,os⟩
theorem ZnW (w:World) (os:OsState):(T0 w os).abs=⟨boot_heap w.params,#[],boot_drawn,boot_toks,os⟩:=by kernel_rfl
theorem ZlV:Str.ofString "__annotations__"=⟨#[95,95,97,110,110,111,116,97,116,105,111,110,115,95,95]⟩:=by decide +kernel
theorem ZiO {p q:Program} {loose:List Str} {Xt:Shared->Bool} {α:Type} {Yf:Shared->α} {Ya:World->α} {N M:Nat} (e:opening p=plainProg p.main.scope.names) (hN:Nat.ble 600 N=true) (f: ∀ s,fenceModules? p s=some s) (le:Nat.ble M N=true)
  (Zqv: ∀ (w:World) (os:OsState),(ZpT through (ZjX (stepOk 11 (some (.ref 6))) (stepT (denote treeTable) p w)) M (T0 w os) (topStub p)).map (fun s=>((staticsOk (importedModules p.main.body) (boot_heap w.params) s.abs.heap && namesBound p s.abs.heap && gensDone s.abs && laidKept (boot_heap w.params) s.abs.heap),
    openSeen q loose (importedModules p.main.body) Xt true s.abs,Yf s.abs))=some (true,openGood q loose,Ya w)):LeftO p q loose Xt Yf Ya N:=fun w=>by
 obtain ⟨⟨h,gs,d,k,os⟩,e1,e2⟩:=Option.map_eq_some_iff.mp (boot_open e hN f w)
 obtain ⟨rfl,rfl,rfl,rfl⟩:h=boot_heap w.params/\gs=Array.mk []/\d=boot_drawn/\k=boot_toks:=by simpa using e2
 obtain ⟨s',r1,r2⟩:=Option.map_eq_some_iff.mp (Zqv w os)
 obtain ⟨l1,l2,l3⟩:_/\_/\_:=by simpa only[Prod.mk.injEq] using r2
 have r:=ZkU r1
 rw[ZnW] at r
 have r:=topRun_mono (N - M) _ _ _ _ r
 rw[show M + (N - M)=N by have:=Nat.le_of_ble_eq_true le;omega] at r
 have z1:((boot_heap w.params).isNs mainGlobals && (Array.mk []:Array GenState).size == 0)=true:=by kernel_rfl
 have z2:(boot_heap w.params).objs.size=11:=rfl
 have z3:(boot_heap w.params).nsMap mainGlobals "__annotations__"=some (.ref 6):=by
  rw[ZlV]
  kernel_rfl
 have t:topFrom treeTable p w N ⟨boot_heap w.params,Array.mk [],boot_drawn,boot_toks,os⟩=some s'.abs:=by
  unfold topFrom
  dsimp only
  rw[z1,z2,z3,r]
  show (match staticsOk (importedModules p.main.body) (boot_heap w.params) s'.abs.heap && namesBound p s'.abs.heap && gensDone s'.abs && laidKept (boot_heap w.params) s'.abs.heap with | true=>_ | false=>_)=_
  rw[l1]
 unfold openEnds
 rw[e1]
 show (topFrom treeTable p w N _).map _=_
 rw[t]
 exact congrArg some (Prod.ext l2 l3)
end HD
namespace HD
open PySem PySem.W
theorem Zqw: @stepOk= @PySem.W.Fast.tw6613529449190102663:=PySem.W.Fast.te6613529449190102663
theorem ZlW: @stepT= @PySem.W.Fast.tw10156331382660048174:=PySem.W.Fast.te10156331382660048174
theorem ZnX: @denote= @PySem.W.Fast.tw11892475500146522536:=PySem.W.Fast.te11892475500146522536
theorem ZnY: @treeTable= @PySem.W.Fast.tw14364793385576792824:=PySem.W.Fast.te14364793385576792824
theorem ZlX: @openSeen= @PySem.W.Fast.tw4187177175401517315:=PySem.W.Fast.te4187177175401517315
theorem ZnZ: @importedModules= @PySem.W.Fast.tw5923862056798008813:=PySem.W.Fast.te5923862056798008813
end HD
end
section
namespace DL
open PySem PySem.Spec PyProof.Rows L2
noncomputable def wO {β:Type} (o:Out β) (Q:β->Sto->Prop) (E:Str->Sto->Prop):Prop:=match o with
 | .ok a M=>Q a M
 | .exc c M=>E c M
 | .bad=>False
noncomputable def wS (f:Fl) (N:Ro->Sto->Prop) (R:D->Sto->Prop) (B C:Ro->Sto->Prop) (E:Str->Sto->Prop):Prop:=match f with
 | .nx ρ M=>N ρ M
 | .ret d M=>R d M
 | .brk ρ M=>B ρ M
 | .cnt ρ M=>C ρ M
 | .exc c M=>E c M
 | .bad=>False
noncomputable def Br (k:Bool) (A B:Prop):Prop:=(k=true->A)/\(k=false->B)
noncomputable def wG {β:Type} (o:Option β) (N:β->Prop):Prop:=match o with | some ρ=>N ρ | none=>False
noncomputable def wV (o:Option (Option D)) (Q:D->Prop):Prop:=match o with | some (some d)=>Q d | _=>False
noncomputable def wI (x:D) (Q:Int->Prop):Prop:=match x with | .int i=>Q i | _=>False
noncomputable def wB (x:D) (Q:Bool->Prop):Prop:=match x with | .bl i=>Q i | _=>False
noncomputable def wR (x:D) (Q:Nat->Prop):Prop:=match x with | .ref i=>Q i | _=>False
noncomputable def w1 (x:List D) (Q:D->Prop):Prop:=match x with | [v]=>Q v | _=>False
noncomputable def w2 (x:List D) (Q:D->D->Prop):Prop:=match x with | [v,w]=>Q v w | _=>False
noncomputable def wL (o:Option SO) (Q:List D->Prop):Prop:=match o with | some (.lst xs)=>Q xs | none=>False
section
variable {β:Type} {o o':Option (Option D)} {x x':D} {Q:D->Prop} {QI:Int->Prop} {QB:Bool->Prop} {QR:Nat->Prop} {QL:List D->Prop} {l l':Option SO} {d:D} {i:Int} {k:Bool} {n:Nat} {xs:List D} {g g':Option β} {QG:β->Prop} {y:β}
theorem Ztl:w1 [d] Q=Q d:=rfl
theorem Ztm {Q2:D->D->Prop}:w2 [d,x] Q2=Q2 d x:=rfl
theorem Ztn:wV (some (some d)) Q=Q d:=rfl
theorem Zto:wI (.int i) QI=QI i:=rfl
theorem Ztp:wB (.bl k) QB=QB k:=rfl
theorem Ztq:wR (.ref n) QR=QR n:=rfl
theorem Ztr:wL (some (.lst xs)) QL=QL xs:=rfl
theorem Zts:wG (some y) QG=QG y:=rfl
end
section
variable {β:Type} {Q:β->Sto->Prop} {E:Str->Sto->Prop} {N B C:Ro->Sto->Prop} {R:D->Sto->Prop} {ρ:Ro} {M:Sto} {A A':Prop}
theorem Zt {d:β}:wO (.ok d M) Q E=Q d M:=rfl
theorem Zn0 {c:Str}:wO (.exc c M:Out β) Q E=E c M:=rfl
theorem Zqx:Br true A A'=A:=by simp[Br]
theorem Zr7:Br false A A'=A':=by simp[Br]
theorem brN {p:Prop} [Decidable p] (h1: ¬ p->A) (h2:p->A'):Br (!decide p) A A':=⟨fun h=>h1 (by simpa using h),fun h=>h2 (by simpa using h)⟩
theorem ZcY {o:Out β} {Q':β->Sto->Prop} {E':Str->Sto->Prop} (h:wO o Q E) (hq: ∀ d M,Q d M->Q' d M) (he: ∀ c M,E c M->E' c M):wO o Q' E':=by
 cases o with
 |ok d M=>exact hq d M h
 |exc c M=>exact he c M h
 |bad=>exact h
theorem ZiP {o:Out β} (h:wO o Q (fun _ _=>False)): ∃ d M',o= .ok d M'/\Q d M':=by
 cases o with
 |ok d M=>exact ⟨d,M,rfl,h⟩
 |exc c M=>exact h.elim
 |bad=>exact h.elim
theorem ZH {γ:Type} {o:Out γ} {f:γ->Sto->Out β}:wO (o.bind f) Q E=wO o (fun x M1=>wO (f x M1) Q E) E:=by cases o<;>rfl
end
section
variable {Q:D->Sto->Prop} {E:Str->Sto->Prop} {N B C:Ro->Sto->Prop} {R:D->Sto->Prop} {ρ:Ro} {M:Sto} {e f g:Ev} {fs:Av}
theorem Zqy {op:Bo}:wO (e2 op f g ρ M) Q E=wO (f ρ M) (fun x M1=>wO (g ρ M1) (fun y M2=>wO (op x y M2) Q E) E) E:=by
 unfold e2
 rw[ZH]
 congr 1
 funext x M1
 rw[ZH]
theorem Ztt {i:Nat}:wO (Zg i ρ M) Q E=wV ρ[i]? (fun d=>Q d M):=by
 unfold Zg
 cases ρ[i]? with
 |none=>rfl
 |some o=>cases o<;>rfl
theorem ZlY {F:List D->Sto->Out D}:wO (Zk F fs ρ M) Q E=wO (fs ρ M) (fun ds M1=>wO (F ds M1) Q E) E:=ZH
theorem ZlZ {Q:List D->Sto->Prop}:wO (Zc f fs ρ M) Q E=wO (f ρ M) (fun x M1=>wO (fs ρ M1) (fun xs M2=>Q (x :: xs) M2) E) E:=by
 unfold Zc
 rw[ZH]
 congr 1
 funext x M1
 rw[ZH]
 congr 1
theorem Zn1:wO (Zao fs ρ M) Q E=wO (fs ρ M) (fun xs M1=>xs.length<=1000/\Q (.tup xs) M1) E:=by
 unfold Zao
 rw[ZH]
 congr 1
 funext x M1
 by_cases h:x.length<=1000
 ·rw[if_pos h];simp[h,wO]
 ·rw[if_neg h];simp[h,wO]
theorem Zn2:wO (Zcn fs ρ M) Q E=wO (fs ρ M) (fun xs M1=>xs.length<=1000/\Q (.ref M1.length) (M1 ++ [.lst xs])) E:=by
 unfold Zcn
 rw[ZH]
 congr 1
 funext x M1
 by_cases h:x.length<=1000
 ·rw[if_pos h];simp[h,wO]
 ·rw[if_neg h];simp[h,wO]
variable {t u:Tv}
theorem Zn3 {Q:Bool->Sto->Prop}:wO (Zaa t ρ M) Q E=wO (t ρ M) (fun k M1=>Q (!k) M1) E:=by
 unfold Zaa
 rw[ZH]
 congr 1
variable {a b:Sv}
theorem Zn4:wS (ZD a b ρ M) N R B C E=wS (a ρ M) (fun ρ1 M1=>wS (b ρ1 M1) N R B C E) R B C E:=by
 unfold ZD
 cases a ρ M<;>rfl
theorem ZaP {β:Type} {o:Out β} {k:β->Sto->Fl}:wS (Zba o k) N R B C E=wO o (fun x M1=>wS (k x M1) N R B C E) E:=by cases o<;>rfl
theorem Zn5:wS (ZN f ρ M) N R B C E=wO (f ρ M) R E:=ZaP
theorem Zl0:wS (Zds f ρ M) N R B C E=wO (f ρ M) (fun _ M1=>N ρ M1) E:=ZaP
theorem Zn6 {i:Nat}:wS (Z4 (gNm i) f ρ M) N R B C E=wO (f ρ M) (fun d M1=>N (ρ.set i (some d)) M1) E:=ZaP
theorem Zl1 {gs:Tgs}:wS (Z4 (gTp gs) f ρ M) N R B C E=wO (f ρ M) (fun d M1=>wG (gTp gs d ρ) (fun r=>N r M1)) E:=by
 unfold Z4
 rw[ZaP]
 congr 1
 funext d M1
 cases gTp gs d ρ<;>rfl
theorem Zn7 {i j:Nat}:wS (Ze3 i j fs ρ M) N R B C E=wO (fs ρ M) (fun ds M1=>w2 ds fun v w=>N ((ρ.set i (some v)).set j (some w)) M1) E:=by
 unfold Ze3
 rw[ZaP]
 congr 1
 funext ds M1
 rcases ds with _ | ⟨v,_ | ⟨w,_ | ⟨z,r⟩⟩⟩<;>rfl
theorem Zn8 {fo fi:Ev}:wS (ZpN fo fi f ρ M) N R B C E=wO (f ρ M) (fun d M1=>wO (fo ρ M1) (fun o M2=>wO (fi ρ M2) (fun i M3=>wR o fun n=>wI i fun k=>wL M3[n]? fun xs=>wG (ixN xs.length k) fun j=>N ρ (M3.set n (.lst (xs.set j d)))) E) E) E:=by
 unfold ZpN
 rw[ZaP]
 congr 1
 funext d M1
 rw[ZaP]
 congr 1
 funext o M2
 rw[ZaP]
 congr 1
 funext i M3
 cases o<;>cases i<;>try rfl
 rename_i n k
 cases e:M3[n]? with
 |none=>simp only[e,wR,wI,wL,wS]
 |some s=>
  cases s with
  |lst xs=>
   cases e2:ixN xs.length k<;>simp only[e,e2,wR,wI,wL,wG,wS]
theorem ZjY {c:Str}:wS (ZbI c fs ρ M) N R B C E=wO (fs ρ M) (fun ds M1=>ds.length<=1000/\E c M1) E:=by
 unfold ZbI
 rw[ZaP]
 congr 1
 funext ds M1
 by_cases h:ds.length<=1000
 ·rw[if_pos h];simp[h,wS]
 ·rw[if_neg h];simp[h,wS]
theorem wF {n k:Nat} {ds:List D} (hl:ds.length=n):wO (fnF a n k ds M) Q E=wS (a (ds.map some ++ List.replicate k none) M) (fun _ M1=>Q .non M1) Q (fun _ _=>False) (fun _ _=>False) E:=by
 unfold fnF
 rw[if_pos hl]
 cases a (ds.map some ++ List.replicate k none) M<;>rfl
theorem ZiQ {o:Fl} {N' B' C':Ro->Sto->Prop} {R':D->Sto->Prop} {E':Str->Sto->Prop} (h:wS o N R B C E) (hn: ∀ ρ M,N ρ M->N' ρ M) (hr: ∀ d M,R d M->R' d M) (hb: ∀ ρ M,B ρ M->B' ρ M) (hc: ∀ ρ M,C ρ M->C' ρ M) (he: ∀ c M,E c M->E' c M):wS o N' R' B' C' E':=by
 cases o with
 |nx ρ M=>exact hn _ _ h
 |ret ρ M=>exact hr _ _ h
 |brk ρ M=>exact hb _ _ h
 |cnt ρ M=>exact hc _ _ h
 |exc ρ M=>exact he _ _ h
 |bad=>exact h
variable {tg:Tg} {bd:Sv} {fi:Ro->Sto->Out Src}
theorem ZiR (I:Nat->Ro->Sto->Prop): ∀ (xs:List D) (k:Nat) (ρ:Ro) (M:Sto),I k ρ M->(∀ i ρ M (h:i < xs.length),I (k + i) ρ M->wG (tg xs[i] ρ) fun r=>wS (bd r M) (I (k + i + 1)) R N (I (k + i + 1)) E)->(∀ ρ M,I (k + xs.length) ρ M->N ρ M)->wS (Zco tg bd xs ρ M) N R B C E
 | [],k,ρ,M,h,_,hn=>hn ρ M h
 |x :: xs,k,ρ,M,h,st,hn=>by
  have s:=st 0 ρ M (by simp) h
  unfold Zco
  simp only[List.getElem_cons_zero,Nat.add_zero] at s
  cases e:tg x ρ with
  |none=>rw[e] at s;exact s.elim
  |some ρ1=>
   rw[e] at s
   simp only[wG] at s
   have rc: ∀ ρ2 M2,I (k + 1) ρ2 M2->wS (Zco tg bd xs ρ2 M2) N R B C E:=fun ρ2 M2 h2=>ZiR I xs (k + 1) ρ2 M2 h2 (fun i ρ M hi hI=>by
    have z:=st (i + 1) ρ M (by simp;omega) (by rw[show k + (i + 1)=k + 1 + i by omega];exact hI)
    simp only[List.getElem_cons_succ] at z
    rw[show k + (i + 1) + 1=k + 1 + i + 1 by omega] at z
    exact z) (fun ρ M hI=>hn ρ M (by rw[show k + (x :: xs).length=k + 1 + xs.length by simp;omega];exact hI))
   cases eg:bd ρ1 M<;>rw[eg] at s<;>simp only[eg]
   ·exact rc _ _ s
   ·exact s
   ·exact s
   ·exact rc _ _ s
   ·exact s
   ·exact s
theorem Zl2:wS (Zde tg fs bd ρ M) N R B C E=wO (fs ρ M) (fun ds M1=>w1 ds fun d=>wI d fun j=>(-(2 ^ 62)<=j/\j < 2 ^ 62)/\wS (Zco tg bd (ZcK 0 j.toNat) ρ M1) N R B C E) E:=by
 unfold Zde
 rw[ZaP]
 congr 1
 funext ds M1
 rcases ds with _ | ⟨v,_ | ⟨w,r⟩⟩
 ·rfl
 ·cases v<;>try rfl
  rename_i j
  by_cases h: -(2 ^ 62)<=j/\j < 2 ^ 62
  ·simp only[w1,wI,eq_true h,true_and,if_true]
  ·simp only[w1,wI,eq_false h,false_and,if_false]
   rfl
 ·cases v<;>rfl
theorem ZgQ (I:Nat->Ro->Sto->Prop) {n:Nat} {lo:Int} (h0:I 0 ρ M) (st: ∀ i ρ M,i < n->I i ρ M->wG (tg (.int (lo + i)) ρ) fun r=>wS (bd r M) (I (i + 1)) R N (I (i + 1)) E) (hn: ∀ ρ M,I n ρ M->N ρ M):wS (Zco tg bd (ZcK lo n) ρ M) N R B C E:=by
 have hl:(ZcK lo n).length=n:=by simp[ZcK]
 refine ZiR I _ 0 ρ M h0 (fun i ρ M h hI=> ?_) (fun ρ M hI=>hn ρ M (by rw[hl,Nat.zero_add] at hI;exact hI))
 have:(ZcK lo n)[i]= .int (lo + i):=by simp[ZcK]
 rw[this]
 rw[Nat.zero_add] at *
 exact st i ρ M (by rw[hl] at h;exact h) hI
theorem Zn9:wS (Zny tg f bd ρ M) N R B C E=wO (f ρ M) (fun d M1=>wS (ZkD tg bd d ρ M1) N R B C E) E:=ZaP
theorem Zl3 (I:Nat->Ro->Sto->Prop) {n:Nat} {xs:List D}: ∀ (f i:Nat) (ρ:Ro) (M:Sto),i + f=xs.length->I i ρ M->(∀ i ρ M,I i ρ M->M[n]?=some (.lst xs))->(∀ i ρ M (h:i < xs.length),I i ρ M->wG (tg xs[i] ρ) fun r=>wS (bd r M) (I (i + 1)) R N (I (i + 1)) E)->(∀ ρ M,I xs.length ρ M->N ρ M)->wS (Zhx tg bd n f i ρ M) N R B C E:=by
  intro f
  induction f with
  |zero=>
   intro i ρ M e h hm st hn
   have hx:=hm _ _ _ h
   unfold Zhx
   rw[hx]
   have:xs[i]?=none:=List.getElem?_eq_none (by omega)
   simp only[this]
   exact hn ρ M (by rw[show xs.length=i by omega];exact h)
  |succ f ih=>
   intro i ρ M e h hm st hn
   have hx:=hm _ _ _ h
   unfold Zhx
   rw[hx]
   have hi:i < xs.length:=by omega
   have:xs[i]?=some xs[i]:=List.getElem?_eq_getElem hi
   simp only[this]
   have s:=st i ρ M hi h
   cases e:tg xs[i] ρ with
   |none=>rw[e] at s;exact s.elim
   |some ρ1=>
    rw[e] at s
    simp only[wG] at s
    have rc: ∀ ρ2 M2,I (i + 1) ρ2 M2->wS (Zhx tg bd n f (i + 1) ρ2 M2) N R B C E:=fun ρ2 M2 h2=>ih (i + 1) ρ2 M2 (by omega) h2 hm st hn
    cases eg:bd ρ1 M<;>rw[eg] at s<;>simp only[eg]
    ·exact rc _ _ s
    ·exact s
    ·exact s
    ·exact rc _ _ s
    ·exact s
    ·exact s
theorem Zl4 (I:Nat->Ro->Sto->Prop) {n:Nat} {xs:List D} (hM:M[n]?=some (.lst xs)) (h0:I 0 ρ M) (hm: ∀ i ρ M,I i ρ M->M[n]?=some (.lst xs)) (st: ∀ i ρ M (h:i < xs.length),I i ρ M->wG (tg xs[i] ρ) fun r=>wS (bd r M) (I (i + 1)) R N (I (i + 1)) E) (hn: ∀ ρ M,I xs.length ρ M->N ρ M):wS (ZkD tg bd (.ref n) ρ M) N R B C E:=by
 show wS (match M[n]? with | some (.lst xs)=>Zhx tg bd n xs.length 0 ρ M | none=> .bad) N R B C E
 rw[hM]
 exact Zl3 I xs.length 0 ρ M (by omega) h0 hm st hn
theorem Zl5:wS (Zdt tg fi bd ρ M) N R B C E=wO (fi ρ M) (fun src M1=>wS (Zgb tg bd src (cnt src M1) 0 ρ M1) N R B C E) E:=ZaP
theorem ZkV (I:Nat->Ro->Sto->Prop) {src:Src} {xs:List D}: ∀ (f i:Nat) (ρ:Ro) (M:Sto),i<=xs.length->xs.length<=i + f->I i ρ M->(∀ i ρ M,i<=xs.length->I i ρ M->nxt src i M=some xs[i]?)->(∀ i ρ M (h:i < xs.length),I i ρ M->wG (tg xs[i] ρ) fun r=>wS (bd r M) (I (i + 1)) R N (I (i + 1)) E)->(∀ ρ M,I xs.length ρ M->N ρ M)->wS (Zgb tg bd src f i ρ M) N R B C E:=by
  intro f
  induction f with
  |zero=>
   intro i ρ M le e h hm st hn
   have hx:=hm _ _ _ le h
   unfold Zgb
   rw[hx]
   have hi: ¬ i < xs.length:=by omega
   have:xs[i]?=none:=List.getElem?_eq_none (by omega)
   simp only[this]
   exact hn ρ M (by rw[show xs.length=i by omega];exact h)
  |succ f ih=>
   intro i ρ M le e h hm st hn
   have hx:=hm _ _ _ le h
   unfold Zgb
   rw[hx]
   by_cases hi:i < xs.length
   ·have:xs[i]?=some xs[i]:=List.getElem?_eq_getElem hi
    simp only[this]
    have s:=st i ρ M hi h
    cases e:tg xs[i] ρ with
    |none=>rw[e] at s;exact s.elim
    |some ρ1=>
     rw[e] at s
     simp only[wG] at s
     have rc: ∀ ρ2 M2,I (i + 1) ρ2 M2->wS (Zgb tg bd src f (i + 1) ρ2 M2) N R B C E:=fun ρ2 M2 h2=>ih (i + 1) ρ2 M2 (by omega) (by omega) h2 hm st hn
     cases eg:bd ρ1 M<;>rw[eg] at s<;>simp only[eg]
     ·exact rc _ _ s
     ·exact s
     ·exact s
     ·exact rc _ _ s
     ·exact s
     ·exact s
   ·have:xs[i]?=none:=List.getElem?_eq_none (by omega)
    simp only[this]
    exact hn ρ M (by rw[show xs.length=i by omega];exact h)
theorem ZjZ {c:Tv} (I:Nat->Ro->Sto->Prop) (st: ∀ n ρ M,I n ρ M->wO (c ρ M) (fun k M1=>Br k (wS (bd ρ M1) (fun ρ2 M2=> ∃ m,m < n/\I m ρ2 M2) R N (fun ρ2 M2=> ∃ m,m < n/\I m ρ2 M2) E) (N ρ M1)) E): ∀ (n:Nat) (ρ:Ro) (M:Sto),I n ρ M->wS (sWh c bd ρ M) N R B C E:=by
 intro n
 induction n using Nat.strongRecOn with
 |ind n ih=>
  intro ρ M h
  have s:=st n ρ M h
  cases ec:c ρ M with
  |bad=>rw[ec] at s;exact s.elim
  |exc x M1=>rw[ec] at s;rw[Zdd (n:=1) (o:= .exc x M1) (by simp only[whN,ec])];exact s
  |ok k M1=>
   rw[ec] at s
   cases k with
   |false=>
    rw[Zt,Zr7] at s
    rw[Zfk ec]
    exact s
   |true=>
    rw[Zt,Zqx] at s
    cases eg:bd ρ M1 with
    |nx ρ2 M2=>
     rw[eg] at s
     obtain ⟨m,hm,hI⟩:=s
     have r:=ih m hm ρ2 M2 hI
     rw[ZgG ec eg (by intro z;rw[z] at r;exact r)]
     exact r
    |cnt ρ2 M2=>
     rw[eg] at s
     obtain ⟨m,hm,hI⟩:=s
     have r:=ih m hm ρ2 M2 hI
     have nb:sWh c bd ρ2 M2≠ .bad:=by intro z;rw[z] at r;exact r
     obtain ⟨j,ej⟩:=Zib nb
     rw[Zdd (n:=j + 1) (o:=sWh c bd ρ2 M2) (by simp only[whN,ec,eg];exact ej)]
     exact r
    |brk ρ2 M2=>rw[eg] at s;rw[Zdd (n:=1) (o:= .nx ρ2 M2) (by simp only[whN,ec,eg])];exact s
    |ret d M2=>rw[eg] at s;rw[Zdd (n:=1) (o:= .ret d M2) (by simp only[whN,ec,eg])];exact s
    |exc d M2=>rw[eg] at s;rw[Zdd (n:=1) (o:= .exc d M2) (by simp only[whN,ec,eg])];exact s
    |bad=>rw[eg] at s;exact s.elim
theorem Zl6 {fi:Ro->Sto->Out Src} {k:Nat} {fr:List Nat} {c:Tv}:wO (ZaM fi k fr tg c f ρ M) Q E=wO (fi ρ M) (fun src M1=>wO (ZdG src tg c f M1.length (cnt src M1) 0 (roB k fr ρ) (M1 ++ [.lst []])) (fun _ M2=>Q (.ref M1.length) M2) (fun _ _=>False)) E:=by
 unfold ZaM
 rw[ZH]
 congr 1
 funext src M1
 cases ZdG src tg c f M1.length (cnt src M1) 0 (roB k fr ρ) (M1 ++ [.lst []])<;>rfl
theorem ZiS (I:Nat->Ro->Sto->Prop) {src:Src} {xs:List D} {c:Tv} {m:Nat} {Q:Sto->Prop}: ∀ (fu i:Nat) (ρ:Ro) (M:Sto),i<=xs.length->xs.length<=i + fu->I i ρ M->(∀ i ρ M,i<=xs.length->I i ρ M->nxt src i M=some xs[i]?)->
  (∀ i ρ M (h:i < xs.length),I i ρ M->wG (tg xs[i] ρ) fun r=>wO (c r M) (fun k M1=>Br k (wO (f r M1) (fun y M2=>wL M2[m]? fun ys=>ys.length < 10000000/\I (i + 1) r (M2.set m (.lst (ys ++ [y])))) (fun _ _=>False)) (I (i + 1) r M1)) (fun _ _=>False))->
  (∀ ρ M,I xs.length ρ M->Q M)->wO (ZdG src tg c f m fu i ρ M) (fun _ M2=>Q M2) (fun _ _=>False):=by
  intro fu
  induction fu with
  |zero=>
   intro i ρ M le e h hm st hn
   have hx:=hm _ _ _ le h
   unfold ZdG
   rw[hx]
   have hi: ¬ i < xs.length:=by omega
   have:xs[i]?=none:=List.getElem?_eq_none (by omega)
   simp only[this]
   exact hn ρ M (by rw[show xs.length=i by omega];exact h)
  |succ fu ih=>
   intro i ρ M le e h hm st hn
   have hx:=hm _ _ _ le h
   unfold ZdG
   rw[hx]
   by_cases hi:i < xs.length
   ·have:xs[i]?=some xs[i]:=List.getElem?_eq_getElem hi
    simp only[this]
    have s:=st i ρ M hi h
    cases e:tg xs[i] ρ with
    |none=>rw[e] at s;exact s.elim
    |some ρ1=>
     rw[e] at s
     simp only[wG] at s
     have rc: ∀ ρ2 M2,I (i + 1) ρ2 M2->wO (ZdG src tg c f m fu (i + 1) ρ2 M2) (fun _ M2=>Q M2) (fun _ _=>False):=fun ρ2 M2 h2=>ih (i + 1) ρ2 M2 (by omega) (by omega) h2 hm st hn
     cases ec:c ρ1 M with
     |bad=>rw[ec] at s;exact s.elim
     |exc _ _=>rw[ec] at s;exact s.elim
     |ok k M1=>
      rw[ec] at s
      rw[Zt] at s
      cases k with
      |false=>
       rw[Zr7] at s
       simp only[ec]
       exact rc _ _ s
      |true=>
       rw[Zqx] at s
       simp only[ec]
       cases ef:f ρ1 M1 with
       |bad=>rw[ef] at s;exact s.elim
       |exc _ _=>rw[ef] at s;exact s.elim
       |ok y M2=>
        rw[ef,Zt] at s
        simp only[ef]
        cases ey:M2[m]? with
        |none=>rw[ey] at s;exact s.elim
        |some o=>
         cases o with
         |lst ys=>
          rw[ey] at s
          simp only[wL,ey] at s ⊢
          rw[if_pos s.1]
          exact rc _ _ s.2
   ·have:xs[i]?=none:=List.getElem?_eq_none (by omega)
    simp only[this]
    exact hn ρ M (by rw[show xs.length=i by omega];exact h)
end
end DL
end
section
namespace DL
open PySem PySem.Spec PyProof.Rows L2
section
variable {Q:D->Sto->Prop} {E:Str->Sto->Prop} {N B C:Ro->Sto->Prop} {R:D->Sto->Prop} {ρ:Ro} {M:Sto} {f:Ev} {fs:Av} {i j:Int} {n m k:Nat} {x y d:D} {xs ys ds:List D} {lo hi:Ro->Sto->Out (Option Int)}
theorem ZfB (h: -(18446744073709551616) < i/\i < 18446744073709551616):Zau i j:=ZiM h.1 h.2
theorem ZeB (h: -(18446744073709551616) < j/\j < 18446744073709551616):Zau i j:=ZiL h.1 h.2
theorem ZfC (h:0 < j/\j < 18446744073709551616):ZbE j:=by
 refine ⟨by omega,?_⟩
 have:j.natAbs.log2 < 64:=(Nat.log2_lt (by omega)).mpr (by omega)
 omega
theorem Zqz:wO (dAdd (.int i) (.int j) M) Q E=Q (.int (i + j)) M:=rfl
theorem ZqA:wO (dSub (.int i) (.int j) M) Q E=Q (.int (i - j)) M:=rfl
theorem ZgR (h:Zau i j):wO (dMul (.int i) (.int j) M) Q E=Q (.int (i * j)) M:=by
 show wO (if Zau i j then _ else _) Q E=_
 rw[if_pos h];rfl
theorem ZqB (h: -(18446744073709551616) < i/\i < 18446744073709551616):wO (dMul (.int i) (.int j) M) Q E=Q (.int (i * j)) M:=ZgR (ZfB h)
theorem Zoa (h: -(18446744073709551616) < j/\j < 18446744073709551616):wO (dMul (.int i) (.int j) M) Q E=Q (.int (i * j)) M:=ZgR (ZeB h)
theorem ZqC (h:0 < j/\j < 18446744073709551616):wO (dDiv (.int i) (.int j) M) Q E=Q (.int (i / j)) M:=by
 show wO (if ZbE j then _ else _) Q E=_
 rw[if_pos (ZfC h),Int.fdiv_eq_ediv_of_nonneg _ (by omega)];rfl
theorem ZqD (h:0 < j):wO (dMod (.int i) (.int j) M) Q E=Q (.int (i % j)) M:=by
 show wO (if j≠0 then _ else _) Q E=_
 rw[if_pos (by omega),Int.fmod_eq_emod_of_nonneg _ (by omega)];rfl
theorem ZqE (h:0<=j/\j<=1000000/\i.natAbs < 18446744073709551616):wO (dPow (.int i) (.int j) M) Q E=Q (.int (i ^ j.toNat)) M:=by
 show wO (if 0<=j/\j<=1000000/\i.natAbs < 2 ^ 64 then _ else _) Q E=_
 rw[if_pos ⟨h.1,h.2.1,by omega⟩];rfl
theorem Ztu:wO (dLt (.int i) (.int j) M) Q E=Q (.bl (decide (i < j))) M:=rfl
theorem Ztv:wO (dLe (.int i) (.int j) M) Q E=Q (.bl (decide (i<=j))) M:=rfl
theorem Ztw:wO (dGt (.int i) (.int j) M) Q E=Q (.bl (decide (j < i))) M:=rfl
theorem Ztx:wO (dGe (.int i) (.int j) M) Q E=Q (.bl (decide (j<=i))) M:=rfl
theorem ZqF:wO (dAdd (.ref n) (.ref m) M) Q E=wL M[n]? fun xs=>wL M[m]? fun ys=>xs.length + ys.length<=10000000/\Q (.ref M.length) (M ++ [.lst (xs ++ ys)]):=by
 show wO (match M[n]?,M[m]? with | some (.lst xs),some (.lst ys)=>_ | _,_=>_) Q E=_
 cases e1:M[n]? with
 |none=>rfl
 |some o=>
  cases o with
  |lst xs=>
   cases e2:M[m]? with
   |none=>rfl
   |some p=>
    cases p with
    |lst ys=>
     by_cases h:xs.length + ys.length<=10000000
     ·simp[wL,h,wO]
     ·simp[wL,h,wO]
theorem Zob (h:xs.length + ys.length<=100000/\xs≠[]):wO (dAdd (.tup xs) (.tup ys) M) Q E=Q (.tup (xs ++ ys)) M:=by
 show wO (if xs.length + ys.length<=100000/\xs≠[] then _ else _) Q E=_
 rw[if_pos h];rfl
theorem Zty:wO (dEq x y M) Q E=wG (eqF 12 M x y) fun b=>Q (.bl b) M:=by
 show wO (match eqF 12 M x y with | some b=>_ | none=>_) Q E=_
 cases eqF 12 M x y<;>rfl
theorem Ztz:wO (dNe x y M) Q E=wG (eqF 12 M x y) fun b=>Q (.bl (!b)) M:=by
 show wO (match eqF 12 M x y with | some b=>_ | none=>_) Q E=_
 cases eqF 12 M x y<;>rfl
theorem ZtA:wO (dIs x y M) Q E=wG (isP x y) fun b=>Q (.bl b) M:=by
 show wO (match isP x y with | some b=>_ | none=>_) Q E=_
 cases isP x y<;>rfl
theorem ZqG:wO (dIsNot x y M) Q E=wG (isP x y) fun b=>Q (.bl (!b)) M:=by
 show wO (match isP x y with | some b=>_ | none=>_) Q E=_
 cases isP x y<;>rfl
theorem Zl7:wO (atD xs i M) Q E=wG (atI xs i) fun d=>Q d M:=by
 unfold atD
 cases atI xs i<;>rfl
theorem ZqH:wO (dIx (.tup xs) (.int i) M) Q E=wG (atI xs i) fun d=>Q d M:=Zl7
theorem ZqI:wO (dIx (.rol xs) (.int i) M) Q E=wG (atI xs i) fun d=>Q d M:=Zl7
theorem ZqJ:wO (dIx (.ref n) (.int i) M) Q E=wL M[n]? fun xs=>wG (atI xs i) fun d=>Q d M:=by
 show wO (match M[n]? with | some (.lst xs)=>atD xs i M | _=> .bad) Q E=_
 cases e1:M[n]? with
 |none=>rfl
 |some o=>cases o with | lst xs=>exact Zl7
theorem Zoc:wO (bLen [.ref n] M) Q E=wL M[n]? fun xs=>Q (.int xs.length) M:=by
 show wO (match (match M[n]? with | some (.lst xs)=>some xs | _=>none) with | some xs=>_ | none=>_) Q E=_
 cases e1:M[n]? with
 |none=>rfl
 |some o=>cases o with | lst xs=>rfl
theorem Zod:wO (bLen [.tup xs] M) Q E=Q (.int xs.length) M:=rfl
theorem Zoe:wO (bLen [.rol xs] M) Q E=Q (.int xs.length) M:=rfl
theorem ZqK:wO (bAbs [.int i] M) Q E=Q (.int (i.natAbs:Int)) M:=by rw[<- ZiN];rfl
theorem ZqL:wO (bMax [.int i,.int j] M) Q E=Q (.int (max i j)) M:=by
 have:max i j=if j > i then j else i:=by split<;>omega
 rw[this];rfl
theorem ZqM:wO (bMin [.int i,.int j] M) Q E=Q (.int (min i j)) M:=by
 have:min i j=if j < i then j else i:=by split<;>omega
 rw[this];rfl
theorem Zof {k:Bool}:wO (bInt [.bl k] M) Q E=Q (.int (if k then 1 else 0)) M:=rfl
theorem Zog:wO (bInt [.int i] M) Q E=Q (.int i) M:=rfl
theorem Zl8:wO (bList [.ref n] M) Q E=wL M[n]? fun xs=>Q (.ref M.length) (M ++ [.lst xs]):=by
 show wO (match (match M[n]? with | some (.lst xs)=>some xs | _=>none) with | some xs=>_ | none=>_) Q E=_
 cases e1:M[n]? with
 |none=>rfl
 |some o=>cases o with | lst xs=>rfl
theorem Zl9:wO (bList [.tup xs] M) Q E=Q (.ref M.length) (M ++ [.lst xs]):=rfl
theorem ZqN:wO (bAll [.ref n] M) Q E=wL M[n]? fun xs=>wG (Zbd xs) fun bs=>Q (.bl (bs.all id)) M:=by
 show wO (match M[n]? with | some (.lst xs)=>(match Zbd xs with | some bs=>Out.ok (.bl (bs.all id)) M | none=> .bad) | none=> .bad) Q E=_
 cases e1:M[n]? with
 |none=>rfl
 |some o=>
  cases o with
  |lst xs=>
   show wO (match Zbd xs with | some bs=>Out.ok (.bl (bs.all id)) M | none=> .bad) Q E=wG (Zbd xs) _
   cases Zbd xs<;>rfl
theorem Zoh {g:List Int->Option Int}:wO (Zev g [.ref n] M) Q E=wL M[n]? fun xs=>wG (Zcp xs) fun ns=>wG (g ns) fun i=>Q (.int i) M:=by
 show wO (match (match M[n]? with | some (.lst xs)=>some xs | _=>none) with | some xs=>(match Zcp xs with | some ns=>(match g ns with | some i=>Out.ok (.int i) M | none=> .bad) | none=> .bad) | none=> .bad) Q E=_
 cases e1:M[n]? with
 |none=>rfl
 |some o=>
  cases o with
  |lst xs=>
   show wO (match Zcp xs with | some ns=>(match g ns with | some i=>Out.ok (.int i) M | none=> .bad) | none=> .bad) Q E=wG (Zcp xs) _
   cases Zcp xs with
   |none=>rfl
   |some ns=>
    show wO (match g ns with | some i=>Out.ok (.int i) M | none=> .bad) Q E=wG (g ns) _
    cases g ns<;>rfl
theorem ZtB {g:Me} {fo:Ev}:wO (Zij g fo fs ρ M) Q E=wO (fo ρ M) (fun x M1=>ZlI x M1=true/\wO (fs ρ M1) (fun ds M2=>wO (g x ds M2) Q E) E) E:=by
 unfold Zij
 rw[ZH]
 congr 1
 funext x M1
 by_cases h:ZlI x M1=true
 ·simp only[h,if_true,true_and];rw[ZH]
 ·simp[h,wO]
theorem Zoi:ZlI (.ref n) M=M[n]?.isSome:=rfl
theorem ZqO:wO (mApp (.ref n) [d] M) Q E=wL M[n]? fun xs=>xs.length < 10000000/\Q .non (M.set n (.lst (xs ++ [d]))):=by
 show wO (match M[n]? with | some (.lst xs)=>if xs.length < 10000000 then _ else _ | none=>_) Q E=_
 cases e1:M[n]? with
 |none=>rfl
 |some o=>
  cases o with
  |lst xs=>
   by_cases h:xs.length < 10000000
   ·simp[wL,h,wO]
   ·simp[wL,h,wO]
theorem ZqP:wO (Zr4 (.ref n) [] M) Q E=wL M[n]? fun xs=>Q .non (M.set n (.lst [])):=by
 show wO (match M[n]? with | some (.lst xs)=>_ | none=>_) Q E=_
 cases e1:M[n]? with
 |none=>rfl
 |some o=>cases o with | lst xs=>rfl
theorem ZqQ:wO (Zr5 (.ref n) [.ref m] M) Q E=wL M[n]? fun xs=>wL M[m]? fun ys=>xs.length + ys.length<=10000000/\Q .non (M.set n (.lst (xs ++ ys))):=by
 show wO (match M[n]?,M[m]? with | some (.lst xs),some (.lst ys)=>if xs.length + ys.length<=10000000 then _ else _ | _,_=>_) Q E=_
 cases e1:M[n]? with
 |none=>rfl
 |some o=>
  cases o with
  |lst xs=>
   cases e2:M[m]? with
   |none=>rfl
   |some p=>
    cases p with
    |lst ys=>
     by_cases h:xs.length + ys.length<=10000000
     ·simp[wL,h,wO]
     ·simp[wL,h,wO]
noncomputable def slR (x:D) (l u:Option Int) (M3:Sto):Out D:=match x with
 | .ref n=>(match M3[n]? with | some (.lst xs)=> .ok (.ref M3.length) (M3 ++ [.lst (Zga xs l u)]) | none=> .bad)
 | .rol xs=> .ok (.ref M3.length) (M3 ++ [.lst (Zga xs l u)])
 | .tup xs=>if HT.sIx xs.length 0 l=0/\HT.sIx xs.length xs.length u=xs.length then .bad else .ok (.tup (Zga xs l u)) M3
 |_=> .bad
theorem ZqR:wO (eSl f lo hi ρ M) Q E=wO (f ρ M) (fun x M1=>wO (lo ρ M1) (fun l M2=>wO (hi ρ M2) (fun u M3=>wO (slR x l u M3) Q E) E) E) E:=by
 unfold eSl
 rw[ZH]
 congr 1
 funext x M1
 rw[ZH]
 congr 1
 funext l M2
 rw[ZH]
 congr 1
theorem ZqS {l u:Option Int}:wO (slR (.ref n) l u M) Q E=wL M[n]? fun xs=>Q (.ref M.length) (M ++ [.lst (Zga xs l u)]):=by
 unfold slR
 cases e1:M[n]? with
 |none=>simp only[e1];rfl
 |some o=>cases o with | lst xs=>simp only[e1];rfl
theorem ZqT {Q:Option Int->Sto->Prop}:wO (oSo f ρ M) Q E=wO (f ρ M) (fun x M1=>wI x fun i=>Q (some i) M1) E:=by
 unfold oSo
 rw[ZH]
 congr 1
 funext x M1
 cases x<;>rfl
theorem Zoj (h:0<=i):Zga xs none (some i)=xs.take i.toNat:=by
 unfold Zga
 simp only[HT.sIx]
 rw[if_neg (by omega),List.drop_zero,Nat.sub_zero]
 by_cases c:i.toNat<=xs.length
 ·rw[Nat.min_eq_left c]
 ·rw[Nat.min_eq_right (by omega),List.take_of_length_le (Nat.le_refl _),List.take_of_length_le (by omega)]
theorem Zj0 (h:0<=i):Zga xs (some i) none=xs.drop i.toNat:=by
 unfold Zga
 simp only[HT.sIx]
 rw[if_neg (by omega)]
 by_cases c:i.toNat<=xs.length
 ·rw[Nat.min_eq_left c,List.take_of_length_le (by simp)]
 ·rw[Nat.min_eq_right (by omega),List.drop_eq_nil_of_le (Nat.le_refl _),List.drop_eq_nil_of_le (by omega),List.take_nil]
theorem Zhd {L:Sto}:(M ++ L)[M.length]?=L[0]?:=by rw[List.getElem?_append_right (Nat.le_refl _),Nat.sub_self]
theorem ZdN {L:Sto} {i:Nat}:(M ++ L)[M.length + i]?=L[i]?:=by rw[List.getElem?_append_right (by omega)];congr 1;omega
theorem Zd6 {L:Sto} (h:n < M.length):(M ++ L)[n]?=M[n]?:=List.getElem?_append_left h
theorem ZkW {L:Sto} {o:SO}:(M ++ L).set M.length o=M ++ L.set 0 o:=by rw[List.set_append_right _ _ (Nat.le_refl _),Nat.sub_self]
theorem ZqU {L:Sto} {o:SO} {i:Nat}:(M ++ L).set (M.length + i) o=M ++ L.set i o:=by rw[List.set_append_right _ _ (by omega)];congr 2;omega
theorem Zok {o:SO} (h:k≠n):(M.set n o)[k]?=M[k]?:=List.getElem?_set_ne (Ne.symm h)
theorem Zol {o:SO} (h:n < M.length):(M.set n o)[n]?=some o:=List.getElem?_set_self h
theorem Zag {o:SO} (h:M[n]?=some o):n < M.length:=(List.getElem?_eq_some_iff.mp h).1
noncomputable abbrev pr (x y:Int):D:= .tup [.int x,.int y]
noncomputable def prs (rs:List (Int × Int)):List D:=rs.map fun p=>pr p.1 p.2
noncomputable def nts (ns:List Int):List D:=ns.map D.int
theorem ZP {rs:List (Int × Int)}:(prs rs).length=rs.length:=List.length_map _
theorem ZeC {rs:List Int}:(nts rs).length=rs.length:=List.length_map _
theorem Zma {a b:List (Int × Int)}:prs a ++ prs b=prs (a ++ b):=(List.map_append).symm
theorem Zmb {a b:List Int}:nts a ++ nts b=nts (a ++ b):=(List.map_append).symm
theorem Zj1 {a:List (Int × Int)}:(prs a).take n=prs (a.take n):=List.map_take.symm
theorem Zj2 {a:List (Int × Int)}:(prs a).drop n=prs (a.drop n):=List.map_drop.symm
theorem Zj3 {a:List Int}:(nts a).take n=nts (a.take n):=List.map_take.symm
theorem Zj4 {a:List Int}:(nts a).drop n=nts (a.drop n):=List.map_drop.symm
theorem Zj5 {a b:Int} {r:List (Int × Int)}:pr a b :: prs r=prs ((a,b) :: r):=rfl
theorem Zmc {a:List (Int × Int)} {b c:Int}:(prs a).set n (pr b c)=prs (a.set n (b,c)):=by unfold prs;rw[List.map_set]
theorem Zmd {a:List Int} {b:Int}:(nts a).set n (.int b)=nts (a.set n b):=by unfold nts;rw[List.map_set]
noncomputable def cy (rs:List (Int × Int)) (i:Int):Int × Int:=rs.getD (i % rs.length).toNat (0,0)
noncomputable def cn (rs:List Int) (i:Int):Int:=rs.getD (i % rs.length).toNat 0
theorem Zom {i:Int} {n:Nat} (h: -(n:Int)<=i/\i < n):ixN n i=some (i % n).toNat:=by
 unfold ixN
 by_cases c:0<=i
 ·rw[if_pos c,if_pos h.2,Int.emod_eq_of_lt c h.2]
 ·rw[if_neg c,if_pos h.1]
  have:i % n=i + n:=by
   rw[<- Int.add_emod_right,Int.emod_eq_of_lt (by omega) (by omega)]
  rw[this]
theorem Zdh {rs:List (Int × Int)} (h: -(rs.length:Int)<=i/\i < rs.length):atI (prs rs) i=some (pr (cy rs i).1 (cy rs i).2):=by
 unfold atI
 rw[ZP,Zom h]
 have hp:(i % rs.length).toNat < rs.length:=by
  have:=Int.emod_lt_of_pos i (show (0:Int) < rs.length by omega)
  have:=Int.emod_nonneg i (show (rs.length:Int)≠0 by omega)
  omega
 simp[prs,cy,List.getElem?_eq_getElem hp]
theorem Zon {rs:List (Int × Int)}:cy rs (i % rs.length)=cy rs i:=by unfold cy;rw[Int.emod_emod_of_dvd _ (Int.dvd_refl _)]
theorem Zoo {rs:List (Int × Int)}:cy rs (i - rs.length)=cy rs i:=by unfold cy;rw[Int.sub_emod_right]
theorem ZaQ {rs:List (Int × Int)} {k:Nat} (h:k < rs.length):cy rs k=rs[k]:=by
 unfold cy
 rw[Int.emod_eq_of_lt (by omega) (by omega)]
 simp[List.getElem?_eq_getElem h]
theorem Zj6 {a b:Int}:eqF (n + 1) M (.int a) (.int b)=some (decide (a=b)):=rfl
theorem Zr8 {a b:Bool}:eqF (n + 1) M (.bl a) (.bl b)=some (a == b):=rfl
theorem Zr9 {a b c d:Int}:eqF (n + 2) M (pr a b) (pr c d)=some (decide ((a,b)=(c,d))):=by
 show some ((a == c) && ((b == d) && true))=_
 congr 1
 rw[Bool.eq_iff_iff]
 simp
theorem Zop {rs ss:List (Int × Int)}:eqL (eqF (n + 2) M) (prs rs) (prs ss)=some (decide (rs=ss)):=by
 induction rs generalizing ss with
 |nil=>cases ss<;>rfl
 |cons r rs ih=>
  cases ss with
  |nil=>rfl
  |cons s ss=>
   show (match eqF (n + 2) M (pr r.1 r.2) (pr s.1 s.2) with | some a=>(match eqL _ (prs rs) (prs ss) with | some b=>some (a && b) | none=>none) | none=>none)=_
   rw[Zr9,ih]
   simp only[]
   congr 1
   rw[Bool.eq_iff_iff]
   obtain ⟨r1,r2⟩:=r
   obtain ⟨s1,s2⟩:=s
   simp
theorem Zme {xs ys:List D} (h1:M[n]?=some (.lst xs)) (h2:M[m]?=some (.lst ys)):eqF (k + 1) M (.ref n) (.ref m)=if xs.length=ys.length then eqL (eqF k M) xs ys else some false:=by
 show (match kd M (.ref n),kd M (.ref m) with | some a,some b=>eqK (eqF k M) a b | _,_=>none)=_
 have e1:kd M (.ref n)=some (.lst xs):=by show (match M[n]? with | some (.lst xs)=>some (Kd.lst xs) | _=>none)=_;rw[h1]
 have e2:kd M (.ref m)=some (.lst ys):=by show (match M[m]? with | some (.lst xs)=>some (Kd.lst xs) | _=>none)=_;rw[h2]
 rw[e1,e2]
 rfl
theorem ZqV {rs ss:List (Int × Int)} (h1:M[n]?=some (.lst (prs rs))) (h2:M[m]?=some (.lst (prs ss))):eqF 12 M (.ref n) (.ref m)=some (decide (rs=ss)):=by
 rw[Zme h1 h2,ZP,ZP]
 by_cases c:rs.length=ss.length
 ·rw[if_pos c,Zop]
 ·rw[if_neg c]
  congr 1
  symm
  exact decide_eq_false fun z=>c (by rw[z])
theorem Zoq:Zbq M (.int i)=some "int":=rfl
theorem ZqW {b:Bool}:Zbq M (.bl b)=some "bool":=rfl
theorem Zor:Zbq M (.tup xs)=some "tuple":=rfl
theorem Zos:Zbq M .non=some "NoneType":=rfl
end
end DL
end
section
namespace DL
open PySem PySem.Spec PyProof.Rows L2
section
variable {Q:D->Sto->Prop} {E:Str->Sto->Prop} {N B C:Ro->Sto->Prop} {R:D->Sto->Prop} {ρ:Ro} {M:Sto} {f:Ev} {fs:Av} {i j:Int} {n m k:Nat} {x y z d:D} {xs ys ds:List D} {QS:Src->Sto->Prop} {tg:Tg} {bd:Sv} {b:Bool}
theorem Zmf:wS (Zic tg fs bd ρ M) N R B C E=wO (fs ρ M) (fun ds M1=>w2 ds fun x y=>wI x fun i=>wI y fun j=>(-(2 ^ 62)<=i/\i < 2 ^ 62/\ -(2 ^ 62)<=j/\j < 2 ^ 62)/\wS (Zco tg bd (ZcK i (j - i).toNat) ρ M1) N R B C E) E:=by
 unfold Zic
 rw[ZaP]
 congr 1
 funext ds M1
 rcases ds with _ | ⟨v,_ | ⟨w,_ | ⟨w',r⟩⟩⟩
 ·rfl
 ·cases v<;>rfl
 ·cases v<;>try rfl
  cases w<;>try rfl
  rename_i i j
  by_cases h: -(2 ^ 62)<=i/\i < 2 ^ 62/\ -(2 ^ 62)<=j/\j < 2 ^ 62
  ·simp only[w2,wI,eq_true h,true_and,if_true]
  ·simp only[w2,wI,eq_false h,false_and,if_false]
   rfl
 ·cases v<;>cases w<;>rfl
theorem ZtC:wO (iR1 fs ρ M) QS E=wO (fs ρ M) (fun ds M1=>w1 ds fun d=>wI d fun j=>(-(2 ^ 62)<=j/\j < 2 ^ 62)/\QS (.pur (ZcK 0 j.toNat)) M1) E:=by
 unfold iR1
 rw[ZH]
 congr 1
 funext ds M1
 rcases ds with _ | ⟨v,_ | ⟨w,r⟩⟩
 ·rfl
 ·cases v<;>try rfl
  rename_i j
  by_cases h: -(2 ^ 62)<=j/\j < 2 ^ 62
  ·simp only[w1,wI,eq_true h,true_and,if_true,Zt]
  ·simp only[w1,wI,eq_false h,false_and,if_false]
   rfl
 ·cases v<;>rfl
theorem ZtD:wO (iR2 fs ρ M) QS E=wO (fs ρ M) (fun ds M1=>w2 ds fun x y=>wI x fun i=>wI y fun j=>(-(2 ^ 62)<=i/\i < 2 ^ 62/\ -(2 ^ 62)<=j/\j < 2 ^ 62)/\QS (.pur (ZcK i (j - i).toNat)) M1) E:=by
 unfold iR2
 rw[ZH]
 congr 1
 funext ds M1
 rcases ds with _ | ⟨v,_ | ⟨w,_ | ⟨w',r⟩⟩⟩
 ·rfl
 ·cases v<;>rfl
 ·cases v<;>try rfl
  cases w<;>try rfl
  rename_i i j
  by_cases h: -(2 ^ 62)<=i/\i < 2 ^ 62/\ -(2 ^ 62)<=j/\j < 2 ^ 62
  ·simp only[w2,wI,eq_true h,true_and,if_true,Zt]
  ·simp only[w2,wI,eq_false h,false_and,if_false]
   rfl
 ·cases v<;>cases w<;>rfl
theorem ZtE:wO (iEn fs ρ M) QS E=wO (fs ρ M) (fun ds M1=>w1 ds fun d=>wR d fun n=>QS (.enu n) M1) E:=by
 unfold iEn
 rw[ZH]
 congr 1
 funext ds M1
 rcases ds with _ | ⟨v,_ | ⟨w,r⟩⟩<;>try rfl
 ·cases v<;>rfl
 ·cases v<;>rfl
theorem ZtF:wO (iZp fs ρ M) QS E=wO (fs ρ M) (fun ds M1=>w2 ds fun x y=>wR x fun n=>wR y fun m=>QS (.zip n m) M1) E:=by
 unfold iZp
 rw[ZH]
 congr 1
 funext ds M1
 rcases ds with _ | ⟨v,_ | ⟨w,_ | ⟨w',r⟩⟩⟩<;>try rfl
 ·cases v<;>rfl
 ·cases v<;>cases w<;>rfl
 ·cases v<;>cases w<;>rfl
theorem ZtG:wO (iRv fs ρ M) QS E=wO (fs ρ M) (fun ds M1=>w1 ds fun d=>wR d fun n=>wL M1[n]? fun xs=>QS (.rev n xs.length) M1) E:=by
 unfold iRv
 rw[ZH]
 congr 1
 funext ds M1
 rcases ds with _ | ⟨v,_ | ⟨w,r⟩⟩<;>try rfl
 ·cases v<;>try rfl
  rename_i n
  cases e:M1[n]? with
  |none=>simp only[e];simp only[w1,wR,e];rfl
  |some o=>cases o with | lst xs=>simp only[e,w1,wR];rfl
 ·cases v<;>rfl
noncomputable def Zmg (Q:D->Sto->Prop) (ρ:Ro) (M:Sto):Prop:=Q .non M
theorem wF1:wO (fnF bd 1 k [x] M) Q E=wS (bd (some x :: List.replicate k none) M) (Zmg Q) Q (fun _ _=>False) (fun _ _=>False) E:=wF rfl
theorem wF2:wO (fnF bd 2 k [x,y] M) Q E=wS (bd (some x :: some y :: List.replicate k none) M) (Zmg Q) Q (fun _ _=>False) (fun _ _=>False) E:=wF rfl
theorem wF3:wO (fnF bd 3 k [x,y,z] M) Q E=wS (bd (some x :: some y :: some z :: List.replicate k none) M) (Zmg Q) Q (fun _ _=>False) (fun _ _=>False) E:=wF rfl
theorem wF4:wO (fnF bd 4 k [x,y,z,d] M) Q E=wS (bd (some x :: some y :: some z :: some d :: List.replicate k none) M) (Zmg Q) Q (fun _ _=>False) (fun _ _=>False) E:=wF rfl
theorem Zj7 {a:List (Int × Int)} {b c:Int}:prs a ++ [pr b c]=prs (a ++ [(b,c)]):=by simp[prs]
theorem Zj8 {a:List Int} {b:Int}:nts a ++ [D.int b]=nts (a ++ [b]):=by simp[nts]
theorem Zj9 {b:Int} {r:List Int}:D.int b :: nts r=nts (b :: r):=rfl
theorem ZqX:isP .non .non=some true:=rfl
theorem ZqY:isP (.int i) .non=some false:=rfl
theorem ZqZ:isP (.tup xs) .non=some false:=rfl
theorem Zq0:isP (.ref n) .non=some false:=rfl
theorem ZiT (h:M[n]?=some (.lst xs)):cnt (.sto n) M=xs.length:=by show (match M[n]? with | some (.lst xs)=>xs.length | none=>0)=_;rw[h]
theorem Zgf (h:M[n]?=some (.lst xs)):cnt (.zip n m) M=xs.length:=by show (match M[n]? with | some (.lst xs)=>xs.length | none=>0)=_;rw[h]
theorem at2 {r:List D}:atI (x :: y :: z :: r) 2=some z:=by
 show (ixN (r.length + 3) 2).bind _=_
 unfold ixN
 rw[if_pos (by decide),if_pos (by omega)]
 rfl
theorem at3 {r:List D}:atI (x :: y :: z :: d :: r) 3=some d:=by
 show (ixN (r.length + 4) 3).bind _=_
 unfold ixN
 rw[if_pos (by decide),if_pos (by omega)]
 rfl
theorem Zot:ZcD "int" "int"=true:=rfl
theorem Zou:ZcD "int" "bool"=false:=rfl
theorem Zov:ZcD "bool" "int"=true:=rfl
theorem Zow:ZcD "bool" "bool"=true:=rfl
theorem Zox:ZcD "tuple" "tuple"=true:=rfl
theorem Zoy:ZcD "list" "list"=true:=rfl
theorem Zoz:ZcD "tuple" "int"=false:=rfl
theorem ZoA:ZcD "tuple" "list"=false:=rfl
theorem ZoB:ZcD "list" "tuple"=false:=rfl
theorem ZoC:ZcD "list" "int"=false:=rfl
theorem ZoD:ZcD "NoneType" "tuple"=false:=rfl
theorem ZoE:ZcD "NoneType" "list"=false:=rfl
theorem ZkX (h:M[n]?=some (.lst xs)):nxt (.sto n) k M=some xs[k]?:=by
 show (match M[n]? with | some (.lst xs)=>some xs[k]? | none=>none)=_
 rw[h]
section
variable {g:Jv} {bb:Nat}
end
theorem ZiU (h:M[n]?=some (.lst xs)) (h':M[m]?=some (.lst ys)):nxt (.zip n m) k M=some ((List.zipWith (fun a b=>D.tup [a,b]) xs ys)[k]?):=by
 show (match M[n]?,M[m]? with | some (.lst xs),some (.lst ys)=>(match xs[k]?,ys[k]? with | some x,some y=>some (some (D.tup [x,y])) | _,_=>some none) | _,_=>none)=_
 rw[h,h',List.getElem?_zipWith]
 simp only[]
 cases xs[k]?<;>cases ys[k]?<;>rfl
theorem Zmh (I:Nat->Ro->Sto->Prop) (hM:M[n]?=some (.lst xs)) (hl:ys.length<=xs.length) (h0:I 0 ρ M) (hm: ∀ i ρ M,I i ρ M->M[n]?=some (.lst xs)/\M[m]?=some (.lst ys)) (st: ∀ (i:Nat) ρ M (h:i < ys.length),I i ρ M->wG (tg (.tup [xs[i],ys[i]]) ρ) fun r=>wS (bd r M) (I (i + 1)) R N (I (i + 1)) E) (hn: ∀ ρ M,I ys.length ρ M->N ρ M):wS (Zgb tg bd (.zip n m) (cnt (.zip n m) M) 0 ρ M) N R B C E:=by
 rw[Zgf hM]
 have hz:(List.zipWith (fun a b=>D.tup [a,b]) xs ys).length=ys.length:=by simp;omega
 refine ZkV I (xs:=List.zipWith (fun a b=>D.tup [a,b]) xs ys) _ 0 ρ M (by simp) (by simp;omega) h0 (fun i ρ M _ hI=> ?_) (fun i ρ M h hI=> ?_) (fun ρ M hI=>hn ρ M (by rw[hz] at hI;exact hI))
 ·rw[ZiU (hm _ _ _ hI).1 (hm _ _ _ hI).2]
 ·rw[List.getElem_zipWith]
  exact st i ρ M (by rw[hz] at h;exact h) hI
theorem Zmi {src:Src} (Inv:Ro->Prop) (F:Nat->D) {Q:Sto->Prop} (hl:xs.length < 10000000) (hcnt:xs.length<=cnt src M) (h0:Inv ρ) (hs: ∀ (L:Sto) (i:Nat),i<=xs.length->nxt src i (M ++ L)=some xs[i]?)
  (st: ∀ (i:Nat) (h:i < xs.length) (ρ:Ro) (L:Sto),Inv ρ->wG (tg xs[i] ρ) fun r=>Inv r/\wO (f r (M ++ L)) (fun y M2=>y=F i/\M2=M ++ L) (fun _ _=>False)) (hq:Q (M ++ [.lst ((List.range xs.length).map F)])):
  wO (ZdG src tg (fun _ M=> .ok true M) f M.length (cnt src M) 0 ρ (M ++ [.lst []])) (fun _ M2=>Q M2) (fun _ _=>False):=by
 refine ZiS (fun i ρ M'=>Inv ρ/\M'=M ++ [.lst ((List.range i).map F)]) (xs:=xs) _ 0 ρ _ (by simp) (by omega) ⟨h0,rfl⟩ (fun i ρ M' hi hI=>by rw[hI.2];exact hs _ i hi) (fun i ρ M' h hI=> ?_) (fun ρ M' hI=>by rw[hI.2];exact hq)
 obtain ⟨hI,rfl⟩:=hI
 have s:=st i h ρ [.lst ((List.range i).map F)] hI
 cases e:tg xs[i] ρ with
 |none=>rw[e] at s;exact s.elim
 |some r=>
  rw[e] at s
  obtain ⟨hr,s⟩:=s
  show Br true _ _
  rw[Zqx]
  refine ZcY s (fun y M2 ⟨h1,h2⟩=> ?_) (fun _ _ z=>z)
  subst h1 h2
  rw[Zhd]
  refine ⟨by simp;omega,hr,?_⟩
  rw[ZkW,List.range_succ,List.map_append]
  rfl
theorem Zmj {F:Nat->Int}:(List.range n).map (fun i=>D.int (F i))=nts ((List.range n).map F):=by simp[nts]
end
end DL
end
section
namespace DL
open PySem PySem.Spec PyProof.Rows L2
section
variable {Q:D->Sto->Prop} {E:Str->Sto->Prop} {N B C:Ro->Sto->Prop} {R:D->Sto->Prop} {ρ:Ro} {M:Sto} {f g:Ev} {fs:Av} {i j:Int} {n m k:Nat} {x y z d:D} {xs ys ds:List D} {QL:List D->Sto->Prop} {QB:Bool->Sto->Prop} {QS:Src->Sto->Prop} {tg:Tg} {a bd:Sv} {b:Bool} {t u:Tv}
noncomputable def kU {β γ:Type} (u:β->Sto->Out γ) (Q:γ->Sto->Prop) (E:Str->Sto->Prop) (x:β) (M:Sto):Prop:=wO (u x M) Q E
noncomputable def kQ {β γ:Type} (Q:γ->Sto->Prop) (c:β->γ) (M:Sto) (x:β):Prop:=Q (c x) M
noncomputable def kB2 (op:Bo) (x:D) (Q:D->Sto->Prop) (E:Str->Sto->Prop) (y:D) (M:Sto):Prop:=wO (op x y M) Q E
noncomputable def kB1 (op:Bo) (g:Ev) (ρ:Ro) (Q:D->Sto->Prop) (E:Str->Sto->Prop) (x:D) (M:Sto):Prop:=wO (g ρ M) (kB2 op x Q E) E
theorem ZtH {op:Bo}:wO (e2 op f g ρ M) Q E=wO (f ρ M) (kB1 op g ρ Q E) E:=Zqy
theorem y_c:wO (eC d ρ M) Q E=Q d M:=rfl
theorem y_v:wO (Zg k ρ M) Q E=wV ρ[k]? (kQ Q id M):=Ztt
theorem ZoF {F:List D->Sto->Out D}:wO (Zk F fs ρ M) Q E=wO (fs ρ M) (kU F Q E) E:=ZlY
noncomputable def kA2 (x:D) (Q:List D->Sto->Prop) (xs:List D) (M:Sto):Prop:=Q (x :: xs) M
noncomputable def kA1 (fs:Av) (ρ:Ro) (Q:List D->Sto->Prop) (E:Str->Sto->Prop) (x:D) (M:Sto):Prop:=wO (fs ρ M) (kA2 x Q) E
theorem Zq1:wO (aNil ρ M) QL E=QL [] M:=rfl
theorem ZoG:wO (Zc f fs ρ M) QL E=wO (f ρ M) (kA1 fs ρ QL E) E:=ZlZ
noncomputable def kTu (Q:D->Sto->Prop) (xs:List D) (M:Sto):Prop:=xs.length<=1000/\Q (.tup xs) M
noncomputable def kLs (Q:D->Sto->Prop) (xs:List D) (M:Sto):Prop:=xs.length<=1000/\Q (.ref M.length) (M ++ [.lst xs])
theorem Zq2:wO (Zao fs ρ M) Q E=wO (fs ρ M) (kTu Q) E:=Zn1
theorem Zq3:wO (Zcn fs ρ M) Q E=wO (fs ρ M) (kLs Q) E:=Zn2
noncomputable def Zsa (x:D) (M:Sto):Out D:=match x with | .int i=> .ok (.int (-i)) M | _=> .bad
theorem Zq4:wO (ZgC f ρ M) Q E=wO (f ρ M) (kU Zsa Q E) E:=by unfold ZgC;exact ZH
theorem ZoH:wO (Zsa (.int i) M) Q E=Q (.int (-i)) M:=rfl
noncomputable def Zq5 (T:String) (x:D) (M:Sto):Out D:=match Zbq M x with | some t=> .ok (.bl (ZcD t T)) M | none=> .bad
theorem Zq6 {T:String}:wO (ZdC T f ρ M) Q E=wO (f ρ M) (kU (Zq5 T) Q E) E:=by unfold ZdC;exact ZH
noncomputable def kTy (T:String) (Q:D->Sto->Prop) (M:Sto) (t:String):Prop:=Q (.bl (ZcD t T)) M
theorem ZoI {T:String}:wO (Zq5 T x M) Q E=wG (Zbq M x) (kTy T Q M):=by unfold Zq5;cases Zbq M x<;>rfl
noncomputable def tC (b:Bool):Tv:=fun _ M=> .ok b M
noncomputable def BrO {β:Type} (k:Bool) (f g:Ro->Sto->Out β) (ρ:Ro) (M:Sto) (Q:β->Sto->Prop) (E:Str->Sto->Prop):Prop:=wO ((if k=true then f else g) ρ M) Q E
theorem ZtI {β:Type} {fO gO:Ro->Sto->Out β} {QO:β->Sto->Prop}:BrO true fO gO ρ M QO E=wO (fO ρ M) QO E:=rfl
theorem ZtJ {β:Type} {fO gO:Ro->Sto->Out β} {QO:β->Sto->Prop}:BrO false fO gO ρ M QO E=wO (gO ρ M) QO E:=rfl
theorem brO {β:Type} {fO gO:Ro->Sto->Out β} {QO:β->Sto->Prop} {p:Prop} [Decidable p] (h1:p->wO (fO ρ M) QO E) (h2: ¬ p->wO (gO ρ M) QO E):BrO (decide p) fO gO ρ M QO E:=by
 by_cases h:p
 ·rw[decide_eq_true h];exact h1 h
 ·rw[decide_eq_false h];exact h2 h
theorem Zq7 {β:Type} {fO gO:Ro->Sto->Out β} {QO:β->Sto->Prop} {p:Prop} [Decidable p] (h1: ¬ p->wO (fO ρ M) QO E) (h2:p->wO (gO ρ M) QO E):BrO (!decide p) fO gO ρ M QO E:=by
 by_cases h:p
 ·rw[decide_eq_true h];exact h2 h
 ·rw[decide_eq_false h];exact h1 h
theorem Zmk {β:Type} {fO gO:Ro->Sto->Out β} {QO:β->Sto->Prop} (P:β->Sto->Prop) (h:BrO b fO gO ρ M P E) (hn: ∀ x M,P x M->QO x M):BrO b fO gO ρ M QO E:=by
 cases b
 ·exact ZcY h hn (fun _ _ z=>z)
 ·exact ZcY h hn (fun _ _ z=>z)
noncomputable def kIf (f g:Ev) (ρ:Ro) (Q:D->Sto->Prop) (E:Str->Sto->Prop) (k:Bool) (M:Sto):Prop:=BrO k f g ρ M Q E
theorem ZtK:wO (eIf t f g ρ M) Q E=wO (t ρ M) (kIf f g ρ Q E) E:=by unfold eIf;rw[ZH];congr 1;funext k M1;cases k<;>rfl
noncomputable def Zsb (g:Ev) (ρ:Ro) (x:D) (M:Sto):Out D:=match x with | .bl k=>if k=true then g ρ M else .ok (.bl false) M | _=> .bad
noncomputable def oOr (g:Ev) (ρ:Ro) (x:D) (M:Sto):Out D:=match x with | .bl k=>if k=true then .ok (.bl true) M else g ρ M | _=> .bad
noncomputable def Zsc (x:D) (M:Sto):Out D:=match x with | .bl k=> .ok (.bl (!k)) M | _=> .bad
noncomputable def oTv (x:D) (M:Sto):Out Bool:=match x with | .bl k=> .ok k M | _=> .bad
theorem Zq8:wO (ZaT f g ρ M) Q E=wO (f ρ M) (kU (Zsb g ρ) Q E) E:=by unfold ZaT;exact ZH
theorem ZtL:wO (Znk f g ρ M) Q E=wO (f ρ M) (kU (oOr g ρ) Q E) E:=by unfold Znk;exact ZH
theorem Zq9:wO (Zg4 f ρ M) Q E=wO (f ρ M) (kU Zsc Q E) E:=by unfold Zg4;exact ZH
theorem ZoJ:wO (Zsb g ρ (.bl b) M) Q E=BrO b g (eC (.bl false)) ρ M Q E:=by cases b<;>rfl
theorem Zra:wO (oOr g ρ (.bl b) M) Q E=BrO b (eC (.bl true)) g ρ M Q E:=by cases b<;>rfl
theorem ZoK:wO (Zsc (.bl b) M) Q E=Q (.bl (!b)) M:=rfl
theorem ZtM:wO (tv f ρ M) QB E=wO (f ρ M) (kU oTv QB E) E:=by unfold tv;exact ZH
theorem Zrb:wO (oTv (.bl b) M) QB E=QB b M:=rfl
noncomputable def kTA (u:Tv) (ρ:Ro) (Q:Bool->Sto->Prop) (E:Str->Sto->Prop) (k:Bool) (M:Sto):Prop:=BrO k u (tC false) ρ M Q E
noncomputable def kTO (u:Tv) (ρ:Ro) (Q:Bool->Sto->Prop) (E:Str->Sto->Prop) (k:Bool) (M:Sto):Prop:=BrO k (tC true) u ρ M Q E
noncomputable def kTN (Q:Bool->Sto->Prop) (k:Bool) (M:Sto):Prop:=Q (!k) M
theorem ZtN:wO (tC b ρ M) QB E=QB b M:=rfl
theorem ZoL:wO (ZcX t u ρ M) QB E=wO (t ρ M) (kTA u ρ QB E) E:=by unfold ZcX;rw[ZH];congr 1;funext k M1;cases k<;>rfl
theorem Zrc:wO (Zb2 t u ρ M) QB E=wO (t ρ M) (kTO u ρ QB E) E:=by unfold Zb2;rw[ZH];congr 1;funext k M1;cases k<;>rfl
theorem ZoM:wO (Zaa t ρ M) QB E=wO (t ρ M) (kTN QB) E:=Zn3
noncomputable def kSq (b:Sv) (N:Ro->Sto->Prop) (R:D->Sto->Prop) (B C:Ro->Sto->Prop) (E:Str->Sto->Prop) (ρ:Ro) (M:Sto):Prop:=wS (b ρ M) N R B C E
theorem Zrd:wS (ZD a bd ρ M) N R B C E=wS (a ρ M) (kSq bd N R B C E) R B C E:=Zn4
theorem ZoN:wS (sNil ρ M) N R B C E=N ρ M:=rfl
theorem Zre:wS (Zte ρ M) N R B C E=B ρ M:=rfl
theorem Zrf:wS (Ztf ρ M) N R B C E=C ρ M:=rfl
theorem Zrg:wS (ZN f ρ M) N R B C E=wO (f ρ M) R E:=Zn5
theorem ZoO:wS (Znx ρ M) N R B C E=R .non M:=rfl
noncomputable def kDr (ρ:Ro) (N:Ro->Sto->Prop) (d:D) (M:Sto):Prop:=N ρ M
theorem ZoP:wS (Zds f ρ M) N R B C E=wO (f ρ M) (kDr ρ N) E:=Zl0
noncomputable def BrS (k:Bool) (a b:Sv) (ρ:Ro) (M:Sto) (N:Ro->Sto->Prop) (R:D->Sto->Prop) (B C:Ro->Sto->Prop) (E:Str->Sto->Prop):Prop:=wS ((if k=true then a else b) ρ M) N R B C E
theorem ZtO:BrS true a bd ρ M N R B C E=wS (a ρ M) N R B C E:=rfl
theorem ZtP:BrS false a bd ρ M N R B C E=wS (bd ρ M) N R B C E:=rfl
theorem brS {p:Prop} [Decidable p] (h1:p->wS (a ρ M) N R B C E) (h2: ¬ p->wS (bd ρ M) N R B C E):BrS (decide p) a bd ρ M N R B C E:=by
 by_cases h:p
 ·rw[decide_eq_true h];exact h1 h
 ·rw[decide_eq_false h];exact h2 h
theorem Zsd {p:Prop} [Decidable p] (h1: ¬ p->wS (a ρ M) N R B C E) (h2:p->wS (bd ρ M) N R B C E):BrS (!decide p) a bd ρ M N R B C E:=by
 by_cases h:p
 ·rw[decide_eq_true h];exact h2 h
 ·rw[decide_eq_false h];exact h1 h
theorem Zml (h1:b=true->wS (a ρ M) N R B C E) (h2:b=false->wS (bd ρ M) N R B C E):BrS b a bd ρ M N R B C E:=by
 cases b
 ·exact h2 rfl
 ·exact h1 rfl
theorem ZtQ (P:Ro->Sto->Prop) (h:BrS b a bd ρ M P R B C E) (hn: ∀ ρ M,P ρ M->N ρ M):BrS b a bd ρ M N R B C E:=by
 cases b
 ·exact ZiQ h hn (fun _ _ z=>z) (fun _ _ z=>z) (fun _ _ z=>z) (fun _ _ z=>z)
 ·exact ZiQ h hn (fun _ _ z=>z) (fun _ _ z=>z) (fun _ _ z=>z) (fun _ _ z=>z)
noncomputable def kSi (a b:Sv) (ρ:Ro) (N:Ro->Sto->Prop) (R:D->Sto->Prop) (B C:Ro->Sto->Prop) (E:Str->Sto->Prop) (k:Bool) (M:Sto):Prop:=BrS k a b ρ M N R B C E
theorem Zrh:wS (sIf t a bd ρ M) N R B C E=wO (t ρ M) (kSi a bd ρ N R B C E) E:=by unfold sIf;rw[ZaP];congr 1;funext k M1;cases k<;>rfl
noncomputable def kAs (i:Nat) (ρ:Ro) (N:Ro->Sto->Prop) (d:D) (M:Sto):Prop:=N (ρ.set i (some d)) M
theorem Zri:wS (Z4 (gNm k) f ρ M) N R B C E=wO (f ρ M) (kAs k ρ N) E:=Zn6
noncomputable def kAt (gs:Tgs) (ρ:Ro) (N:Ro->Sto->Prop) (d:D) (M:Sto):Prop:=wG (gTp gs d ρ) (kQ N id M)
theorem ZoQ {gs:Tgs}:wS (Z4 (gTp gs) f ρ M) N R B C E=wO (f ρ M) (kAt gs ρ N) E:=Zl1
noncomputable def Zse (i j:Nat) (ρ:Ro) (N:Ro->Sto->Prop) (M:Sto) (v w:D):Prop:=N ((ρ.set i (some v)).set j (some w)) M
noncomputable def kPa (i j:Nat) (ρ:Ro) (N:Ro->Sto->Prop) (ds:List D) (M:Sto):Prop:=w2 ds (Zse i j ρ N M)
theorem Zrj:wS (Ze3 k m fs ρ M) N R B C E=wO (fs ρ M) (kPa k m ρ N) E:=Zn7
noncomputable def Zsf (n:Nat) (d:D) (xs:List D) (ρ:Ro) (N:Ro->Sto->Prop) (M:Sto) (j:Nat):Prop:=N ρ (M.set n (.lst (xs.set j d)))
noncomputable def Zsg (n:Nat) (k:Int) (d:D) (ρ:Ro) (N:Ro->Sto->Prop) (M:Sto) (xs:List D):Prop:=wG (ixN xs.length k) (Zsf n d xs ρ N M)
noncomputable def Zsh (n:Nat) (d:D) (ρ:Ro) (N:Ro->Sto->Prop) (M:Sto) (k:Int):Prop:=wL M[n]? (Zsg n k d ρ N M)
noncomputable def Zsi (i:D) (d:D) (ρ:Ro) (N:Ro->Sto->Prop) (M:Sto) (n:Nat):Prop:=wI i (Zsh n d ρ N M)
noncomputable def Zsj (o:D) (d:D) (ρ:Ro) (N:Ro->Sto->Prop) (i:D) (M:Sto):Prop:=wR o (Zsi i d ρ N M)
noncomputable def Zsk (fi:Ev) (d:D) (ρ:Ro) (N:Ro->Sto->Prop) (E:Str->Sto->Prop) (o:D) (M:Sto):Prop:=wO (fi ρ M) (Zsj o d ρ N) E
noncomputable def kPu (fo fi:Ev) (ρ:Ro) (N:Ro->Sto->Prop) (E:Str->Sto->Prop) (d:D) (M:Sto):Prop:=wO (fo ρ M) (Zsk fi d ρ N E) E
theorem Zrk {fo fi:Ev}:wS (ZpN fo fi f ρ M) N R B C E=wO (f ρ M) (kPu fo fi ρ N E) E:=Zn8
noncomputable def kRa (c:Str) (E:Str->Sto->Prop) (ds:List D) (M:Sto):Prop:=ds.length<=1000/\E c M
theorem Zmm {c:Str}:wS (ZbI c fs ρ M) N R B C E=wO (fs ρ M) (kRa c E) E:=ZjY
noncomputable def Zsl (tg:Tg) (bd:Sv) (ρ:Ro) (N:Ro->Sto->Prop) (R:D->Sto->Prop) (B C:Ro->Sto->Prop) (E:Str->Sto->Prop) (M:Sto) (j:Int):Prop:=(-(2 ^ 62)<=j/\j < 2 ^ 62)/\wS (Zco tg bd (ZcK 0 j.toNat) ρ M) N R B C E
noncomputable def Zsm (tg:Tg) (bd:Sv) (ρ:Ro) (N:Ro->Sto->Prop) (R:D->Sto->Prop) (B C:Ro->Sto->Prop) (E:Str->Sto->Prop) (M:Sto) (d:D):Prop:=wI d (Zsl tg bd ρ N R B C E M)
noncomputable def kR1 (tg:Tg) (bd:Sv) (ρ:Ro) (N:Ro->Sto->Prop) (R:D->Sto->Prop) (B C:Ro->Sto->Prop) (E:Str->Sto->Prop) (ds:List D) (M:Sto):Prop:=w1 ds (Zsm tg bd ρ N R B C E M)
theorem ZoR:wS (Zde tg fs bd ρ M) N R B C E=wO (fs ρ M) (kR1 tg bd ρ N R B C E) E:=Zl2
noncomputable def Zsn (tg:Tg) (bd:Sv) (ρ:Ro) (N:Ro->Sto->Prop) (R:D->Sto->Prop) (B C:Ro->Sto->Prop) (E:Str->Sto->Prop) (M:Sto) (i:Int) (j:Int):Prop:=(-(2 ^ 62)<=i/\i < 2 ^ 62/\ -(2 ^ 62)<=j/\j < 2 ^ 62)/\wS (Zco tg bd (ZcK i (j - i).toNat) ρ M) N R B C E
noncomputable def Zso (tg:Tg) (bd:Sv) (ρ:Ro) (N:Ro->Sto->Prop) (R:D->Sto->Prop) (B C:Ro->Sto->Prop) (E:Str->Sto->Prop) (M:Sto) (y:D) (i:Int):Prop:=wI y (Zsn tg bd ρ N R B C E M i)
noncomputable def Zsp (tg:Tg) (bd:Sv) (ρ:Ro) (N:Ro->Sto->Prop) (R:D->Sto->Prop) (B C:Ro->Sto->Prop) (E:Str->Sto->Prop) (M:Sto) (x y:D):Prop:=wI x (Zso tg bd ρ N R B C E M y)
noncomputable def kR2 (tg:Tg) (bd:Sv) (ρ:Ro) (N:Ro->Sto->Prop) (R:D->Sto->Prop) (B C:Ro->Sto->Prop) (E:Str->Sto->Prop) (ds:List D) (M:Sto):Prop:=w2 ds (Zsp tg bd ρ N R B C E M)
theorem ZoS:wS (Zic tg fs bd ρ M) N R B C E=wO (fs ρ M) (kR2 tg bd ρ N R B C E) E:=Zmf
noncomputable def kFo (tg:Tg) (bd:Sv) (ρ:Ro) (N:Ro->Sto->Prop) (R:D->Sto->Prop) (B C:Ro->Sto->Prop) (E:Str->Sto->Prop) (d:D) (M:Sto):Prop:=wS (ZkD tg bd d ρ M) N R B C E
theorem Zrl:wS (Zny tg f bd ρ M) N R B C E=wO (f ρ M) (kFo tg bd ρ N R B C E) E:=Zn9
theorem ZoT:wS (ZkD tg bd (.tup xs) ρ M) N R B C E=wS (Zco tg bd xs ρ M) N R B C E:=rfl
theorem ZoU:wS (ZkD tg bd (.rol xs) ρ M) N R B C E=wS (Zco tg bd xs ρ M) N R B C E:=rfl
noncomputable def kFs (tg:Tg) (bd:Sv) (ρ:Ro) (N:Ro->Sto->Prop) (R:D->Sto->Prop) (B C:Ro->Sto->Prop) (E:Str->Sto->Prop) (src:Src) (M:Sto):Prop:=wS (Zgb tg bd src (cnt src M) 0 ρ M) N R B C E
theorem ZoV {fi:Ro->Sto->Out Src}:wS (Zdt tg fi bd ρ M) N R B C E=wO (fi ρ M) (kFs tg bd ρ N R B C E) E:=Zl5
noncomputable def hT (cs:List Str) (gh:Sv) (W:List Bool) (i:Nat) (ρ:Ro) (c:Str) (M:Sto):Fl:=if cs.contains c=true then (match gh ((kpR W ρ).set i (some (.err c []))) M with | .ret d M2=> .ret d M2 | .nx _ M2=> .nx (List.replicate ρ.length none) M2 | _=> .bad) else .bad
noncomputable def kTr (cs:List Str) (gh:Sv) (W:List Bool) (i:Nat) (ρ:Ro) (N:Ro->Sto->Prop) (R:D->Sto->Prop) (B C:Ro->Sto->Prop) (E:Str->Sto->Prop) (c:Str) (M:Sto):Prop:=cs.contains c=true/\wS (gh ((kpR W ρ).set i (some (.err c []))) M) (fun _ M2=>N (List.replicate ρ.length none) M2) R (fun _ _=>False) (fun _ _=>False) (fun _ _=>False)
theorem Zrm {cs:List Str} {W:List Bool} {gh:Sv}:wS (Zr3 a cs W k gh ρ M) N R B C E=wS (a ρ M) N R B C (kTr cs gh W k ρ N R B C E):=by
 unfold Zr3
 cases e:a ρ M<;>try rfl
 rename_i c M1
 show wS (if cs.contains c=true then _ else _) N R B C E=kTr cs gh W k ρ N R B C E c M1
 unfold kTr
 by_cases h:cs.contains c=true
 ·rw[if_pos h]
  simp only[h,true_and]
  cases gh ((kpR W ρ).set k (some (.err c []))) M1<;>rfl
 ·rw[if_neg h]
  simp only[h,Bool.false_eq_true,false_and]
  rfl
noncomputable def ZtR (Q:D->Sto->Prop) (M1:Sto) (u:Unit) (M:Sto):Prop:=Q (.ref M1.length) M
noncomputable def kCo (tg:Tg) (c:Tv) (f:Ev) (k:Nat) (fr:List Nat) (ρ:Ro) (Q:D->Sto->Prop) (src:Src) (M:Sto):Prop:=wO (ZdG src tg c f M.length (cnt src M) 0 (roB k fr ρ) (M ++ [.lst []])) (ZtR Q M) (fun _ _=>False)
theorem ZoW {fi:Ro->Sto->Out Src} {fr:List Nat}:wO (ZaM fi k fr tg t f ρ M) Q E=wO (fi ρ M) (kCo tg t f k fr ρ Q) E:=Zl6
noncomputable def Zsq (QS:Src->Sto->Prop) (M:Sto) (j:Int):Prop:=(-(2 ^ 62)<=j/\j < 2 ^ 62)/\QS (.pur (ZcK 0 j.toNat)) M
noncomputable def Zsr (QS:Src->Sto->Prop) (M:Sto) (d:D):Prop:=wI d (Zsq QS M)
noncomputable def kS1 (QS:Src->Sto->Prop) (ds:List D) (M:Sto):Prop:=w1 ds (Zsr QS M)
theorem ZtS:wO (iR1 fs ρ M) QS E=wO (fs ρ M) (kS1 QS) E:=ZtC
noncomputable def Zss (QS:Src->Sto->Prop) (M:Sto) (i:Int) (j:Int):Prop:=(-(2 ^ 62)<=i/\i < 2 ^ 62/\ -(2 ^ 62)<=j/\j < 2 ^ 62)/\QS (.pur (ZcK i (j - i).toNat)) M
noncomputable def Zst (QS:Src->Sto->Prop) (M:Sto) (y:D) (i:Int):Prop:=wI y (Zss QS M i)
noncomputable def Zsu (QS:Src->Sto->Prop) (M:Sto) (x y:D):Prop:=wI x (Zst QS M y)
noncomputable def kS2 (QS:Src->Sto->Prop) (ds:List D) (M:Sto):Prop:=w2 ds (Zsu QS M)
theorem ZtT:wO (iR2 fs ρ M) QS E=wO (fs ρ M) (kS2 QS) E:=ZtD
noncomputable def oSq (d:D) (M:Sto):Out Src:=match d with | .tup ds=> .ok (.pur ds) M | .rol ds=> .ok (.pur ds) M | .con ds=> .ok (.pur ds) M | .ref n=> .ok (.sto n) M | _=> .bad
theorem ZtU:wO (iSq f ρ M) QS E=wO (f ρ M) (kU oSq QS E) E:=by unfold iSq;exact ZH
theorem Zrn:wO (oSq (.tup xs) M) QS E=QS (.pur xs) M:=rfl
theorem Zro:wO (oSq (.rol xs) M) QS E=QS (.pur xs) M:=rfl
theorem Zrp:wO (oSq (.ref n) M) QS E=QS (.sto n) M:=rfl
noncomputable def Zsv (QS:Src->Sto->Prop) (M:Sto) (d:D):Prop:=wR d (kQ QS .enu M)
noncomputable def kEn (QS:Src->Sto->Prop) (ds:List D) (M:Sto):Prop:=w1 ds (Zsv QS M)
theorem ZtV:wO (iEn fs ρ M) QS E=wO (fs ρ M) (kEn QS) E:=ZtE
noncomputable def Zsw (QS:Src->Sto->Prop) (M:Sto) (y:D) (n:Nat):Prop:=wR y (kQ QS (.zip n) M)
noncomputable def Zsx (QS:Src->Sto->Prop) (M:Sto) (x y:D):Prop:=wR x (Zsw QS M y)
noncomputable def kZp (QS:Src->Sto->Prop) (ds:List D) (M:Sto):Prop:=w2 ds (Zsx QS M)
theorem ZtW:wO (iZp fs ρ M) QS E=wO (fs ρ M) (kZp QS) E:=ZtF
noncomputable def Zsy (QS:Src->Sto->Prop) (n:Nat) (M:Sto) (xs:List D):Prop:=QS (.rev n xs.length) M
noncomputable def Zsz (QS:Src->Sto->Prop) (M:Sto) (n:Nat):Prop:=wL M[n]? (Zsy QS n M)
noncomputable def ZsA (QS:Src->Sto->Prop) (M:Sto) (d:D):Prop:=wR d (Zsz QS M)
noncomputable def kRv (QS:Src->Sto->Prop) (ds:List D) (M:Sto):Prop:=w1 ds (ZsA QS M)
theorem ZtX:wO (iRv fs ρ M) QS E=wO (fs ρ M) (kRv QS) E:=ZtG
noncomputable def ZoX (xs:List D) (M:Sto) (Q:D->Sto->Prop) (ys:List D):Prop:=xs.length + ys.length<=10000000/\Q (.ref M.length) (M ++ [.lst (xs ++ ys)])
noncomputable def ZsB (m:Nat) (M:Sto) (Q:D->Sto->Prop) (xs:List D):Prop:=wL M[m]? (ZoX xs M Q)
theorem Zrq:wO (dAdd (.ref n) (.ref m) M) Q E=wL M[n]? (ZsB m M Q):=ZqF
noncomputable def ZpU (i:Int) (M:Sto) (Q:D->Sto->Prop) (xs:List D):Prop:=((-9223372036854775808<=i/\i < 9223372036854775808)/\xs.length * i.toNat<=100000)/\Q (.ref M.length) (M ++ [.lst (List.replicate i.toNat xs).flatten])
theorem Zrr:wO (Ztj (.ref n) (.int i) M) Q E=wL M[n]? (ZpU i M Q):=by
 show wO (match M[n]? with | some (.lst xs)=>if (-9223372036854775808<=i/\i < 9223372036854775808)/\xs.length * i.toNat<=100000 then Out.ok (.ref M.length) (M ++ [.lst (List.replicate i.toNat xs).flatten]) else .bad | none=> .bad) Q E=_
 cases e1:M[n]? with
 |none=>rfl
 |some o=>
  cases o with
  |lst xs=>
   show wO (if (-9223372036854775808<=i/\i < 9223372036854775808)/\xs.length * i.toNat<=100000 then Out.ok (.ref M.length) (M ++ [.lst (List.replicate i.toNat xs).flatten]) else .bad) Q E=ZpU i M Q xs
   unfold ZpU
   by_cases h:(-9223372036854775808<=i/\i < 9223372036854775808)/\xs.length * i.toNat<=100000
   ·rw[if_pos h];simp only[eq_true h,true_and];rfl
   ·rw[if_neg h];simp only[eq_false h,false_and];rfl
noncomputable def kEq (Q:D->Sto->Prop) (M:Sto) (b:Bool):Prop:=Q (.bl b) M
noncomputable def kNe (Q:D->Sto->Prop) (M:Sto) (b:Bool):Prop:=Q (.bl (!b)) M
theorem ZtY:wO (dEq x y M) Q E=wG (eqF 12 M x y) (kEq Q M):=Zty
theorem ZtZ:wO (dNe x y M) Q E=wG (eqF 12 M x y) (kNe Q M):=Ztz
theorem Zt0:wO (dIs x y M) Q E=wG (isP x y) (kEq Q M):=ZtA
theorem Zrs:wO (dIsNot x y M) Q E=wG (isP x y) (kNe Q M):=ZqG
theorem Zrt:wO (Zr6 x y M) Q E=wG (inE x y M) (kEq Q M):=by unfold Zr6;cases inE x y M<;>rfl
theorem Zka:wO (Ziq x y M) Q E=wG (inE x y M) (kNe Q M):=by unfold Ziq;cases inE x y M<;>rfl
theorem Zru:wO (dIx (.tup xs) (.int i) M) Q E=wG (atI xs i) (kQ Q id M):=ZqH
theorem Zrv:wO (dIx (.rol xs) (.int i) M) Q E=wG (atI xs i) (kQ Q id M):=ZqI
noncomputable def kIx (i:Int) (Q:D->Sto->Prop) (M:Sto) (xs:List D):Prop:=wG (atI xs i) (kQ Q id M)
theorem Zrw:wO (dIx (.ref n) (.int i) M) Q E=wL M[n]? (kIx i Q M):=ZqJ
noncomputable def ZsC (Q:D->Sto->Prop) (M:Sto) (xs:List D):Prop:=Q (.int xs.length) M
theorem ZoY:wO (bLen [.ref n] M) Q E=wL M[n]? (ZsC Q M):=Zoc
noncomputable def kLi (Q:D->Sto->Prop) (M:Sto) (xs:List D):Prop:=Q (.ref M.length) (M ++ [.lst xs])
theorem Zmn:wO (bList [.ref n] M) Q E=wL M[n]? (kLi Q M):=Zl8
noncomputable def ZsD (Q:D->Sto->Prop) (M:Sto) (bs:List Bool):Prop:=Q (.bl (bs.all id)) M
noncomputable def kAl (Q:D->Sto->Prop) (M:Sto) (xs:List D):Prop:=wG (Zbd xs) (ZsD Q M)
theorem Zrx:wO (bAll [.ref n] M) Q E=wL M[n]? (kAl Q M):=ZqN
noncomputable def ZsE (g:List Int->Option Int) (Q:D->Sto->Prop) (M:Sto) (ns:List Int):Prop:=wG (g ns) (kQ Q .int M)
noncomputable def ZsF (g:List Int->Option Int) (Q:D->Sto->Prop) (M:Sto) (xs:List D):Prop:=wG (Zcp xs) (ZsE g Q M)
theorem ZoZ {gi:List Int->Option Int}:wO (Zev gi [.ref n] M) Q E=wL M[n]? (ZsF gi Q M):=Zoh
noncomputable def kMt (g:Me) (fs:Av) (ρ:Ro) (Q:D->Sto->Prop) (E:Str->Sto->Prop) (x:D) (M:Sto):Prop:=ZlI x M=true/\wO (fs ρ M) (kU (g x) Q E) E
theorem Zt1 {me:Me} {fo:Ev}:wO (Zij me fo fs ρ M) Q E=wO (fo ρ M) (kMt me fs ρ Q E) E:=ZtB
noncomputable def ZsG (n:Nat) (d:D) (Q:D->Sto->Prop) (M:Sto) (xs:List D):Prop:=xs.length < 10000000/\Q .non (M.set n (.lst (xs ++ [d])))
theorem Zry:wO (mApp (.ref n) [d] M) Q E=wL M[n]? (ZsG n d Q M):=ZqO
noncomputable def ZsH (n:Nat) (Q:D->Sto->Prop) (M:Sto) (xs:List D):Prop:=Q .non (M.set n (.lst []))
theorem Zrz:wO (Zr4 (.ref n) [] M) Q E=wL M[n]? (ZsH n Q M):=ZqP
noncomputable def Zo0 (n:Nat) (xs:List D) (Q:D->Sto->Prop) (M:Sto) (ys:List D):Prop:=xs.length + ys.length<=10000000/\Q .non (M.set n (.lst (xs ++ ys)))
noncomputable def ZsI (n m:Nat) (Q:D->Sto->Prop) (M:Sto) (xs:List D):Prop:=wL M[m]? (Zo0 n xs Q M)
theorem ZrA:wO (Zr5 (.ref n) [.ref m] M) Q E=wL M[n]? (ZsI n m Q M):=ZqQ
noncomputable def Zmo (Q:D->Sto->Prop) (M:Sto) (bs:List Bool):Prop:=wG (bs.findIdx? id) (kQ Q (fun (j:Nat)=> .int j) M)
noncomputable def ZsJ (d:D) (Q:D->Sto->Prop) (M:Sto) (xs:List D):Prop:=wG (eqs M d xs) (Zmo Q M)
theorem ZrB:wO (mIdx (.ref n) [d] M) Q E=wL M[n]? (ZsJ d Q M):=by
 show wO (match M[n]? with | some (.lst xs)=>(match eqs M d xs with | some bs=>(match bs.findIdx? id with | some j=>Out.ok (.int (j:Nat)) M | none=> .bad) | none=> .bad) | none=> .bad) Q E=_
 cases e1:M[n]? with
 |none=>rfl
 |some o=>
  cases o with
  |lst xs=>
   show wO (match eqs M d xs with | some bs=>(match bs.findIdx? id with | some j=>Out.ok (.int (j:Nat)) M | none=> .bad) | none=> .bad) Q E=wG (eqs M d xs) (Zmo Q M)
   cases eqs M d xs with
   |none=>rfl
   |some bs=>
    show wO (match bs.findIdx? id with | some j=>Out.ok (.int (j:Nat)) M | none=> .bad) Q E=wG (bs.findIdx? id) _
    cases bs.findIdx? id<;>rfl
noncomputable def kCn (Q:D->Sto->Prop) (M:Sto) (bs:List Bool):Prop:=Q (.int (bs.countP id:Nat)) M
noncomputable def ZsK (d:D) (Q:D->Sto->Prop) (M:Sto) (xs:List D):Prop:=wG (eqs M d xs) (kCn Q M)
theorem Zo1:wO (Zti (.ref n) [d] M) Q E=wL M[n]? (ZsK d Q M):=by
 show wO (match M[n]? with | some (.lst xs)=>(match eqs M d xs with | some bs=>Out.ok (.int (bs.countP id:Nat)) M | none=> .bad) | none=> .bad) Q E=_
 cases e1:M[n]? with
 |none=>rfl
 |some o=>
  cases o with
  |lst xs=>
   show wO (match eqs M d xs with | some bs=>Out.ok (.int (bs.countP id:Nat)) M | none=> .bad) Q E=wG (eqs M d xs) (kCn Q M)
   cases eqs M d xs<;>rfl
noncomputable def ZsL (l u:Option Int) (Q:D->Sto->Prop) (M:Sto) (xs:List D):Prop:=Q (.ref M.length) (M ++ [.lst (Zga xs l u)])
noncomputable def ZsM (x:D) (l:Option Int) (Q:D->Sto->Prop) (E:Str->Sto->Prop) (u:Option Int) (M:Sto):Prop:=wO (slR x l u M) Q E
noncomputable def ZsN (x:D) (hi:Ro->Sto->Out (Option Int)) (ρ:Ro) (Q:D->Sto->Prop) (E:Str->Sto->Prop) (l:Option Int) (M:Sto):Prop:=wO (hi ρ M) (ZsM x l Q E) E
noncomputable def ZsO (lo hi:Ro->Sto->Out (Option Int)) (ρ:Ro) (Q:D->Sto->Prop) (E:Str->Sto->Prop) (x:D) (M:Sto):Prop:=wO (lo ρ M) (ZsN x hi ρ Q E) E
theorem Zt2 {lo hi:Ro->Sto->Out (Option Int)}:wO (eSl f lo hi ρ M) Q E=wO (f ρ M) (ZsO lo hi ρ Q E) E:=ZqR
theorem ZrC {l u':Option Int}:wO (slR (.ref n) l u' M) Q E=wL M[n]? (ZsL l u' Q M):=ZqS
theorem ZrD {QI:Option Int->Sto->Prop}:wO (oNo ρ M) QI E=QI none M:=rfl
noncomputable def ZsP (Q:Option Int->Sto->Prop) (x:D) (M:Sto):Prop:=wI x (kQ Q some M)
theorem ZrE {QI:Option Int->Sto->Prop}:wO (oSo f ρ M) QI E=wO (f ρ M) (ZsP QI) E:=ZqT
noncomputable def oRv (x:D) (M1:Sto):Out D:=match x with | .tup xs=> .ok (.tup xs.reverse) M1 | .ref n=>(match M1[n]? with | some (.lst xs)=> .ok (.ref M1.length) (M1 ++ [.lst xs.reverse]) | none=> .bad) | .rol xs=> .ok (.ref M1.length) (M1 ++ [.lst xs.reverse]) | _=> .bad
theorem Zt3:wO (eRv f ρ M) Q E=wO (f ρ M) (kU oRv Q E) E:=by unfold eRv;exact ZH
noncomputable def ZpV (Q:D->Sto->Prop) (M:Sto) (xs:List D):Prop:=Q (.ref M.length) (M ++ [.lst xs.reverse])
theorem ZrF:wO (oRv (.ref n) M) Q E=wL M[n]? (ZpV Q M):=by show wO (match M[n]? with | some (.lst xs)=>Out.ok (.ref M.length) (M ++ [.lst xs.reverse]) | none=> .bad) Q E=_;cases M[n]? with | none=>rfl | some o=>cases o with | lst xs=>rfl
theorem ZrG:wO (oRv (.tup xs) M) Q E=Q (.tup xs.reverse) M:=rfl
noncomputable def ZsQ (tab:List (Str × Bool)) (x:D) (M:Sto):Out D:=match x with | .err c _=>(match tab.lookup c with | some b=> .ok (.bl b) M | none=> .bad) | _=> .bad
theorem ZrH {tab:List (Str × Bool)}:wO (Zr2 tab f ρ M) Q E=wO (f ρ M) (kU (ZsQ tab) Q E) E:=by unfold Zr2;exact ZH
theorem Zo2 {tab:List (Str × Bool)} {c:Str}:wO (ZsQ tab (.err c xs) M) Q E=wG (tab.lookup c) (kEq Q M):=by show wO (match tab.lookup c with | some b=>Out.ok (.bl b) M | none=> .bad) Q E=_;cases tab.lookup c<;>rfl
noncomputable def kWh (bd:Sv) (ρ:Ro) (I:Ro->Sto->Prop) (N:Ro->Sto->Prop) (R:D->Sto->Prop) (B C:Ro->Sto->Prop) (E:Str->Sto->Prop) (k:Bool) (M:Sto):Prop:=Br k (wS (bd ρ M) I R N I E) (N ρ M)
theorem Zo3 {c:Tv} (I:Nat->Ro->Sto->Prop) (st: ∀ n ρ M,I n ρ M->wO (c ρ M) (kWh bd ρ (fun ρ2 M2=> ∃ m,m < n/\I m ρ2 M2) N R B C E) E) (n:Nat) (ρ:Ro) (M:Sto) (h:I n ρ M):wS (sWh c bd ρ M) N R B C E:=ZjZ I st n ρ M h
theorem Zo4 {I:Ro->Sto->Prop} {p:Prop} [Decidable p] (h1: ¬ p->wS (bd ρ M) I R N I E) (h2:p->N ρ M):kWh bd ρ I N R B C E (!decide p) M:=brN h1 h2
theorem ZsR {src:Src} {fr:List Nat} (Inv:Ro->Prop) (F:Nat->D) (hl:xs.length < 10000000) (hcnt:xs.length<=cnt src M) (h0:Inv (roB k fr ρ)) (hs: ∀ (L:Sto) (i:Nat),i<=xs.length->nxt src i (M ++ L)=some xs[i]?)
  (st: ∀ (i:Nat) (h:i < xs.length) (ρ:Ro) (L:Sto),Inv ρ->wG (tg xs[i] ρ) fun r=>Inv r/\wO (f r (M ++ L)) (fun y M2=>y=F i/\M2=M ++ L) (fun _ _=>False)) (hq:Q (.ref M.length) (M ++ [.lst ((List.range xs.length).map F)])):
  kCo tg (fun _ M=> .ok true M) f k fr ρ Q src M:=Zmi (Q:=fun M2=>Q (.ref M.length) M2) Inv F hl hcnt h0 hs st hq
theorem Zo5 {fr:List Nat} (Inv:Ro->Prop) (F:Nat->D) (hM:M[n]?=some (.lst xs)) (hl:xs.length < 10000000) (h0:Inv (roB k fr ρ))
  (st: ∀ (i:Nat) (h:i < xs.length) (ρ:Ro) (L:Sto),Inv ρ->wG (tg xs[i] ρ) fun r=>Inv r/\wO (f r (M ++ L)) (fun y M2=>y=F i/\M2=M ++ L) (fun _ _=>False)) (hq:Q (.ref M.length) (M ++ [.lst ((List.range xs.length).map F)])):
  kCo tg (fun _ M=> .ok true M) f k fr ρ Q (.sto n) M:=
 ZsR (xs:=xs) Inv F hl (by rw[ZiT hM];exact Nat.le_refl _) h0 (fun L i hi=>by rw[ZkX];rw[List.getElem?_append_left (Zag hM)];exact hM) st hq
end
end DL
end
namespace DL
open PySem PySem.Spec L2
section
variable {Q:D->Sto->Prop} {E:Str->Sto->Prop} {M:Sto} {n:Nat}
theorem ZrI:wO (bLR [.ref n] M) Q E=wL M[n]? (ZpV Q M):=by
 show wO (match M[n]? with | some (.lst xs)=>Out.ok (.ref M.length) (M ++ [.lst xs.reverse]) | none=> .bad) Q E=_
 cases M[n]? with
 |none=>rfl
 |some o=>cases o with | lst xs=>rfl
end
end DL
section
namespace DL
noncomputable abbrev Pt:=Int × Int
noncomputable def X (p q:Pt):Int:=p.1 * q.2 - p.2 * q.1
section
variable {rs:List Pt} {i j:Int} {k n:Nat} {p:Pt}
theorem ZcO {α:Type} {l:List α} {n:Nat} {d:α} (h:n < l.length):l.getD n d=l[n]:=by simp[List.getElem?_eq_getElem h]
theorem Zo6 (h:0<=i/\i < rs.length):cy rs i=rs.getD i.toNat (0,0):=by
 unfold cy
 rw[Int.emod_eq_of_lt h.1 h.2]
theorem ZeD {m:Nat} (h:m≠0):(i % m).toNat < m/\0<=i % m:=by
 have:=Int.emod_lt_of_pos i (show (0:Int) < m by omega)
 have:=Int.emod_nonneg i (show (m:Int)≠0 by omega)
 omega
theorem Zdi (h:rs≠[]):cy rs i∈rs:=by
 have hl:rs.length≠0:=by simpa using h
 unfold cy
 rw[ZcO (ZeD hl).1]
 exact List.getElem_mem _
theorem ZkY {f:Pt->Pt} (h:rs≠[]):cy (rs.map f) i=f (cy rs i):=by
 have hl:rs.length≠0:=by simpa using h
 unfold cy
 rw[List.length_map,ZcO (by rw[List.length_map];exact (ZeD hl).1),ZcO (ZeD hl).1,List.getElem_map]
theorem Zmp {P:Pt->Pt->Prop} (hn:rs.length≠0) (h: ∀ i:Int,0<=i->i < rs.length->P (cy rs i) (cy rs (i + 1))) (i:Int):P (cy rs i) (cy rs (i + 1)):=by
 have e1:cy rs i=cy rs (i % rs.length):=Zon.symm
 have e2:cy rs (i + 1)=cy rs (i % rs.length + 1):=by
  unfold cy
  rw[Int.emod_add_emod]
 rw[e1,e2]
 obtain ⟨a,b⟩:=ZeD (i:=i) hn
 exact h _ b (by omega)
noncomputable def cc (f:Pt->Pt->Nat):List Pt->Nat
 |a :: b :: r=>f a b + cc f (b :: r)
 |_=>0
noncomputable def cyc (f:Pt->Pt->Nat) (rs:List Pt):Nat:=cc f (rs ++ rs.take 1)
theorem ZkZ {f:Pt->Pt->Nat} {g:Pt->Pt}: ∀ (L:List Pt),cc f (L.map g)=cc (fun a b=>f (g a) (g b)) L
 | []=>rfl
 | [_]=>rfl
 |a :: b :: L=>by
  have:=ZkZ (f:=f) (g:=g) (b :: L)
  simp only[List.map_cons,cc] at this ⊢
  omega
theorem ZiV {f:Pt->Pt->Nat} {g:Pt->Pt} (L:List Pt):cyc f (L.map g)=cyc (fun a b=>f (g a) (g b)) L:=by
 unfold cyc
 rw[<- List.map_take,<- List.map_append,ZkZ]
noncomputable def in1 (w a b:Pt):Nat:=if 0<=X a w/\0 < X w b then 1 else 0
noncomputable def in2 (w a b:Pt):Nat:=if 0 < X a w/\0<=X w b then 1 else 0
noncomputable def Fan (rs:List Pt):Prop:= ∀ w:Pt,w≠(0,0)->cyc (in1 w) rs=1/\cyc (in2 w) rs=1
theorem ZsS {p q:Pt}:X p q=0 - X q p:=by unfold X;grind
theorem Zo7 {f:Pt->Pt} {s:Int} (hs:s=1\/s= -1) (hf: ∀ p q,X (f p) (f q)=s * X p q) (w:Pt) (hw:w≠(0,0)): ∃ w':Pt,w'≠(0,0)/\ ∀ a,X (f a) w=s * X a w':=by
 have d:=hf (1,0) (0,1)
 have d1:X (f (1,0)) (f (0,1))=s:=by rw[d];simp[X]
 have lin: ∀ a,(f a).1=a.1 * (f (1,0)).1 + a.2 * (f (0,1)).1/\(f a).2=a.1 * (f (1,0)).2 + a.2 * (f (0,1)).2:=by
  intro a
  have h1:=hf a (1,0)
  have h2:=hf a (0,1)
  generalize f a=u at *
  generalize f (1,0)=e1 at *
  generalize f (0,1)=e2 at *
  unfold X at *
  rcases hs with rfl | rfl<;>constructor<;>grind
 refine ⟨(X w (f (0,1)) * s,X (f (1,0)) w * s),?_,?_⟩
 ·intro z
  apply hw
  have z1:=congrArg Prod.fst z
  have z2:=congrArg Prod.snd z
  simp only at z1 z2
  generalize f (1,0)=e1 at *
  generalize f (0,1)=e2 at *
  unfold X at *
  apply Prod.ext
  ·rcases hs with rfl | rfl<;>simp only[]<;>grind
  ·rcases hs with rfl | rfl<;>simp only[]<;>grind
 ·intro a
  obtain ⟨l1,l2⟩:=lin a
  unfold X
  rw[l1,l2]
  rcases hs with rfl | rfl<;>simp only[]<;>grind
theorem Fan.map (h:Fan rs) {f:Pt->Pt} (hf: ∀ p q,X (f p) (f q)=X p q):Fan (rs.map f):=fun w hw=>by
 obtain ⟨w',hw',e⟩:=Zo7 (s:=1) (.inl rfl) (fun p q=>by rw[hf,Int.one_mul]) w hw
 have e2: ∀ a,X w (f a)=X w' a:=fun a=>by rw[ZsS,e,ZsS (p:=w')];omega
 have c1: ∀ a b,in1 w (f a) (f b)=in1 w' a b:=fun a b=>by unfold in1;rw[e,e2,Int.one_mul]
 have c2: ∀ a b,in2 w (f a) (f b)=in2 w' a b:=fun a b=>by unfold in2;rw[e,e2,Int.one_mul]
 rw[ZiV,ZiV,show (fun a b=>in1 w (f a) (f b))=in1 w' from funext fun a=>funext fun b=>c1 a b,show (fun a b=>in2 w (f a) (f b))=in2 w' from funext fun a=>funext fun b=>c2 a b]
 exact h w' hw'
structure Smo (rs:List Pt):Prop where
 len:3<=rs.length
 one: ∀ i:Int,X (cy rs i) (cy rs (i + 1))=1
 fan:Fan rs
theorem Smo.ne (h:Smo rs):rs≠[]:=by
 intro z
 have:=h.len
 rw[z] at this
 simp at this
theorem Smo.map (h:Smo rs) {f:Pt->Pt} (hf: ∀ p q,X (f p) (f q)=X p q):Smo (rs.map f):=by
 refine ⟨by have:=h.len;simp;omega,fun i=> ?_,h.fan.map hf⟩
 rw[ZkY h.ne,ZkY h.ne,hf]
 exact h.one i
end
end DL
end
section
namespace CC
open PySem PySem.Spec L2 DL
noncomputable def ZaR:Sv:=(ZN (e2 dSub (e2 dMul (e2 dIx (Zg 0) (eC (.int 0))) (e2 dIx (Zg 1) (eC (.int 1)))) (e2 dMul (e2 dIx (Zg 0) (eC (.int 1))) (e2 dIx (Zg 1) (eC (.int 0))))))
noncomputable def F_crossed:List D->Sto->Out D:=fnF ZaR 2 0
noncomputable def ZbU:Sv:=(ZN (e2 dIx (Zg 0) (e2 dMod (e2 dAdd (Zg 1) (eC (.int 1))) (Zk bLen (Zc (Zg 0) aNil)))))
noncomputable def F_following:List D->Sto->Out D:=fnF ZbU 2 0
noncomputable def Za8:Sv:=(sIf (tv (e2 dNe (Zk F_crossed (Zc (Zg 2) (Zc (Zk F_following (Zc (Zg 0) (Zc (Zg 1) aNil))) aNil))) (eC (.int 1)))) (ZN (Zg 1)) sNil)
noncomputable def ZbV:Sv:=(ZD (Zdt (gTp (gCs (gNm 1) (gCs (gNm 2) gNl))) (iEn (Zc (Zg 0) aNil)) Za8)
 (ZN (eC .non)))
noncomputable def F_unspanned:List D->Sto->Out D:=fnF ZbV 1 2
noncomputable def ZbC:Sv:=(ZD (Z4 (gNm 1) (Zk F_unspanned (Zc (Zg 0) aNil)))
 (sIf (tv (e2 dIsNot (Zg 1) (eC .non))) (ZbI (PySem.Str.ofString "NotSmooth") (Zc (eFs (Zcq (eC (.str (PySem.Str.ofString "ray "))) (Zcq (eFm (Zg 1)) (Zcq (eC (.str (PySem.Str.ofString " does not cross the next one in 1"))) jNil)))) aNil)) sNil))
noncomputable def F_ask_smooth:List D->Sto->Out D:=fnF ZbC 1 1
noncomputable def ZbW:Sv:=(sIf (Zb2 (tv (e2 dLt (Zg 1) (eC (.int 0)))) (tv (e2 dGe (Zg 1) (Zk bLen (Zc (Zg 0) aNil))))) (ZbI (PySem.Str.ofString "NoPlace") (Zc (eFs (Zcq (eC (.str (PySem.Str.ofString "a place is from 0 to "))) (Zcq (eFm (e2 dSub (Zk bLen (Zc (Zg 0) aNil)) (eC (.int 1)))) jNil))) aNil)) sNil)
noncomputable def F_ask_place:List D->Sto->Out D:=fnF ZbW 2 0
noncomputable def ZbX:Sv:=(ZD (Z4 (gNm 2) (eC (.int 0)))
 (ZD (sIf (tv (e2 dLt (Zg 1) (Zk bLen (Zc (Zg 0) aNil)))) (Z4 (gNm 2) (e2 dMod (e2 dIx (Zg 0) (Zg 1)) (e2 dPow (eC (.int 10)) (eC (.int 60))))) sNil)
 (ZD (sIf (tv (e2 dLt (Zg 2) (e2 dPow (eC (.int 10)) (eC (.int 18))))) (ZD (Z4 (gNm 3) (e2 dMod (e2 dMul (e2 dAdd (Zg 2) (e2 dMul (eC (.int 1442695040888963407)) (e2 dAdd (Zg 1) (eC (.int 1))))) (eC (.int 6364136223846793005))) (e2 dPow (eC (.int 10)) (eC (.int 37)))))
 (Z4 (gNm 2) (e2 dMod (e2 dDiv (e2 dMul (Zg 3) (Zg 3)) (e2 dPow (eC (.int 10)) (eC (.int 17)))) (e2 dPow (eC (.int 10)) (eC (.int 56)))))) sNil)
 (ZN (Zg 2)))))
noncomputable def F_law_cell_at:List D->Sto->Out D:=fnF ZbX 2 2
noncomputable def ZdO:Sv:=(ZN (e2 dSub (e2 dMul (e2 dIx (Zg 0) (eC (.int 0))) (e2 dIx (Zg 1) (eC (.int 1)))) (e2 dMul (e2 dIx (Zg 0) (eC (.int 1))) (e2 dIx (Zg 1) (eC (.int 0))))))
noncomputable def F_law_cross:List D->Sto->Out D:=fnF ZdO 2 0
end CC
end
open PySem PySem.Spec L2 DL
set_option hygiene false
set_option compiler.extract_closed false
local macro_rules | `(tactic| simp! [$ls,*]) => `(tactic| simp (implicitDefEqProofs := false) (disch := omega) only [ZtH, y_c, y_v, ZoF, Zq1, ZoG, Zq2, Zq3, Zq4, ZoH, Zq6, ZoI, ZtI, ZtJ, ZtK, Zq8, ZtL, Zq9, ZoJ, Zra, ZoK, ZtM, Zrb, ZtN, ZoL, Zrc, ZoM, Zrd, ZoN, Zre, Zrf, Zrg, ZoO, ZoP, ZtO, ZtP, Zrh, Zri, ZoQ, Zrj, Zrk, Zmm, ZoR, ZoS, Zrl, ZoT, ZoU, ZoV, Zrm, ZoW, ZtS, ZtT, ZtU, Zrn, Zro, Zrp, ZtV, ZtW, ZtX, Zrq, Zrr, ZtY, ZtZ, Zt0, Zrs, Zrt, Zka, Zru, Zrv, Zrw, ZoY, Zmn, Zrx, ZoZ, Zt1, Zry, Zrz, ZrA, ZrB, Zo1, Zt2, ZrC, ZrD, ZrE, Zt3, ZrF, ZrG, ZrH, Zo2, kU, kQ, kB2, kB1, kA2, kA1, kTu, kLs, kTy, kIf, kTA, kTO, kTN, kSq, kDr, kSi, kAs, kAt, Zse, kPa, Zsf, Zsg, Zsh, Zsi, Zsj, Zsk, kPu, kRa, Zsl, Zsm, kR1, Zsn, Zso, Zsp, kR2, kFo, kFs, kTr, Zsq, Zsr, kS1, Zss, Zst, Zsu, kS2, Zsv, kEn, Zsw, Zsx, kZp, Zsy, Zsz, ZsA, kRv, ZoX, ZsB, ZpU, kEq, kNe, kIx, ZsC, kLi, ZsD, kAl, ZsE, ZsF, kMt, ZsG, ZsH, Zo0, ZsI, Zmo, ZsJ, kCn, ZsK, ZsL, ZsM, ZsN, ZsO, ZsP, ZpV, Zj1, Zj2, Zma, Zj5, Zj7, Zj3, Zj4, Zmb, Zj9, Zj8, Zmd, Zmc, Zmg, decide_eq_true, decide_eq_false, wF1, wF2, wF3, wF4, Zt, Zn0, Ztn, Zto, Ztp, Ztq, Ztr, Zts, Ztl, Ztm, Zqz, ZqA, ZqB, Zoa, ZqC, ZqD, ZqE, Ztu, Ztv, Ztw, Ztx, Zob, Zod, Zoe, ZqK, ZqL, ZqM, Zof, Zog, Zl9, Zoi, Zoj, Zj0, ZqX, ZqY, ZqZ, Zq0, id, roB, kpR, cond_true, cond_false, at0, at1, at2, at3, gTp, gCs, gNl, gNm, List.set_cons_zero, List.set_cons_succ, List.getElem?_cons_zero, List.getElem?_cons_succ, List.length_cons, List.length_nil, List.length_append, List.length_map, List.map_cons, List.map_nil, List.cons_append, List.nil_append, List.append_assoc, List.append_nil, List.replicate_succ, List.replicate_zero, Option.join_some, Option.isSome_some, Zhd, ZdN, Zd6, ZkW, ZqU, Zok, Zol, ZP, ZeC, Zj6, Zr8, Zr9, Zoq, ZqW, Zor, Zos, Zot, Zou, Zov, Zow, Zox, Zoy, Zoz, ZoA, ZoB, ZoC, ZoD, ZoE, true_and, and_true, Bool.not_true, Bool.not_false, decide_true, decide_false, Nat.reduceAdd, Nat.reduceLeDiff, Nat.reduceLT, Nat.add_zero, Nat.zero_add, Int.reducePow, Int.reduceToNat, Int.reduceNeg, Int.reduceMod, Int.reduceDiv, Int.reduceAdd, Int.reduceSub, Int.reduceMul, Int.cast_ofNat_Int, Int.reduceEq, Int.reduceLT, Int.reduceLE, $ls,*])
set_option hygiene true
section
namespace CC
open PySem PySem.Spec L2 DL
section
variable {Q:D->Sto->Prop} {E:Str->Sto->Prop} {M:Sto} {a b c d i:Int} {n:Nat} {rs:List Pt}
theorem ZbJ (ha: -(18446744073709551616) < a/\a < 18446744073709551616) (hb: -(18446744073709551616) < b/\b < 18446744073709551616):wO (F_crossed [pr a b,pr c d] M) Q E=Q (.int (a * d - b * c)) M:=by
 simp![F_crossed,ZaR]
theorem Zgg (ha: -(18446744073709551616) < a/\a < 18446744073709551616) (hb: -(18446744073709551616) < b/\b < 18446744073709551616):wO (F_law_cross [pr a b,pr c d] M) Q E=Q (.int (a * d - b * c)) M:=ZbJ ha hb
theorem ZcZ {rs:List Pt} {i:Nat} (h:i < (prs rs).length):(prs rs)[i]=pr (cy rs i).1 (cy rs i).2:=by
 have h':i < rs.length:=by rw[ZP] at h;exact h
 rw[ZaQ h']
 simp[prs]
theorem Zo8 {i j:Int} (hi:0<=i/\i < 10 ^ 60) (hj:0<=j/\j < 10 ^ 60):Zau i j:=Zg5 200 200 (show i.natAbs < 2 ^ 200 by omega) (show j.natAbs < 2 ^ 200 by omega) (by decide) (by decide)
theorem ZfD {ns:List Int} {k:Nat} (q: ∀ c:Int,0<=c->Q (.int c) M):wO (F_law_cell_at [.rol (ns.map D.int),.int k] M) Q E:=by
 have tail: ∀ v:Int,0<=v->Q (.int v) M:=q
 simp![F_law_cell_at,ZbX]
 refine brS (fun h1=> ?_) (fun h1=> ?_)
 ·have h2:k < ns.length:=by simpa using h1
  simp![ZjW h2]
  obtain ⟨c,hc,c0⟩: ∃ c:Int,ns[k] % 1000000000000000000000000000000000000000000000000000000000000=c/\0<=c:=⟨_,rfl,by omega⟩
  rw[hc]
  refine brS (fun h1=> ?_) (fun h1=> ?_)
  ·simp![Zt]
   rw[ZgR (Zo8 (by omega) (by omega))]
   simp![Zt]
   exact q _ (by omega)
  ·simp![Zt]
   exact q _ c0
 ·obtain ⟨c,hc,c0⟩: ∃ c:Int,0=c/\0<=c:=⟨_,rfl,by omega⟩
  rw[hc]
  simp![Zt]
  rw[ZgR (Zo8 (by omega) (by omega))]
  simp![Zt]
  exact q _ (by omega)
theorem ZiW {xs:List Int}:Zcp (nts xs)=some xs:=by
 induction xs with
 |nil=>rfl
 |cons x r ih=>show (match Zcp (nts r) with | some bs=>some (x :: bs) | none=>none)=_;rw[ih]
end
end CC
end
section
namespace DL
noncomputable def T (rs:List Pt) (i:Int):Int:=0 - X (cy rs (i - 1)) (cy rs (i + 1))
section
variable {rs:List Pt} {k:Nat} {p:Pt} {j:Int}
end
end DL
namespace CC
open PySem PySem.Spec L2 DL
section
variable {Q:D->Sto->Prop} {E:Str->Sto->Prop} {M:Sto} {a b c d i:Int} {n:Nat} {rs:List Pt}
end
end CC
end
section
namespace DL
section
variable {rs:List Pt} {k:Nat} {p:Pt} {j:Int}
theorem Zo9 (p q:Pt):X p q=0 - X q p:=by unfold X;grind
end
end DL
end
section
namespace DL
noncomputable def nm (p:Pt):Int:=p.1 * p.1 + p.2 * p.2
end DL
namespace DL
section
variable {rs:List Pt} {k:Nat}
end
end DL
end
section
namespace CE
open PySem PySem.Spec L2 DL
noncomputable def ZaR:Sv:=(ZN (e2 dSub (e2 dMul (e2 dIx (Zg 0) (eC (.int 0))) (e2 dIx (Zg 1) (eC (.int 1)))) (e2 dMul (e2 dIx (Zg 0) (eC (.int 1))) (e2 dIx (Zg 1) (eC (.int 0))))))
noncomputable def F_crossed:List D->Sto->Out D:=fnF ZaR 2 0
noncomputable def ZbU:Sv:=(ZN (e2 dIx (Zg 0) (e2 dMod (e2 dAdd (Zg 1) (eC (.int 1))) (Zk bLen (Zc (Zg 0) aNil)))))
noncomputable def F_following:List D->Sto->Out D:=fnF ZbU 2 0
noncomputable def Za8:Sv:=(sIf (tv (e2 dNe (Zk F_crossed (Zc (Zg 2) (Zc (Zk F_following (Zc (Zg 0) (Zc (Zg 1) aNil))) aNil))) (eC (.int 1)))) (ZN (Zg 1)) sNil)
noncomputable def ZbV:Sv:=(ZD (Zdt (gTp (gCs (gNm 1) (gCs (gNm 2) gNl))) (iEn (Zc (Zg 0) aNil)) Za8)
 (ZN (eC .non)))
noncomputable def F_unspanned:List D->Sto->Out D:=fnF ZbV 1 2
noncomputable def ZbC:Sv:=(ZD (Z4 (gNm 1) (Zk F_unspanned (Zc (Zg 0) aNil)))
 (sIf (tv (e2 dIsNot (Zg 1) (eC .non))) (ZbI (PySem.Str.ofString "NotSmooth") (Zc (eFs (Zcq (eC (.str (PySem.Str.ofString "ray "))) (Zcq (eFm (Zg 1)) (Zcq (eC (.str (PySem.Str.ofString " does not cross the next one in 1"))) jNil)))) aNil)) sNil))
noncomputable def F_ask_smooth:List D->Sto->Out D:=fnF ZbC 1 1
noncomputable def ZfE:Sv:=(ZD (Zds (Zk F_ask_smooth (Zc (Zg 0) aNil)))
 (ZN (ZaM (iR1 (Zc (Zk bLen (Zc (Zg 0) aNil)) aNil)) 1 [0] (gNm 0) (fun _ M=> .ok true M) (Zk F_crossed (Zc (Zk F_following (Zc (Zg 1) (Zc (Zg 0) aNil))) (Zc (e2 dIx (Zg 1) (e2 dSub (Zg 0) (eC (.int 1)))) aNil))))))
noncomputable def F_numbers:List D->Sto->Out D:=fnF ZfE 1 0
noncomputable def ZbW:Sv:=(sIf (Zb2 (tv (e2 dLt (Zg 1) (eC (.int 0)))) (tv (e2 dGe (Zg 1) (Zk bLen (Zc (Zg 0) aNil))))) (ZbI (PySem.Str.ofString "NoPlace") (Zc (eFs (Zcq (eC (.str (PySem.Str.ofString "a place is from 0 to "))) (Zcq (eFm (e2 dSub (Zk bLen (Zc (Zg 0) aNil)) (eC (.int 1)))) jNil))) aNil)) sNil)
noncomputable def F_ask_place:List D->Sto->Out D:=fnF ZbW 2 0
noncomputable def ZdP:Sv:=(ZD (Z4 (gNm 2) (Zk F_numbers (Zc (Zg 0) aNil)))
 (ZD (Zds (Zk F_ask_place (Zc (Zg 0) (Zc (Zg 1) aNil))))
 (ZD (sIf (Zb2 (tv (e2 dNe (e2 dIx (Zg 2) (Zg 1)) (ZgC (eC (.int 1))))) (tv (e2 dLt (Zk bLen (Zc (Zg 0) aNil)) (eC (.int 4))))) (ZbI (PySem.Str.ofString "NoMinus") (Zc (eC (.str (PySem.Str.ofString "a ray of number -1 is taken out, of four rays or more"))) aNil)) sNil)
 (ZN (e2 dAdd (eSl (Zg 0) oNo (oSo (Zg 1))) (eSl (Zg 0) (oSo (e2 dAdd (Zg 1) (eC (.int 1)))) oNo))))))
noncomputable def F_taken_out:List D->Sto->Out D:=fnF ZdP 2 1
end CE
end
section
namespace CE
open PySem PySem.Spec L2 DL
section
variable {Q:D->Sto->Prop} {E:Str->Sto->Prop} {M:Sto} {a b c d i:Int} {n:Nat} {rs:List Pt}
end
end CE
end
section
namespace CF
open PySem PySem.Spec L2 DL CC
end CF
end
section
namespace CF
open PySem PySem.Spec L2 DL
section
variable {Q:D->Sto->Prop} {E:Str->Sto->Prop} {M:Sto} {a b c d i:Int} {n:Nat} {rs:List Pt}
end
end CF
end
section
namespace DL
open PySem PySem.Spec L2 DL
section
variable {M:Sto}
theorem Zpa {k:Nat} {a b:Str}:eqF (k + 1) M (.str a) (.str b)=some (a == b):=rfl
end
end DL
end
section
namespace CB
open PySem PySem.Spec L2 DL
noncomputable def ZaR:Sv:=(ZN (e2 dSub (e2 dMul (e2 dIx (Zg 0) (eC (.int 0))) (e2 dIx (Zg 1) (eC (.int 1)))) (e2 dMul (e2 dIx (Zg 0) (eC (.int 1))) (e2 dIx (Zg 1) (eC (.int 0))))))
noncomputable def F_crossed:List D->Sto->Out D:=fnF ZaR 2 0
noncomputable def Zb7:Sv:=(ZD (Z4 (gNm 5) (e2 dDiv (Zg 1) (Zg 2)))
 (ZD (Ze3 1 2 (Zc (Zg 2) (Zc (e2 dSub (Zg 1) (e2 dMul (Zg 5) (Zg 2))) aNil)))
 (Ze3 3 4 (Zc (Zg 4) (Zc (Zao (Zc (e2 dSub (e2 dIx (Zg 3) (eC (.int 0))) (e2 dMul (Zg 5) (e2 dIx (Zg 4) (eC (.int 0))))) (Zc (e2 dSub (e2 dIx (Zg 3) (eC (.int 1))) (e2 dMul (Zg 5) (e2 dIx (Zg 4) (eC (.int 1))))) aNil))) aNil)))))
noncomputable def ZdQ:Sv:=(ZD (Z4 (gTp (gCs (gNm 1) (gCs (gNm 2) gNl))) (Zg 0))
 (ZD (Z4 (gTp (gCs (gNm 3) (gCs (gNm 4) gNl))) (Zao (Zc (Zao (Zc (eC (.int 0)) (Zc (eC (.int 1)) aNil))) (Zc (Zao (Zc (ZgC (eC (.int 1))) (Zc (eC (.int 0)) aNil))) aNil))))
 (ZD (sWh (tv (e2 dNe (Zg 2) (eC (.int 0)))) Zb7)
 (ZN (Zao (Zc (e2 dMul (Zg 1) (e2 dIx (Zg 3) (eC (.int 0)))) (Zc (e2 dMul (Zg 1) (e2 dIx (Zg 3) (eC (.int 1)))) aNil)))))))
noncomputable def F_partner:List D->Sto->Out D:=fnF ZdQ 1 5
noncomputable def ZbG:Sv:=(ZD (Z4 (gNm 2) (Zk F_partner (Zc (Zg 0) aNil)))
 (ZD (Z4 (gNm 3) (e2 dDiv (Zk F_crossed (Zc (Zg 2) (Zc (Zg 1) aNil))) (Zk F_crossed (Zc (Zg 0) (Zc (Zg 1) aNil)))))
 (ZN (Zao (Zc (e2 dSub (e2 dIx (Zg 2) (eC (.int 0))) (e2 dMul (Zg 3) (e2 dIx (Zg 0) (eC (.int 0))))) (Zc (e2 dSub (e2 dIx (Zg 2) (eC (.int 1))) (e2 dMul (Zg 3) (e2 dIx (Zg 0) (eC (.int 1))))) aNil))))))
noncomputable def F_first_behind:List D->Sto->Out D:=fnF ZbG 2 2
noncomputable def ZbY:Sv:=(ZD (Z4 (gNm 3) (ZgC (e2 dDiv (ZgC (Zg 0)) (Zg 1))))
 (ZD (Zds (Zij mApp (Zg 2) (Zc (Zg 3) aNil)))
 (Ze3 0 1 (Zc (Zg 1) (Zc (e2 dSub (e2 dMul (Zg 3) (Zg 1)) (Zg 0)) aNil)))))
noncomputable def Zc0:Sv:=(ZD (Z4 (gNm 2) (Zcn aNil))
 (ZD (sWh (tv (e2 dNe (Zg 1) (eC (.int 0)))) ZbY)
 (ZN (Zg 2))))
noncomputable def F_expanded:List D->Sto->Out D:=fnF Zc0 2 2
noncomputable def Zmq:Sv:=(ZD (sIf (tv (e2 dLe (Zk F_crossed (Zc (Zg 0) (Zc (Zg 1) aNil))) (eC (.int 0)))) (ZbI (PySem.Str.ofString "NoWedge") (Zc (eC (.str (PySem.Str.ofString "the two rays of a wedge, crossed, come to more than 0"))) aNil)) sNil)
 (ZN (Zk F_expanded (Zc (Zk F_crossed (Zc (Zg 0) (Zc (Zg 1) aNil))) (Zc (Zk F_crossed (Zc (Zk F_first_behind (Zc (Zg 0) (Zc (Zg 1) aNil))) (Zc (Zg 1) aNil))) aNil)))))
noncomputable def F_row:List D->Sto->Out D:=fnF Zmq 2 0
noncomputable def Zb8:Sv:=(ZD (Zds (Zij mApp (Zg 3) (Zc (Zg 5) aNil)))
 (Ze3 4 5 (Zc (Zg 5) (Zc (Zao (Zc (e2 dSub (e2 dMul (Zg 6) (e2 dIx (Zg 5) (eC (.int 0)))) (e2 dIx (Zg 4) (eC (.int 0)))) (Zc (e2 dSub (e2 dMul (Zg 6) (e2 dIx (Zg 5) (eC (.int 1)))) (e2 dIx (Zg 4) (eC (.int 1)))) aNil))) aNil))))
noncomputable def ZdR:Sv:=(ZD (Z4 (gNm 2) (Zk F_row (Zc (Zg 0) (Zc (Zg 1) aNil))))
 (ZD (Z4 (gNm 3) (Zcn aNil))
 (ZD (Ze3 4 5 (Zc (Zg 0) (Zc (Zk F_first_behind (Zc (Zg 0) (Zc (Zg 1) aNil))) aNil)))
 (ZD (Zny (gNm 6) (Zg 2) Zb8)
 (ZN (Zg 3))))))
noncomputable def F_between:List D->Sto->Out D:=fnF ZdR 2 5
noncomputable def Zc1:Sv:=(Zds (Zij mApp (Zg 3) (Zc (Zao (Zc (e2 dSub (e2 dIx (Zg 5) (eC (.int 1))) (e2 dIx (Zg 4) (eC (.int 1)))) (Zc (e2 dSub (e2 dIx (Zg 4) (eC (.int 0))) (e2 dIx (Zg 5) (eC (.int 0)))) aNil))) aNil)))
noncomputable def Zgh:Sv:=(ZD (Z4 (gNm 2) (e2 dAdd (Zk F_between (Zc (Zg 0) (Zc (Zg 1) aNil))) (Zcn (Zc (Zg 1) aNil))))
 (ZD (Z4 (gNm 3) (Zcn aNil))
 (ZD (Zdt (gTp (gCs (gNm 4) (gCs (gNm 5) gNl))) (iZp (Zc (Zg 2) (Zc (eSl (Zg 2) (oSo (eC (.int 1))) oNo) aNil))) Zc1)
 (ZN (Zg 3)))))
noncomputable def F_shows:List D->Sto->Out D:=fnF Zgh 2 4
end CB
end
section
namespace DL
theorem ZiX {a b:Int} (h:b≠0):(a - a.fdiv b * b).natAbs < b.natAbs:=by
 have e:a - a.fdiv b * b=a.fmod b:=by rw[Int.fmod_def,Int.mul_comm]
 rw[e]
 by_cases c:0 < b
 ·have h1:=Int.fmod_lt_of_pos a c
  have h2:0<=a.fmod b:=by rw[Int.fmod_eq_emod_of_nonneg _ (by omega)];exact Int.emod_nonneg _ h
  omega
 ·have e2:a.fmod b= -((-a).fmod (-b)):=by rw[Int.neg_fmod_neg];omega
  have h1:=Int.fmod_lt_of_pos (-a) (show 0 < -b by omega)
  have h2:0<=(-a).fmod (-b):=by rw[Int.fmod_eq_emod_of_nonneg _ (by omega)];exact Int.emod_nonneg _ (by omega)
  omega
theorem Zmr {a b:Int} (h:b≠0):(a.fdiv b).natAbs<=a.natAbs + 1:=by
 have h1:=ZiX (a:=a) h
 generalize hr:a - a.fdiv b * b=r at h1
 have h2:(a.fdiv b * b).natAbs<=a.natAbs + r.natAbs:=by omega
 rw[Int.natAbs_mul] at h2
 apply Classical.byContradiction
 intro c
 have h3:(a.natAbs + 2) * b.natAbs<=(a.fdiv b).natAbs * b.natAbs:=Nat.mul_le_mul_right _ (by omega)
 have h4:a.natAbs * 1<=a.natAbs * b.natAbs:=Nat.mul_le_mul_left _ (by omega)
 rw[Nat.add_mul] at h3
 omega
noncomputable def hj (t b:Int):List Int:=if h:0 < b then -((-t) / b) :: hj b (-((-t) / b) * b - t) else []
termination_by b.toNat
decreasing_by
 have h1:=Int.emod_nonneg (-t) (show b≠0 by omega)
 have h2:=Int.emod_lt_of_pos (-t) h
 have h3:=Int.emod_add_mul_ediv (-t) b
 rw[Int.neg_mul,Int.mul_comm]
 omega
theorem ZcA {t b:Int} (h:0 < b):0<= -((-t) / b) * b - t/\ -((-t) / b) * b - t < b:=by
 have h1:=Int.emod_nonneg (-t) (show b≠0 by omega)
 have h2:=Int.emod_lt_of_pos (-t) h
 have h3:=Int.emod_add_mul_ediv (-t) b
 rw[Int.neg_mul,Int.mul_comm]
 omega
theorem Zk0 {t b:Int} (h:0 < b) (ht:b < t):2<= -((-t) / b):=by
 have:=(ZcA (t:=t) h).1
 apply Classical.byContradiction
 intro c
 have: -((-t) / b) * b<=1 * b:=Int.mul_le_mul_of_nonneg_right (by omega) (by omega)
 omega
theorem ZiY: ∀ (n:Nat) (t b:Int),b.toNat=n->(hj t b).length<=n:=by
 intro n
 induction n using Nat.strongRecOn with
 |ind n ih=>
  intro t b hb
  unfold hj
  by_cases h:0 < b
  ·rw[dif_pos h]
   have:=ZcA (t:=t) h
   have:=ih (-((-t) / b) * b - t).toNat (by omega) b _ rfl
   simp only[List.length_cons]
   omega
  ·rw[dif_neg h]
   simp
end DL
namespace CB
open PySem PySem.Spec L2 DL
section
variable {Q:D->Sto->Prop} {E:Str->Sto->Prop} {M:Sto} {a b c d i:Int} {n m:Nat} {u v w:Pt}
noncomputable abbrev Bd (b:Int) (p:Pt):Prop:=(-b<=p.1/\p.1<=b)/\ -b<=p.2/\p.2<=b
theorem Zpb {j:Int} (h:j≠0/\ -(18446744073709551616) < j/\j < 18446744073709551616):wO (dDiv (.int i) (.int j) M) Q E=Q (.int (i.fdiv j)) M:=by
 have:ZbE j:=by
  refine ⟨h.1,?_⟩
  have:j.natAbs.log2 < 65:=(Nat.log2_lt (by omega)).mpr (by omega)
  omega
 show wO (if ZbE j then _ else _) Q E=_
 rw[if_pos this];rfl
theorem ZiZ (hg:Int.gcd u.1 u.2=1) (hb:Bd 1000000 u) (q: ∀ w:Pt,X u w=1->Q (pr w.1 w.2) M):wO (F_partner [pr u.1 u.2] M) Q E:=by
 simp![F_partner,ZdQ]
 refine Zo3 (fun k ρ M'=>M'=M/\ ∃ (h l:Int) (f s:Pt) (x:Option D),ρ=[some (pr u.1 u.2),some (.int h),some (.int l),some (pr f.1 f.2),some (pr s.1 s.2),x]/\k=l.natAbs/\Int.gcd h l=1/\(-1000000<=h/\h<=1000000)/\(-1000000<=l/\l<=1000000)/\X u f=h/\X u s=l) ?_ u.2.natAbs _ _ ⟨rfl,u.1,u.2,(0,1),(-1,0),_,rfl,rfl,hg,hb.1,hb.2,by simp[X],by simp[X]⟩
 rintro k ρ M ⟨rfl,h,l,f,s,x,rfl,rfl,g,hh,hl,e1,e2⟩
 simp![Zt]
 refine Zo4 (fun hl0=> ?_) (fun hl0=> ?_)
 ·have f1:=ZiX (a:=h) hl0
  have f2:=Zmr (a:=h) hl0
  simp![Zb7,Zpb]
  refine ⟨(h - h.fdiv l * l).natAbs,f1,l,h - h.fdiv l * l,s,(f.1 - h.fdiv l * s.1,f.2 - h.fdiv l * s.2),_,rfl,rfl,?_,hl,by omega,e2,?_⟩
  ·rw[Int.gcd_sub_mul_right_right,Int.gcd_comm]
   exact g
  ·unfold X at *
   simp only
   grind
 ·subst hl0
  rw[Int.gcd_zero_right] at g
  simp![Zt]
  have:=q (h * f.1,h * f.2) (by
   have hh2:h * h=1:=by
    have:h=1\/h= -1:=by omega
    rcases this with z | z<;>rw[z]<;>rfl
   unfold X at *
   simp only
   grind)
  exact this
theorem ZbJ (h:Bd 1000000 u\/Bd 1000000 v):wO (F_crossed [pr u.1 u.2,pr v.1 v.2] M) Q E=Q (.int (X u v)) M:=by
 rcases h with h | h
 ·simp![F_crossed,ZaR]
  rfl
 ·simp![F_crossed,ZaR]
  rfl
structure Wg (u v:Pt):Prop where
 gu:Int.gcd u.1 u.2=1
 gv:Int.gcd v.1 v.2=1
 bu:Bd 1000 u
 bv:Bd 1000 v
 pos:0 < X u v
theorem Wg.le (h:Wg u v):X u v<=2000000:=by
 obtain ⟨_,_,⟨⟨a1,a2⟩,a3,a4⟩,⟨⟨b1,b2⟩,b3,b4⟩,_⟩:=h
 have m: ∀ x y:Int,-1000<=x->x<=1000-> -1000<=y->y<=1000->(x * y).natAbs<=1000 * 1000:=by
  intro x y _ _ _ _
  rw[Int.natAbs_mul]
  exact Nat.mul_le_mul (by omega) (by omega)
 have p1:=m u.1 v.2 a1 a2 b3 b4
 have p2:=m u.2 v.1 a3 a4 b1 b2
 unfold X
 omega
theorem Zct (h:Wg u v) (q: ∀ w:Pt,X u w=1->0<=X w v->X w v < X u v->Q (pr w.1 w.2) M):wO (F_first_behind [pr u.1 u.2,pr v.1 v.2] M) Q E:=by
 have bu:Bd 1000000 u:=by have:=h.bu;unfold Bd at *;omega
 have bv:Bd 1000000 v:=by have:=h.bv;unfold Bd at *;omega
 have hp:=h.pos
 have hl:=h.le
 simp![F_first_behind,ZbG]
 refine ZiZ h.gu bu fun w e=> ?_
 simp![ZbJ (u:=w) (v:=v) (.inr bv),ZbJ (u:=u) (v:=v) (.inr bv)]
 have m1:=Int.emod_nonneg (X w v) (show X u v≠0 by omega)
 have m2:=Int.emod_lt_of_pos (X w v) hp
 have m3:=Int.emod_add_mul_ediv (X w v) (X u v)
 generalize X w v / X u v=k at *
 have e3:X (w.1 - k * u.1,w.2 - k * u.2) v=X w v % X u v:=by
  have:X (w.1 - k * u.1,w.2 - k * u.2) v=X w v - X u v * k:=by unfold X;simp only;grind
  omega
 exact q (w.1 - k * u.1,w.2 - k * u.2) (by unfold X at *;simp only;grind) (by omega) (by omega)
structure Fb (u v w:Pt):Prop where
 one:X u w=1
 lo:0<=X w v
 hi:X w v < X u v
theorem Fb.uniq {w w':Pt} (h:Fb u v w) (k:Fb u v w'):w=w':=by
 obtain ⟨h1,a1,a2⟩:=h
 obtain ⟨h2,b1,b2⟩:=k
 have e1:w'.1=X w' w * u.1 + w.1/\w'.2=X w' w * u.2 + w.2:=by unfold X at *;constructor<;>grind
 have e2:X w' v=X w' w * X u v + X w v:=by
  have:X w' v=X (X w' w * u.1 + w.1,X w' w * u.2 + w.2) v:=by rw[<- e1.1,<- e1.2]
  rw[this]
  unfold X
  simp only
  grind
 generalize X w' w=k at *
 have k0:k=0:=by
  apply Classical.byContradiction
  intro c
  by_cases p:1<=k
  ·have:1 * X u v<=k * X u v:=Int.mul_le_mul_of_nonneg_right p (by omega)
   omega
  ·have:k * X u v<=(-1) * X u v:=Int.mul_le_mul_of_nonneg_right (by omega) (by omega)
   omega
 rw[k0] at e1
 apply Prod.ext<;>omega
theorem Zpc (h:Wg u v): ∃ w,Fb u v w:=by
 obtain ⟨d,M',_,w,hw⟩:=ZiP (Zct (M:=[]) (Q:=fun _ _=> ∃ w,Fb u v w) h fun w a b c=>⟨w,a,b,c⟩)
 exact ⟨w,hw⟩
theorem Zpd (h:Wg u v) (hw:Fb u v w):wO (F_first_behind [pr u.1 u.2,pr v.1 v.2] M) Q E=Q (pr w.1 w.2) M:=by
 obtain ⟨d,M',e,e1,e2⟩:=ZiP (Zct (M:=M) (Q:=fun d M'=>d=pr w.1 w.2/\M'=M) h fun w' a b c=>⟨by rw[hw.uniq ⟨a,b,c⟩],rfl⟩)
 rw[e,e1,e2]
 rfl
theorem Zhe {t b:Int} (hb:0<=b) (hl:b<=90000) (q:Q (.ref M.length) (M ++ [.lst (nts (hj t b))])):wO (F_expanded [.int t,.int b] M) Q E:=by
 simp![F_expanded,Zc0]
 refine Zo3 (fun k ρ M'=> ∃ (t' b':Int) (xs:List Int) (x:Option D),ρ=[some (.int t'),some (.int b'),some (.ref M.length),x]/\M'=M ++ [.lst (nts xs)]/\0<=b'/\b'<=90000/\k=b'.toNat/\xs ++ hj t' b'=hj t b/\xs.length + b'.toNat<=90000) ?_ b.toNat _ _ ⟨t,b,[],_,rfl,rfl,hb,hl,rfl,rfl,by simp;omega⟩
 rintro k ρ M' ⟨t',b',xs,x,rfl,rfl,h0,h1,rfl,e,hx⟩
 simp![Zt]
 refine Zo4 (fun hl0=> ?_) (fun hl0=> ?_)
 ·have n1:=ZcA (t:=t') (show 0 < b' by omega)
  simp![ZbY]
  refine ⟨by omega,(-(-t' / b') * b' - t').toNat,by omega,_,_,xs ++ [-(-t' / b')],_,rfl,rfl,n1.1,by omega,rfl,?_,by simp;omega⟩
  rw[<- e]
  conv=>rhs;rw[hj,dif_pos (show 0 < b' by omega)]
  simp
 ·subst hl0
  simp![Zt]
  have:hj t' 0=[]:=by rw[hj,dif_neg (by omega)]
  rw[this,List.append_nil] at e
  rw[e]
  exact q
theorem ZrJ (h:Wg u v) (hw:Fb u v w) (hl:X u v<=90000) (q:Q (.ref M.length) (M ++ [.lst (nts (hj (X u v) (X w v)))])):wO (F_row [pr u.1 u.2,pr v.1 v.2] M) Q E:=by
 have bv:Bd 1000000 v:=by have:=h.bv;unfold Bd at *;omega
 have hp:=h.pos
 simp![F_row,Zmq,ZbJ (u:=u) (v:=v) (.inr bv),ZbJ (u:=w) (v:=v) (.inr bv),Zpd h hw]
 exact Zhe hw.lo (by have:=hw.hi;omega) q
noncomputable def btw:Pt->Pt->List Int->List Pt
 |_,_,[]=>[]
 |a,r,k :: ks=>r :: btw r (k * r.1 - a.1,k * r.2 - a.2) ks
theorem Zgi: ∀ (a r:Pt) (ks:List Int),(btw a r ks).length=ks.length
 |_,_,[]=>rfl
 |a,r,k :: ks=>by rw[btw,List.length_cons,Zgi,List.length_cons]
theorem Zkb: ∀ (n:Nat) (t b:Int),b.toNat=n->0<=b->b < t-> ∀ k∈hj t b,2<=k/\k<=t:=by
 intro n
 induction n using Nat.strongRecOn with
 |ind n ih=>
  intro t b hb h0 ht k hk
  unfold hj at hk
  by_cases h:0 < b
  ·rw[dif_pos h] at hk
   have nx:=ZcA (t:=t) h
   rcases List.mem_cons.mp hk with z | z
   ·rw[z]
    refine ⟨Zk0 h ht,?_⟩
    apply Classical.byContradiction
    intro c
    have:(t + 1) * b<= -((-t) / b) * b:=Int.mul_le_mul_of_nonneg_right (by omega) (by omega)
    have:t * 1<=t * b:=Int.mul_le_mul_of_nonneg_left (by omega) (by omega)
    rw[Int.add_mul] at *
    omega
   ·have:=ih (-((-t) / b) * b - t).toNat (by omega) b _ rfl nx.1 nx.2 k z
    omega
  ·rw[dif_neg h] at hk
   simp at hk
theorem ZdS (h:Wg u v) (hw:Fb u v w) (hl:X u v<=90000) (q:Q (.ref (M.length + 1)) (M ++ [.lst (nts (hj (X u v) (X w v))),.lst (prs (btw u w (hj (X u v) (X w v))))])):wO (F_between [pr u.1 u.2,pr v.1 v.2] M) Q E:=by
 simp![F_between,ZdR]
 refine ZrJ h hw hl ?_
 have sm:=Zkb _ (X u v) (X w v) rfl hw.lo hw.hi
 have ln:=ZiY _ (X u v) (X w v) rfl
 have hi:=hw.hi
 generalize hj (X u v) (X w v)=ks at *
 simp![Zpd h hw]
 refine Zl4 (fun i ρ M'=> ∃ (a r:Pt) (pre suf:List Int) (dn:List Pt) (x:Option D),ρ=[some (pr u.1 u.2),some (pr v.1 v.2),some (.ref M.length),some (.ref (M.length + 1)),some (pr a.1 a.2),some (pr r.1 r.2),x]/\M'=M ++ [.lst (nts ks),.lst (prs dn)]/\ks=pre ++ suf/\pre.length=i/\btw u w ks=dn ++ btw a r suf/\dn.length=i) (n:=M.length) (xs:=nts ks) (by rw[Zhd];rfl) ⟨u,w,[],ks,[],_,rfl,rfl,rfl,rfl,rfl,rfl⟩ (fun i ρ M' ⟨_,_,_,_,_,_,_,e,_⟩=>by rw[e,Zhd];rfl) ?_ ?_
 ·rintro i ρ M' hi' ⟨a,r,pre,suf,dn,x,rfl,rfl,e1,e2,e3,e4⟩
  rw[ZeC] at hi'
  obtain ⟨k,suf,rfl⟩: ∃ k s,suf=k :: s:=by
   cases suf with
   |nil=>rw[e1] at hi';simp at hi';omega
   |cons k s=>exact ⟨k,s,rfl⟩
  have ek:(nts ks)[i]'(by rw[ZeC];exact hi')= .int k:=by
   subst e1 e2
   simp[nts]
  rw[ek]
  have hk:=sm k (by rw[e1];simp)
  simp![Zb8]
  refine ⟨by omega,r,(k * r.1 - a.1,k * r.2 - a.2),pre ++ [k],suf,dn ++ [(r.1,r.2)],_,rfl,rfl,by rw[e1];simp,by simp;omega,?_,by simp;omega⟩
  rw[e3,btw]
  simp
 ·rintro ρ M' ⟨a,r,pre,suf,dn,x,rfl,rfl,e1,e2,e3,e4⟩
  have:suf=[]:=by
   have:=congrArg List.length e1
   rw[ZeC] at e2
   simp at this
   cases suf with
   |nil=>rfl
   |cons _ _=>simp at this;omega
  subst this
  rw[btw,List.append_nil] at e3
  simp![Zt]
  rw[<- e3]
  exact q
end
end CB
end
section
namespace CB
open PySem PySem.Spec L2 DL
section
variable {Q:D->Sto->Prop} {E:Str->Sto->Prop} {M:Sto} {a b c d i:Int} {n m:Nat} {u v w:Pt}
theorem ZsT (hu:Bd 200 u) (hv:Bd 200 v): -80000<=X u v/\X u v<=80000:=by
 obtain ⟨⟨a1,a2⟩,a3,a4⟩:=hu
 obtain ⟨⟨b1,b2⟩,b3,b4⟩:=hv
 have m: ∀ x y:Int,-200<=x->x<=200-> -200<=y->y<=200->(x * y).natAbs<=200 * 200:=by
  intro x y _ _ _ _
  rw[Int.natAbs_mul]
  exact Nat.mul_le_mul (by omega) (by omega)
 have p1:=m u.1 v.2 a1 a2 b3 b4
 have p2:=m u.2 v.1 a3 a4 b1 b2
 unfold X
 omega
noncomputable def Ch:List Pt->Prop
 |a :: b :: r=>X a b=1/\Ch (b :: r)
 |_=>True
theorem Zt4: ∀ (n:Nat) (t b:Int) (a r v:Pt),b.toNat=n->0<=b->b < t->X a r=1->X a v=t->X r v=b->Int.gcd v.1 v.2=1->Ch (a :: (btw a r (hj t b) ++ [v])):=by
 intro n
 induction n using Nat.strongRecOn with
 |ind n ih=>
  intro t b a r v hb h0 ht h1 h2 h3 gv
  unfold hj
  by_cases h:0 < b
  ·rw[dif_pos h]
   have nx:=ZcA (t:=t) h
   generalize hk: -((-t) / b)=k at *
   have q:=ih (k * b - t).toNat (by omega) b (k * b - t) r (k * r.1 - a.1,k * r.2 - a.2) v rfl nx.1 nx.2 (by unfold X at *;simp only;grind) h3 (by unfold X at *;simp only;grind) gv
   rw[btw]
   exact ⟨h1,q⟩
  ·rw[dif_neg h,btw]
   have b0:b=0:=by omega
   have e1:v.1=t * r.1/\v.2=t * r.2:=by unfold X at *;constructor<;>grind
   rw[e1.1,e1.2,Int.gcd_mul_left] at gv
   have t1:t.natAbs=1:=Nat.eq_one_of_mul_eq_one_right gv
   refine ⟨by rw[h2];omega,trivial⟩
noncomputable def Tr (a b d:Pt):Prop:= ∃ k:Int,2<=k/\a.1 + d.1=k * b.1/\a.2 + d.2=k * b.2
noncomputable def Cv:List Pt->Prop
 |a :: b :: d :: r=>Tr a b d/\Cv (b :: d :: r)
 |_=>True
noncomputable def dt (f p:Pt):Int:=f.1 * p.1 + f.2 * p.2
noncomputable def shw:List Pt->List Pt
 |a :: b :: r=>(b.2 - a.2,a.1 - b.1) :: shw (b :: r)
 |_=>[]
theorem ZdT: ∀ l:List Pt,(shw l).length=l.length - 1
 | []=>rfl
 | [_]=>rfl
 |a :: b :: r=>by rw[shw,List.length_cons,ZdT];simp
theorem Zgj: ∀ (l:List Pt) (i:Nat) (h:i + 1 < l.length),(shw l)[i]?=some (((l[i + 1]).2 - (l[i]).2,(l[i]).1 - (l[i + 1]).1))
 |a :: b :: r,0,_=>rfl
 |a :: b :: r,i + 1,h=>by
  rw[shw,List.getElem?_cons_succ,Zgj (b :: r) i (by simp at h ⊢;omega)]
  rfl
theorem Zms (h:Wg u v) (hw:Fb u v w) (hl:X u v<=80000) (q: ∀ m M',M.length<=m->M'[m]?=some (.lst (prs (shw (btw u w (hj (X u v) (X w v)) ++ [v]))))->M.length<=M'.length->(∀ k,k < M.length->M'[k]?=M[k]?)->Q (.ref m) M'):wO (F_shows [pr u.1 u.2,pr v.1 v.2] M) Q E:=by
 simp![F_shows,Zgh]
 refine ZdS h hw (by omega) ?_
 have ln:=ZiY _ (X u v) (X w v) rfl
 have hi:=hw.hi
 have bl:=Zgi u w (hj (X u v) (X w v))
 have lo:=hw.lo
 generalize hj (X u v) (X w v)=ks at *
 generalize btw u w ks=rs at *
 simp![Zt]
 refine ⟨by omega,?_⟩
 have ve:(v.1,v.2)=v:=rfl
 rw[ve]
 have Rl:(rs ++ [v]).length=ks.length + 1:=by simp[bl]
 generalize hR:rs ++ [v]=R at *
 have dl:(R.drop 1).length=ks.length:=by rw[List.length_drop];omega
 have sl:=ZdT R
 refine Zmh (xs:=prs R) (ys:=prs (R.drop 1)) (fun i ρ M'=>(∃ x y,ρ=[some (pr u.1 u.2),some (pr v.1 v.2),some (D.ref (M.length + 3)),some (D.ref (M.length + 4)),x,y])/\M'=M ++ [SO.lst (nts ks),SO.lst (prs rs),SO.lst [pr v.1 v.2],SO.lst (prs R),SO.lst (prs ((shw R).take i)),SO.lst (prs (R.drop 1))]) (by rw[ZdN];rfl) (by rw[ZP,ZP];omega) ⟨⟨_,_,rfl⟩,rfl⟩ (fun i ρ M' ⟨_,e⟩=>⟨by rw[e,ZdN];rfl,by rw[e,ZdN];rfl⟩) ?_ ?_
 ·rintro i ρ M' hi' ⟨⟨x,y,rfl⟩,rfl⟩
  rw[ZP,dl] at hi'
  have g1:(prs R)[i]'(by rw[ZP];omega)=pr (R[i]'(by omega)).1 (R[i]'(by omega)).2:=by simp[prs]
  have g2:(prs (R.drop 1))[i]'(by rw[ZP];omega)=pr (R[i + 1]'(by omega)).1 (R[i + 1]'(by omega)).2:=by simp[prs,Nat.add_comm]
  rw[g1,g2]
  have sg:=Zgj R i (by omega)
  have tk:(shw R).take i ++ [((R[i + 1]'(by omega)).2 - (R[i]'(by omega)).2,(R[i]'(by omega)).1 - (R[i + 1]'(by omega)).1)]=(shw R).take (i + 1):=by
   rw[List.take_succ,sg]
   rfl
  have tl:((shw R).take i).length < 10000000:=by rw[List.length_take];omega
  simp![Zc1,tl,tk]
  exact ⟨_,_,rfl⟩
 ·rintro ρ M' ⟨⟨x,y,rfl⟩,rfl⟩
  rw[ZP,dl,List.take_of_length_le (by omega)]
  simp![Zt]
  exact q _ _ (by omega) (by rw[ZdN];rfl) (by rw[List.length_append];omega) (fun k hk=>by rw[Zd6 hk])
end
section
variable {u v w:Pt}
theorem ZrK: ∀ (n:Nat) (t b:Int) (a r v:Pt),b.toNat=n->0<=b->b < t->X r v=b->X a v=t-> ∀ x∈btw a r (hj t b),0<=X x v/\X x v<=t:=by
 intro n
 induction n using Nat.strongRecOn with
 |ind n ih=>
  intro t b a r v hb h0 ht h3 h2 x hx
  unfold hj at hx
  by_cases h:0 < b
  ·rw[dif_pos h] at hx
   have nx:=ZcA (t:=t) h
   generalize -((-t) / b)=k at *
   rw[btw] at hx
   rcases List.mem_cons.mp hx with z | z
   ·rw[z,h3];omega
   ·have:=ih (k * b - t).toNat (by omega) b (k * b - t) r (k * r.1 - a.1,k * r.2 - a.2) v rfl nx.1 nx.2 (by unfold X at *;simp only;grind) h3 x z
    omega
  ·rw[dif_neg h,btw] at hx
   simp at hx
theorem ZrL {u:Pt}: ∀ (n:Nat) (t b:Int) (a r v:Pt),b.toNat=n->0<=b->b < t->X a r=1->X a v=t->X r v=b->Int.gcd v.1 v.2=1->0<=X u a->X u a<=X u r->X u r<=X u v/\ ∀ x∈btw a r (hj t b),0<=X u x/\X u x<=X u v:=by
 intro n
 induction n using Nat.strongRecOn with
 |ind n ih=>
  intro t b a r v hb h0 ht h1 h2 h3 gv p1 p2
  unfold hj
  by_cases h:0 < b
  ·rw[dif_pos h]
   have nx:=ZcA (t:=t) h
   have k2:=Zk0 h ht
   generalize -((-t) / b)=k at *
   have e:X u (k * r.1 - a.1,k * r.2 - a.2)=k * X u r - X u a:=by unfold X;simp only;grind
   have m:2 * X u r<=k * X u r:=Int.mul_le_mul_of_nonneg_right k2 (by omega)
   obtain ⟨q1,q2⟩:=ih (k * b - t).toNat (by omega) b (k * b - t) r (k * r.1 - a.1,k * r.2 - a.2) v rfl nx.1 nx.2 (by unfold X at *;simp only;grind) h3 (by unfold X at *;simp only;grind) gv (by omega) (by omega)
   refine ⟨by omega,fun x hx=> ?_⟩
   rw[btw] at hx
   rcases List.mem_cons.mp hx with z | z
   ·rw[z];omega
   ·exact q2 x z
  ·rw[dif_neg h,btw]
   have b0:b=0:=by omega
   have e1:v.1=t * r.1/\v.2=t * r.2:=by unfold X at *;constructor<;>grind
   have gv':=gv
   rw[e1.1,e1.2,Int.gcd_mul_left] at gv'
   have t1:t.natAbs=1:=Nat.eq_one_of_mul_eq_one_right gv'
   have tt:t=1:=by omega
   rw[tt] at e1
   have:v=r:=by apply Prod.ext<;>omega
   rw[this]
   exact ⟨Int.le_refl _,fun x hx=>by simp at hx⟩
theorem Zpe (h:Wg u v) (hw:Fb u v w) (hu:Bd 200 u) (hv:Bd 200 v): ∀ x∈btw u w (hj (X u v) (X w v)),Bd 400 x:=by
 intro x hx
 have a1:=ZrK _ _ _ u w v rfl hw.lo hw.hi rfl rfl x hx
 have uu:X u u=0:=by unfold X;grind
 have a2:=(ZrL (u:=u) _ _ _ u w v rfl hw.lo hw.hi hw.one rfl rfl h.gv (by omega) (by have:=hw.one;omega)).2 x hx
 have hp:=h.pos
 have e1:X u v * x.1=X x v * u.1 + X u x * v.1:=by unfold X;grind
 have e2:X u v * x.2=X x v * u.2 + X u x * v.2:=by unfold X;grind
 have mb: ∀ c y:Int,0<=c->c<=X u v-> -200<=y->y<=200-> -(X u v * 200)<=c * y/\c * y<=X u v * 200:=by
  intro c y c0 c1 y0 y1
  have q1:c * y<=c * 200:=Int.mul_le_mul_of_nonneg_left y1 c0
  have q2:c * 200<=X u v * 200:=Int.mul_le_mul_of_nonneg_right c1 (by omega)
  have q3:c * (-200)<=c * y:=Int.mul_le_mul_of_nonneg_left y0 c0
  omega
 obtain ⟨⟨u1,u2⟩,u3,u4⟩:=hu
 obtain ⟨⟨v1,v2⟩,v3,v4⟩:=hv
 have m1:=mb _ _ a1.1 a1.2 u1 u2
 have m2:=mb _ _ a2.1 a2.2 v1 v2
 have m3:=mb _ _ a1.1 a1.2 u3 u4
 have m4:=mb _ _ a2.1 a2.2 v3 v4
 have le: ∀ y:Int,X u v * y<=X u v * 400->y<=400:=fun y z=>Int.le_of_mul_le_mul_left z hp
 have ge: ∀ y:Int,X u v * (-400)<=X u v * y-> -400<=y:=fun y z=>Int.le_of_mul_le_mul_left z hp
 exact ⟨⟨ge _ (by omega),le _ (by omega)⟩,ge _ (by omega),le _ (by omega)⟩
end
end CB
end
section
namespace CA
open PySem PySem.Spec L2 DL
end CA
end
section
namespace CA
open PySem PySem.Spec L2 DL
section
variable {Q:D->Sto->Prop} {E:Str->Sto->Prop} {M:Sto} {a b c d i:Int} {n m:Nat} {rs:List Pt}
end
end CA
end
section
namespace CY
open PySem PySem.Spec L2 DL CA
end CY
end
section
namespace CY
open PySem PySem.Spec L2 DL
section
variable {Q:D->Sto->Prop} {E:Str->Sto->Prop} {M:Sto} {n m:Nat} {rs:List Pt}
end
end CY
end
section
namespace CR
open PySem PySem.Spec L2 DL
noncomputable def Zbi:Sv:=(ZN (ZaT (ZdC "int" (Zg 0)) (Zg4 (ZdC "bool" (Zg 0)))))
noncomputable def F_is_whole:List D->Sto->Out D:=fnF Zbi 1 0
noncomputable def Za9:Sv:=(Ze3 2 3 (Zc (Zg 3) (Zc (e2 dMod (Zg 2) (Zg 3)) aNil)))
noncomputable def ZbD:Sv:=(ZD (Ze3 2 3 (Zc (Zk bAbs (Zc (Zg 0) aNil)) (Zc (Zk bAbs (Zc (Zg 1) aNil)) aNil)))
 (ZD (sWh (tv (e2 dNe (Zg 3) (eC (.int 0)))) Za9)
 (ZN (Zg 2))))
noncomputable def F_greatest_divisor:List D->Sto->Out D:=fnF ZbD 2 2
noncomputable def Zi0:Sv:=(ZD (sIf (Zb2 (Zaa (tv (Zk F_is_whole (Zc (Zg 0) aNil)))) (Zaa (tv (Zk F_is_whole (Zc (Zg 1) aNil))))) (ZbI (PySem.Str.ofString "NoRatio") (Zc (eC (.str (PySem.Str.ofString "a ratio is made of two whole numbers"))) aNil)) sNil)
 (ZD (sIf (tv (e2 dEq (Zg 1) (eC (.int 0)))) (ZbI (PySem.Str.ofString "NoRatio") (Zc (eC (.str (PySem.Str.ofString "the bottom of a ratio is not 0"))) aNil)) sNil)
 (ZD (Z4 (gNm 2) (Zk F_greatest_divisor (Zc (Zg 0) (Zc (Zg 1) aNil))))
 (ZD (sIf (tv (e2 dLt (Zg 1) (eC (.int 0)))) (Z4 (gNm 2) (ZgC (Zg 2))) sNil)
 (ZN (Zao (Zc (e2 dDiv (Zg 0) (Zg 2)) (Zc (e2 dDiv (Zg 1) (Zg 2)) aNil))))))))
noncomputable def F_ratio:List D->Sto->Out D:=fnF Zi0 2 1
noncomputable def Zk1:Sv:=(ZN (Zk F_ratio (Zc (e2 dAdd (e2 dMul (e2 dIx (Zg 0) (eC (.int 0))) (e2 dIx (Zg 1) (eC (.int 1)))) (e2 dMul (e2 dIx (Zg 1) (eC (.int 0))) (e2 dIx (Zg 0) (eC (.int 1))))) (Zc (e2 dMul (e2 dIx (Zg 0) (eC (.int 1))) (e2 dIx (Zg 1) (eC (.int 1)))) aNil))))
noncomputable def F_plus:List D->Sto->Out D:=fnF Zk1 2 0
noncomputable def Zi1:Sv:=(ZN (Zk F_ratio (Zc (e2 dMul (e2 dIx (Zg 0) (eC (.int 0))) (e2 dIx (Zg 1) (eC (.int 0)))) (Zc (e2 dMul (e2 dIx (Zg 0) (eC (.int 1))) (e2 dIx (Zg 1) (eC (.int 1)))) aNil))))
noncomputable def F_times:List D->Sto->Out D:=fnF Zi1 2 0
noncomputable def ZdU:Sv:=(ZN (ZaT (ZdC "int" (Zg 0)) (Zg4 (ZdC "bool" (Zg 0)))))
noncomputable def F_law_whole:List D->Sto->Out D:=fnF ZdU 1 0
end CR
end
section
namespace CR
open PySem PySem.Spec L2 DL
noncomputable abbrev rt (q:Rat):D:=pr q.num (q.den:Int)
theorem ZrM:F_greatest_divisor=FGcd:=rfl
section
variable {Q:D->Sto->Prop} {E:Str->Sto->Prop} {M:Sto} {k l:Nat} {p q:Rat}
end
end CR
end
section
namespace CH
open PySem PySem.Spec L2 DL CA CR
end CH
end
section
namespace CH
open PySem PySem.Spec L2 DL
open CR (rt)
section
variable {Q:D->Sto->Prop} {E:Str->Sto->Prop} {M:Sto} {n:Nat}
end
end CH
end
section
namespace CS
open PySem PySem.Spec L2 DL CC CR
noncomputable def Zdj:Sv:=(sIf (tv (e2 dNe (Zk bLen (Zc (Zg 1) aNil)) (Zk bLen (Zc (Zg 0) aNil)))) (ZbI (PySem.Str.ofString "NoHeight") (Zc (eFs (Zcq (eC (.str (PySem.Str.ofString "a height of "))) (Zcq (eFm (Zk bLen (Zc (Zg 0) aNil))) (Zcq (eC (.str (PySem.Str.ofString " rays has not "))) (Zcq (eFm (Zk bLen (Zc (Zg 1) aNil))) (Zcq (eC (.str (PySem.Str.ofString " ratios"))) jNil)))))) aNil)) sNil)
noncomputable def F_ask_height:List D->Sto->Out D:=fnF Zdj 2 0
end CS
end
section
namespace CS
open PySem PySem.Spec L2 DL
open CR (rt)
section
variable {Q:D->Sto->Prop} {E:Str->Sto->Prop} {M:Sto} {k l:Nat} {p q:Rat}
end
end CS
end
section
namespace CN
open PySem PySem.Spec L2 DL
open CE (F_numbers)
open CC (F_following)
open CR (F_plus F_times)
open CS (F_ask_height)
noncomputable def Zel:Sv:=(ZD (Z4 (gNm 6) (Zk F_plus (Zc (e2 dIx (Zg 1) (e2 dSub (Zg 4) (eC (.int 1)))) (Zc (Zk F_following (Zc (Zg 1) (Zc (Zg 4) aNil))) aNil))))
 (Zds (Zij mApp (Zg 3) (Zc (Zk F_plus (Zc (Zg 6) (Zc (Zk F_times (Zc (Zao (Zc (e2 dIx (Zg 2) (Zg 4)) (Zc (eC (.int 1)) aNil))) (Zc (Zg 5) aNil))) aNil))) aNil))))
noncomputable def Zi2:Sv:=(ZD (Z4 (gNm 2) (Zk F_numbers (Zc (Zg 0) aNil)))
 (ZD (Zds (Zk F_ask_height (Zc (Zg 0) (Zc (Zg 1) aNil))))
 (ZD (Z4 (gNm 3) (Zcn aNil))
 (ZD (Zdt (gTp (gCs (gNm 4) (gCs (gNm 5) gNl))) (iEn (Zc (Zg 1) aNil)) Zel)
 (ZN (Zg 3))))))
noncomputable def F_bends:List D->Sto->Out D:=fnF Zi2 2 5
end CN
end
section
namespace CN
open PySem PySem.Spec L2 DL
open CR (rt)
noncomputable def cq (hs:List Rat) (i:Int):Rat:=hs.getD (i % hs.length).toNat 0
section
variable {Q:D->Sto->Prop} {E:Str->Sto->Prop} {M:Sto} {k l:Nat} {p q:Rat} {n m:Nat} {rs:List Pt} {hs:List Rat} {i:Int}
end
end CN
end
section
namespace CN
open PySem PySem.Spec L2 DL
open CR (rt)
section
variable {Q:D->Sto->Prop} {E:Str->Sto->Prop} {M:Sto} {k l:Nat} {p q:Rat} {n m:Nat} {rs:List Pt} {hs:List Rat} {i:Int}
end
end CN
end
section
namespace CN
open PySem PySem.Spec L2 DL
open CR (rt)
noncomputable def sm (f:Int->Rat):Nat->Rat
 |0=>0
 |n + 1=>sm f n + f n
end CN
end
section
namespace CU
open PySem PySem.Spec L2 DL
open CC (F_ask_smooth)
open CS (F_ask_height)
end CU
end
section
namespace CU
open PySem PySem.Spec L2 DL
open CR (rt)
open CN CS
noncomputable def thr (rs:List Pt) (hs:List Rat):Rat × Rat:=(cq hs 0 * (cy rs 1).2 - cq hs 1 * (cy rs 0).2,cq hs 1 * (cy rs 0).1 - cq hs 0 * (cy rs 1).1)
noncomputable abbrev rp (m:Rat × Rat):D:= .tup [rt m.1,rt m.2]
section
variable {Q:D->Sto->Prop} {E:Str->Sto->Prop} {M:Sto} {k l:Nat} {p q:Rat} {n m o:Nat} {rs:List Pt} {hs xs ys:List Rat} {i:Int}
theorem ZrN {ds:List D} (h:M[n]?=some (.lst ds)):wO (bTup [.ref n] M) Q E=Q (.tup ds) M:=by
 unfold bTup ZpO
 simp only[Zer,h,wO]
end
end CU
end
section
namespace CV
open PySem PySem.Spec L2 DL
open CR (rt)
open CN CU CS
noncomputable def Kp (M M':Sto):Prop:=M.length<=M'.length/\ ∀ j < M.length,M'[j]?=M[j]?
section
variable {M M' M1 M2:Sto} {o:SO} {j:Nat}
theorem Kp.get (k:Kp M M') (h:M[j]?=some o):M'[j]?=some o:=(k.2 _ (Zag h)).trans h
theorem Kp.refl:Kp M M:=⟨Nat.le_refl _,fun _ _=>rfl⟩
theorem Kp.trans (a:Kp M M1) (b:Kp M1 M2):Kp M M2:=⟨Nat.le_trans a.1 b.1,fun j h=>(b.2 j (Nat.lt_of_lt_of_le h a.1)).trans (a.2 j h)⟩
theorem Kp.app {L:Sto}:Kp M (M ++ L):=⟨by simp,fun j h=>Zd6 h⟩
theorem Kp.set (a:Kp M M1) (h:M.length<=j):Kp M (M1.set j o):=⟨by rw[List.length_set];exact a.1,fun i hi=>by rw[List.getElem?_set_ne (by omega)];exact a.2 i hi⟩
end
section
variable {Q:D->Sto->Prop} {E:Str->Sto->Prop} {M:Sto} {k l:Nat} {p q:Rat} {n m o:Nat} {rs:List Pt} {hs xs ys zs u v:List Rat} {i:Int} {f:Ev} {ρ:Ro} {mu mv N:Nat}
end
end CV
end
section
namespace CW
open PySem PySem.Spec L2 DL
open CE (F_numbers F_taken_out)
end CW
end
section
namespace CW
open PySem PySem.Spec L2 DL
open CV
section
variable {Q:D->Sto->Prop} {E:Str->Sto->Prop} {M:Sto} {n m:Nat} {rs:List Pt}
end
end CW
end
section
namespace CB
open PySem PySem.Spec L2 DL
end CB
end
section
namespace CL
open PySem PySem.Spec L2 DL
open CC (F_following)
open CB (F_between)
end CL
end
section
namespace CL
open PySem PySem.Spec L2 DL
open CV CB
section
variable {Q:D->Sto->Prop} {E:Str->Sto->Prop} {M:Sto} {n:Nat}
end
end CL
end
section
namespace TW
open DL
noncomputable def nx (b:Int) (p q:Pt):Pt:=(0 - b * q.1 - p.1,0 - b * q.2 - p.2)
noncomputable def run (p q:Pt):List Int->Pt × Pt
 | []=>(p,q)
 |b :: bs=>run q (nx b p q) bs
noncomputable def ew (p q:Pt):Nat:=in1 (1,0) p q + in1 (-1,0) p q
noncomputable def st (a:Pt):Int:=if 0 < a.2\/(a.2=0/\a.1 < 0) then 1 else 0
end TW
end
section
namespace TW
open DL
section
variable {rs:List Pt}
noncomputable def Zt5 (rs:List Pt):Int->Nat->List Int
 |_,0=>[]
 |i,k + 1=>T rs (i + 1) :: Zt5 rs (i + 1) k
noncomputable def sf (f:Pt->Pt->Nat) (rs:List Pt):Int->Nat->Nat
 |_,0=>0
 |i,k + 1=>f (cy rs i) (cy rs (i + 1)) + sf f rs (i + 1) k
theorem ZrO {f:Pt->Pt->Nat} (hn:rs≠[]): ∀ (k i:Nat),i + k=rs.length->cc f ((rs ++ rs.take 1).drop i)=sf f rs i k:=by
 have l0:0 < rs.length:=List.length_pos_iff.mpr hn
 have ga: ∀ i:Nat,i<=rs.length->(rs ++ rs.take 1)[i]?=some (cy rs i):=by
  intro i hi
  by_cases c:i < rs.length
  ·rw[List.getElem?_append_left c,Zo6 (by omega),ZcO (by omega),List.getElem?_eq_getElem c]
   simp
  ·have:i=rs.length:=by omega
   subst this
   rw[List.getElem?_append_right (Nat.le_refl _),Nat.sub_self,<- Zoo,Int.sub_self,Zo6 (by omega),ZcO (by omega)]
   rw[List.getElem?_take_of_lt (by decide),List.getElem?_eq_getElem (by omega)]
   simp
 have lch:(rs ++ rs.take 1).length=rs.length + 1:=by simp;omega
 have dr: ∀ i:Nat,i<=rs.length->(rs ++ rs.take 1).drop i=cy rs i :: (rs ++ rs.take 1).drop (i + 1):=by
  intro i hi
  rw[List.drop_eq_getElem_cons (by omega)]
  have:=ga i hi
  rw[List.getElem?_eq_getElem (by omega)] at this
  rw[Option.some.inj this]
 intro k
 induction k with
 |zero=>
  intro i hi
  rw[dr i (by omega),List.drop_eq_nil_of_le (by omega)]
  rfl
 |succ k ih=>
  intro i hi
  have:=ih (i + 1) (by omega)
  rw[dr i (by omega)]
  rw[dr (i + 1) (by omega)] at this ⊢
  rw[cc,this,sf]
  rfl
theorem Zpf {f:Pt->Pt->Nat} (hn:rs≠[]):cyc f rs=sf f rs 0 rs.length:=by
 have:=ZrO (f:=f) hn rs.length 0 (by omega)
 exact this
end
end TW
end
section
end
section
namespace CT
open PySem PySem.Spec L2 DL
end CT
end
section
namespace CT
open PySem PySem.Spec L2 DL
open CV TW
noncomputable def Sm (L:List Int):Prop:= ∀ b∈L,-(1152921504606846976)<=b/\b<=1152921504606846976
section
variable {Q:D->Sto->Prop} {E:Str->Sto->Prop} {M:Sto} {n m:Nat} {L:List Int}
noncomputable def Zpg (L:List Int):Prop:= ∀ b∈L,-1000000<=b/\b<=1000000
theorem Zpg.sm (h:Zpg L):Sm L:=fun b hb=>by have:=h b hb;omega
noncomputable def Cl (L:List Int):Prop:=run (1,0) (0,1) L=((1,0),(0,1))
noncomputable instance (L:List Int):Decidable (Cl L):=by unfold Cl;infer_instance
end
end CT
end
section
namespace CT
open PySem PySem.Spec L2 DL
open CV
open TW (nx)
section
variable {Q:D->Sto->Prop} {E:Str->Sto->Prop} {M:Sto} {n m:Nat} {L:List Int}
end
end CT
end
section
namespace DL
open CB (Wg Bd)
section
variable {rs:List Pt} {k:Nat}
theorem Zkc {f:Pt->Pt->Nat} (hl:rs≠[]) (h:cyc f rs=0) (i:Int):f (cy rs i) (cy rs (i + 1))=0:=by
 have l0:rs.length≠0:=fun z=>hl (List.length_eq_zero_iff.mp z)
 refine Zmp (P:=fun a b=>f a b=0) l0 ?_ i
 intro i h0 h1
 rw[TW.Zpf hl] at h
 have: ∀ (k:Nat) (j:Int),TW.sf f rs j k=0-> ∀ m:Nat,m < k->f (cy rs (j + m)) (cy rs (j + m + 1))=0:=by
  intro k
  induction k with
  |zero=>intro j _ m hm;omega
  |succ k ih=>
   intro j h m hm
   rw[TW.sf] at h
   cases m with
   |zero=>
    rw[show j + ((0:Nat):Int)=j by omega]
    omega
   |succ m=>
    have:=ih (j + 1) (by omega) m (by omega)
    rw[show j + ((m + 1:Nat):Int)=j + 1 + m by omega]
    exact this
 have:=this rs.length 0 h i.toNat (by omega)
 rw[show (0:Int) + (i.toNat:Nat)=i by omega] at this
 exact this
noncomputable def nxp (a b:Pt):Nat:=if 0 < X a b then 0 else 1
theorem ZrP {a b:Pt} (h:nxp a b=0):0 < X a b:=by
 unfold nxp at h
 split at h
 ·assumption
 ·omega
structure Rn (rs:List Pt):Prop where
 len:3<=rs.length
 ps:cyc nxp rs=0
 gc: ∀ p∈rs,Int.gcd p.1 p.2=1
 fan:Fan rs
theorem Rn.ne (h:Rn rs):rs≠[]:=by
 intro z
 have:=h.len
 rw[z] at this
 simp at this
theorem Rn.pos (h:Rn rs) (i:Int):0 < X (cy rs i) (cy rs (i + 1)):=ZrP (Zkc h.ne h.ps i)
theorem ZrQ {a b:Pt} (h:X a b=1):Int.gcd a.1 a.2=1/\Int.gcd b.1 b.2=1:=by
 unfold X at h
 constructor
 ·have d1:((Int.gcd a.1 a.2:Nat):Int) ∣ a.1 * b.2 - a.2 * b.1:=Int.dvd_sub (Int.dvd_mul_of_dvd_left (Int.gcd_dvd_left _ _)) (Int.dvd_mul_of_dvd_left (Int.gcd_dvd_right _ _))
  rw[h] at d1
  exact Nat.eq_one_of_dvd_one (Int.natCast_dvd_natCast.mp d1)
 ·have d1:((Int.gcd b.1 b.2:Nat):Int) ∣ a.1 * b.2 - a.2 * b.1:=Int.dvd_sub (Int.dvd_mul_of_dvd_right (Int.gcd_dvd_right _ _)) (Int.dvd_mul_of_dvd_right (Int.gcd_dvd_left _ _))
  rw[h] at d1
  exact Nat.eq_one_of_dvd_one (Int.natCast_dvd_natCast.mp d1)
end
end DL
end
section
end
section
namespace DL
open TW
open CT (Cl)
section
variable {rs us:List Pt}
end
end DL
end
section
namespace CB
open DL
section
variable {u v w:Pt}
noncomputable def kl:List Pt->List Int
 |a :: b :: d :: r=>X a d :: kl (b :: d :: r)
 |_=>[]
theorem Xvv (p:Pt):X p p=0:=by unfold X;grind
theorem ZrR: ∀ (r:List Pt) (a b:Pt) (v:Pt),Ch (a :: b :: r)->Cv (a :: b :: r)->(b :: r).getLast (by simp)=v->0<=X b v/\X b v < X a v
 | [],a,b,v,h,_,e=>by
  have:b=v:=e
  subst this
  rw[Xvv,h.1]
  omega
 |c :: r,a,b,v,h,k,e=>by
  have ih:=ZrR r b c v h.2 k.2 (by rw[<- e];simp[List.getLast_cons])
  obtain ⟨m,m2,e1,e2⟩:=k.1
  have ex:X a v + X c v=m * X b v:=by unfold X;grind
  have:2 * X b v<=m * X b v:=Int.mul_le_mul_of_nonneg_right m2 (by omega)
  omega
theorem Zmt {t b k c:Int} (hb:0 < b) (h0:0<=c) (h1:c < b) (e:t + c=k * b): -((-t) / b)=k:=by
 have: -t=c + b * (-k):=by grind
 rw[this,Int.add_mul_ediv_left _ _ (by omega),Int.ediv_eq_zero_of_lt h0 h1]
 omega
theorem only: ∀ (ws:List Pt) (u v w:Pt),Ch (u :: (ws ++ [v]))->Cv (u :: (ws ++ [v]))->Fb u v w->ws=btw u w (hj (X u v) (X w v))/\kl (u :: (ws ++ [v]))=hj (X u v) (X w v)
 | [],u,v,w,h,k,f=>by
  have h1:X u v=1:=h.1
  have l:=f.lo
  have l2:=f.hi
  have w0:X w v=0:=by omega
  rw[w0]
  unfold hj
  rw[dif_neg (by decide)]
  exact ⟨rfl,rfl⟩
 |x :: ws,u,v,w,h,k,f=>by
  have hl:(x :: (ws ++ [v])).getLast (by simp)=v:=by simp[List.getLast_cons]
  have d:=ZrR (ws ++ [v]) u x v h k hl
  have fx:Fb u v x:=⟨h.1,d.1,d.2⟩
  have ew:=fx.uniq f
  subst ew
  obtain ⟨y,R,eR⟩: ∃ y R,ws ++ [v]=y :: R:=by
   cases ws with
   |nil=>exact ⟨v,[],rfl⟩
   |cons y R=>exact ⟨y,R ++ [v],rfl⟩
  have h':Ch (x :: y :: R):=by rw[<- eR];exact h.2
  have kk:Cv (u :: x :: y :: R):=by rw[<- eR];exact k
  have hl2:(y :: R).getLast (by simp)=v:=by
   have:(ws ++ [v]).getLast (by simp)=v:=by simp
   simpa [eR] using this
  have d2:=ZrR R x y v h' kk.2 hl2
  obtain ⟨m,m2,e1,e2⟩:=kk.1
  have ex:X u v + X y v=m * X x v:=by unfold X;grind
  have hc:=Zmt (by omega) d2.1 d2.2 ex
  have ey:(m * x.1 - u.1,m * x.2 - u.2)=y:=by apply Prod.ext<;>simp only<;>omega
  have m3:X u y=m:=by
   have:=h.1
   rw[<- ey]
   unfold X at *
   simp only
   grind
  have fy:Fb x v y:=⟨h'.1,d2.1,d2.2⟩
  have ih:=only ws x v y (by rw[eR];exact h') (by rw[eR];exact kk.2) fy
  have ej:hj (X u v) (X x v)=m :: hj (X x v) (X y v):=by
   rw[hj,dif_pos (by omega),hc]
   congr 2
   omega
  rw[ej]
  constructor
  ·rw[btw,ey,<- ih.1]
  ·show kl (u :: x :: (ws ++ [v]))=_
   rw[eR,kl,m3,<- eR,ih.2]
end
end CB
end
section
namespace CD
open PySem PySem.Spec L2 DL
open CC (F_ask_smooth)
end CD
end
section
namespace CD
open PySem PySem.Spec L2 DL
open CV
open CB (Bd)
open CR (rt)
section
variable {Q:D->Sto->Prop} {E:Str->Sto->Prop} {M:Sto} {n m p:Nat} {rs:List Pt} {a b c d:Int} {ρ:Ro} {k:Nat} {xs:List D} {tg:Tg} {f:Ev}
noncomputable abbrev tb (a b c d:Int):SO:= .lst [.int a,.int b,.int c,.int d]
end
end CD
end
section
namespace CD
open PySem PySem.Spec L2 DL
open CV
open CB (Bd)
open CR (rt)
noncomputable def sg {α:Type} (neg:Bool) (k:Nat) (L:List α):List α:=(if neg then L.reverse else L).drop k ++ (if neg then L.reverse else L).take k
section
variable {Q:D->Sto->Prop} {E:Str->Sto->Prop} {M:Sto} {n m p:Nat} {rs:List Pt} {a b c d:Int} {ρ:Ro} {k:Nat} {xs:List D} {tg:Tg} {f:Ev}
end
end CD
end
section
namespace CD
open PySem PySem.Spec L2 DL
open CV CN CU CS
open CR (rt)
section
variable {Q:D->Sto->Prop} {E:Str->Sto->Prop} {M:Sto} {n m k l:Nat} {rs:List Pt} {p q:Rat} {xs:List Rat} {ms:List (Rat × Rat)}
end
end CD
end
section
namespace DL
open TW
open CN (cq)
section
variable {rs:List Pt} {hs:List Rat}
end
end DL
end
section
namespace CO
open PySem PySem.Spec L2 DL
open CC (F_following)
open CN (F_bends)
end CO
end
section
namespace CO
open PySem PySem.Spec L2 DL
open CV CN CU CS CD
open CR (rt)
theorem ZsU {p q r:Pt} (h1:X p q=1) (h2:X q r=1):p.1 + r.1=X p r * q.1/\p.2 + r.2=X p r * q.2:=by
 unfold X at *
 constructor<;>grind
section
variable {Q:D->Sto->Prop} {E:Str->Sto->Prop} {M:Sto} {n m p:Nat} {rs us:List Pt} {hs:List Int}
theorem ZeE {f:D->D->Option Bool}: ∀ {xs:List D},(∀ x∈xs,f x x=some true)->eqL f xs xs=some true
 | [],_=>rfl
 |x :: xs,h=>by
  rw[eqL,h x (by simp),ZeE fun y hy=>h y (List.mem_cons_of_mem _ hy)]
  rfl
end
end CO
end
section
end
section
end
section
end
section
end
section
end
section
end
section
end
section
end
section
end
section
end
section
end
section
end
section
end
section
end
section
end
section
end
section
end
section
end
section
end
section
end
section
end
section
end
section
namespace K69
open CR (Zbi F_is_whole Za9 ZbD F_greatest_divisor Zi0 F_ratio Zk1 F_plus Zi1 F_times ZdU F_law_whole)
open CC (ZaR F_crossed ZbU F_following Za8 ZbV F_unspanned ZbC F_ask_smooth ZbW F_ask_place ZbX F_law_cell_at ZdO F_law_cross)
open CE (ZfE F_numbers ZdP F_taken_out)
open CS (Zdj F_ask_height)
open CN (Zel Zi2 F_bends)
open CB (Zb7 ZdQ F_partner ZbG F_first_behind ZbY Zc0 F_expanded Zmq F_row Zb8 ZdR F_between Zc1 Zgh F_shows)
open PySem PySem.Spec L2 DL
noncomputable def top (i:Nat):Stmt:=PySem.Challenge.pw_rayround_k69_papers_of_wedges.main.body.getD i (.Pass ⟨0,0,0,0⟩)
structure Txt (K:PySem.W.Frag) (mg:Str->Option Value):Prop where
 gl: ∀ c v,PySem.W.nsIn K mainGlobals c=some (some v)->mg c=some v
 b_isinstance:mg "isinstance"=none
 b_int:mg "int"=none
 b_bool:mg "bool"=none
 b_abs:mg "abs"=none
 b_tuple:mg "tuple"=none
 b_len:mg "len"=none
 b_list:mg "list"=none
 b_enumerate:mg "enumerate"=none
 b_range:mg "range"=none
 b_all:mg "all"=none
 b_sorted:mg "sorted"=none
 b_zip:mg "zip"=none
 b_sum:mg "sum"=none
 b_min:mg "min"=none
 b_max:mg "max"=none
 b_reversed:mg "reversed"=none
 ex_NotSmooth:Zf9 K "NotSmooth"=true
 ex_NoRatio:Zf9 K "NoRatio"=true
 ex_NoHeight:Zf9 K "NoHeight"=true
 ex_NoPlace:Zf9 K "NoPlace"=true
 ex_NoMinus:Zf9 K "NoMinus"=true
 ex_NoWedge:Zf9 K "NoWedge"=true
section
variable {P:Program} {w:World} {K:PySem.W.Frag} {mg:Str->Option Value} {base:Heap}
noncomputable abbrev Zbj:Stmt:=top 10
theorem Zgk:FnScope ["thing"] ["thing"] (Zh Zbj):=⟨rfl,rfl,rfl,by decide +kernel,rfl,by decide +kernel,by decide +kernel⟩
theorem Zgl {f:Addr} {fd:FuncData} (F:Fun K "is_whole" "is_whole" Zbj f fd) (T:Txt K mg):FnOk P w K mg base (CXE P w) 1 f fd ["thing"] (spD K F_is_whole):=
 ZM F Zgk rfl rfl fun cdv A outer s H E hr θ=>(Zj (Zm (ZaE (Z7 Zh9 T.b_isinstance T.b_int Zie (Zb 0)) (ZbB (Zky (Z7 Zet T.b_isinstance T.b_bool Zf7 (Zb 0)))))))
noncomputable abbrev ZR:Stmt:=top 11
theorem ZaB:FnScope ["one","other","high","low"] ["one","other"] (Zh ZR):=⟨rfl,rfl,rfl,by decide +kernel,rfl,by decide +kernel,by decide +kernel⟩
theorem ZcB {f:Addr} {fd:FuncData} (F:Fun K "greatest_divisor" "greatest_divisor" ZR f fd) (T:Txt K mg):FnOk P w K mg base (CXE P w) 101 f fd ["one","other"] (spD K F_greatest_divisor):=
 ZM F ZaB rfl rfl fun cdv A outer s H E hr θ=>(Zf (ZcJ 2 3 (Zz hr (by decide)) ZaB.nd (Za (Zn ZcF Zfi T.b_abs Zfm (Za (Zb 0) Zd)) (Za (Zn ZcF Zfi T.b_abs Zfm (Za (Zb 1) Zd)) Zd)))
  (Zf (ZdE θ.own (Zw (Zah hr.units) Zbp (Zb 3) Ze) (Zj (ZcJ 2 3 (Zz hr (by decide)) ZaB.nd (Za (Zb 3) (Za (Zbc (Zb 2) (Zb 3)) Zd)))))
  (Zj (Zm (Zb 2)))))
noncomputable abbrev ZbK:Stmt:=top 13
noncomputable def ZbL:Sv:=(ZN (ZaT (ZdC "tuple" (Zg 0)) (ZaT (e2 dEq (Zk bLen (Zc (Zg 0) aNil)) (eC (.int 2))) (ZaT (Zk F_is_whole (Zc (e2 dIx (Zg 0) (eC (.int 0))) aNil)) (Zk F_is_whole (Zc (e2 dIx (Zg 0) (eC (.int 1))) aNil))))))
noncomputable def F_is_pair:List D->Sto->Out D:=fnF ZbL 1 0
theorem Zhf:FnScope ["thing"] ["thing"] (Zh ZbK):=⟨rfl,rfl,rfl,by decide +kernel,rfl,by decide +kernel,by decide +kernel⟩
theorem Zhg {f:Addr} {fd:FuncData} (F:Fun K "is_pair" "is_pair" ZbK f fd) (T:Txt K mg) (C_is_whole:Cal P w K mg base "is_whole" 1 1 F_is_whole):FnOk P w K mg base (CXE P w) 2 f fd ["thing"] (spD K F_is_pair):=
 ZM F Zhf rfl rfl fun cdv A outer s H E hr θ=>(Zj (Zm (ZaE (Z7 ZaO T.b_isinstance T.b_tuple Zab (Zb 0)) (ZaE (ZaN (ZI hr.units) Z3 (Zn Zl ZL T.b_len PySem.boot_len (Za (Zb 0) Zd)) Ze) (ZaE (Zi C_is_whole θ (hr.mono (by decide)) (Za (Zq (Zb 0) Ze) Zd)) (ZbB (Zi C_is_whole θ (hr.mono (by decide)) (Za (Zq (Zb 0) Ze) Zd))))))))
noncomputable abbrev ZbM:Stmt:=top 14
theorem Zhh:FnScope ["one","other"] ["one","other"] (Zh ZbM):=⟨rfl,rfl,rfl,by decide +kernel,rfl,by decide +kernel,by decide +kernel⟩
theorem Zhi {f:Addr} {fd:FuncData} (F:Fun K "crossed" "crossed" ZbM f fd) (T:Txt K mg):FnOk P w K mg base (CXE P w) 1 f fd ["one","other"] (spD K F_crossed):=
 ZM F Zhh rfl rfl fun cdv A outer s H E hr θ=>(Zj (Zm (Zat (ZK (Zq (Zb 0) Ze) (Zq (Zb 1) Ze)) (ZK (Zq (Zb 0) Ze) (Zq (Zb 1) Ze)))))
noncomputable abbrev ZbN:Stmt:=top 15
noncomputable def Zi3:Sv:=(ZN (e2 dAdd (e2 dMul (e2 dIx (Zg 0) (eC (.int 0))) (e2 dIx (Zg 1) (eC (.int 0)))) (e2 dMul (e2 dIx (Zg 0) (eC (.int 1))) (e2 dIx (Zg 1) (eC (.int 1))))))
noncomputable def F_product:List D->Sto->Out D:=fnF Zi3 2 0
theorem Zhj:FnScope ["one","other"] ["one","other"] (Zh ZbN):=⟨rfl,rfl,rfl,by decide +kernel,rfl,by decide +kernel,by decide +kernel⟩
theorem Zhk {f:Addr} {fd:FuncData} (F:Fun K "product" "product" ZbN f fd) (T:Txt K mg):FnOk P w K mg base (CXE P w) 1 f fd ["one","other"] (spD K F_product):=
 ZM F Zhj rfl rfl fun cdv A outer s H E hr θ=>(Zj (Zm (ZC (ZK (Zq (Zb 0) Ze) (Zq (Zb 1) Ze)) (ZK (Zq (Zb 0) Ze) (Zq (Zb 1) Ze)))))
noncomputable abbrev Zcg:Stmt:=top 16
noncomputable def ZgS:Sv:=(ZN (Zk F_greatest_divisor (Zc (e2 dIx (Zg 0) (eC (.int 0))) (Zc (e2 dIx (Zg 0) (eC (.int 1))) aNil))))
noncomputable def F_common:List D->Sto->Out D:=fnF ZgS 1 0
theorem Zi4:FnScope ["pair"] ["pair"] (Zh Zcg):=⟨rfl,rfl,rfl,by decide +kernel,rfl,by decide +kernel,by decide +kernel⟩
theorem Zi5 {f:Addr} {fd:FuncData} (F:Fun K "common" "common" Zcg f fd) (T:Txt K mg) (C_greatest_divisor:Cal P w K mg base "greatest_divisor" 101 2 F_greatest_divisor):FnOk P w K mg base (CXE P w) 102 f fd ["pair"] (spD K F_common):=
 ZM F Zi4 rfl rfl fun cdv A outer s H E hr θ=>(Zj (Zm (Zi C_greatest_divisor θ (hr.mono (by decide)) (Za (Zq (Zb 0) Ze) (Za (Zq (Zb 0) Ze) Zd)))))
noncomputable abbrev Zch:Stmt:=top 17
noncomputable def ZgT:Sv:=(ZN (ZaT (Zk F_is_pair (Zc (Zg 0) aNil)) (e2 dEq (Zk F_common (Zc (Zg 0) aNil)) (eC (.int 1)))))
noncomputable def F_is_ray:List D->Sto->Out D:=fnF ZgT 1 0
theorem Zi6:FnScope ["thing"] ["thing"] (Zh Zch):=⟨rfl,rfl,rfl,by decide +kernel,rfl,by decide +kernel,by decide +kernel⟩
theorem Zi7 {f:Addr} {fd:FuncData} (F:Fun K "is_ray" "is_ray" Zch f fd) (T:Txt K mg) (C_is_pair:Cal P w K mg base "is_pair" 2 1 F_is_pair) (C_common:Cal P w K mg base "common" 102 1 F_common):FnOk P w K mg base (CXE P w) 103 f fd ["thing"] (spD K F_is_ray):=
 ZM F Zi6 rfl rfl fun cdv A outer s H E hr θ=>(Zj (Zm (ZaE (Zi C_is_pair θ (hr.mono (by decide)) (Za (Zb 0) Zd)) (ZbB (ZaN (ZI hr.units) Z3 (Zi C_common θ (hr.mono (by decide)) (Za (Zb 0) Zd)) Ze)))))
noncomputable abbrev ZbO:Stmt:=top 18
noncomputable def Zi8:Sv:=(ZN (e2 dEq (Zk bAbs (Zc (Zk F_crossed (Zc (Zg 0) (Zc (Zg 1) aNil))) aNil)) (eC (.int 1))))
noncomputable def F_spanned:List D->Sto->Out D:=fnF Zi8 2 0
theorem Zhl:FnScope ["one","other"] ["one","other"] (Zh ZbO):=⟨rfl,rfl,rfl,by decide +kernel,rfl,by decide +kernel,by decide +kernel⟩
theorem Zhm {f:Addr} {fd:FuncData} (F:Fun K "spanned" "spanned" ZbO f fd) (T:Txt K mg) (C_crossed:Cal P w K mg base "crossed" 1 2 F_crossed):FnOk P w K mg base (CXE P w) 2 f fd ["one","other"] (spD K F_spanned):=
 ZM F Zhl rfl rfl fun cdv A outer s H E hr θ=>(Zj (Zm (ZaN (ZI hr.units) Z3 (Zn ZcF Zfi T.b_abs Zfm (Za (Zi C_crossed θ (hr.mono (by decide)) (Za (Zb 0) (Za (Zb 1) Zd))) Zd)) Ze)))
noncomputable abbrev ZaG:Stmt:=top 19
noncomputable def ZfF:Sv:=(ZD (sIf (Zb2 (Zaa (tv (ZdC "tuple" (Zg 0)))) (tv (e2 dNe (Zk bLen (Zc (Zg 0) aNil)) (eC (.int 2))))) (ZN (eC (.bl false))) sNil)
 (ZN (ZaT (Zk F_is_pair (Zc (e2 dIx (Zg 0) (eC (.int 0))) aNil)) (ZaT (Zk F_is_pair (Zc (e2 dIx (Zg 0) (eC (.int 1))) aNil)) (Zk F_spanned (Zc (e2 dIx (Zg 0) (eC (.int 0))) (Zc (e2 dIx (Zg 0) (eC (.int 1))) aNil)))))))
noncomputable def F_is_turning:List D->Sto->Out D:=fnF ZfF 1 0
theorem ZeF:FnScope ["thing"] ["thing"] (Zh ZaG):=⟨rfl,rfl,rfl,by decide +kernel,rfl,by decide +kernel,by decide +kernel⟩
theorem ZeG {f:Addr} {fd:FuncData} (F:Fun K "is_turning" "is_turning" ZaG f fd) (T:Txt K mg) (C_is_pair:Cal P w K mg base "is_pair" 2 1 F_is_pair) (C_spanned:Cal P w K mg base "spanned" 2 2 F_spanned):FnOk P w K mg base (CXE P w) 3 f fd ["thing"] (spD K F_is_turning):=
 ZM F ZeF rfl rfl fun cdv A outer s H E hr θ=>(Zf (ZF (ZcH (ZaA (ZQ (ZG (Z7 ZaO T.b_isinstance T.b_tuple Zab (Zb 0)))) (ZaD (Zw (Zah hr.units) Zbp (Zn Zl ZL T.b_len PySem.boot_len (Za (Zb 0) Zd)) Ze)))) (Zj (Zm Zaz)) Zo)
  (Zj (Zm (ZaE (Zi C_is_pair θ (hr.mono (by decide)) (Za (Zq (Zb 0) Ze) Zd)) (ZaE (Zi C_is_pair θ (hr.mono (by decide)) (Za (Zq (Zb 0) Ze) Zd)) (ZbB (Zi C_spanned θ (hr.mono (by decide)) (Za (Zq (Zb 0) Ze) (Za (Zq (Zb 0) Ze) Zd)))))))))
noncomputable abbrev Zci:Stmt:=top 20
noncomputable def Zkd:Sv:=(ZD (Z4 (gTp (gCs (gTp (gCs (gNm 2) (gCs (gNm 3) gNl))) (gCs (gTp (gCs (gNm 4) (gCs (gNm 5) gNl))) gNl))) (Zg 0))
 (ZD (Z4 (gTp (gCs (gNm 6) (gCs (gNm 7) gNl))) (Zg 1))
 (ZN (Zao (Zc (e2 dAdd (e2 dMul (Zg 2) (Zg 6)) (e2 dMul (Zg 3) (Zg 7))) (Zc (e2 dAdd (e2 dMul (Zg 4) (Zg 6)) (e2 dMul (Zg 5) (Zg 7))) aNil))))))
noncomputable def F_turned:List D->Sto->Out D:=fnF Zkd 2 6
theorem Zbr:FnScope ["turning","pair","a","b","c","d","x","y"] ["turning","pair"] (Zh Zci):=⟨rfl,rfl,rfl,by decide +kernel,rfl,by decide +kernel,by decide +kernel⟩
theorem Zi9 {f:Addr} {fd:FuncData} (F:Fun K "turned" "turned" Zci f fd) (T:Txt K mg):FnOk P w K mg base (CXE P w) 101 f fd ["turning","pair"] (spD K F_turned):=
 ZM F Zbr rfl rfl fun cdv A outer s H E hr θ=>(Zf (Zeh (Zb 0) (Zav (Zz hr (by decide)) (Zv (Zav (Zz hr (by decide)) (Zv (Zp 2 Zbr.nd) (Zv (Zp 3 Zbr.nd) ZX)) (hlen:=(ZA (ZA (fun _ _ _ h=>ZY h))))) (Zv (Zav (Zz hr (by decide)) (Zv (Zp 4 Zbr.nd) (Zv (Zp 5 Zbr.nd) ZX)) (hlen:=(ZA (ZA (fun _ _ _ h=>ZY h))))) ZX)) (hlen:=(ZA (ZA (fun _ _ _ h=>ZY h))))))
  (Zf (Zeh (Zb 1) (Zav (Zz hr (by decide)) (Zv (Zp 6 Zbr.nd) (Zv (Zp 7 Zbr.nd) ZX)) (hlen:=(ZA (ZA (fun _ _ _ h=>ZY h))))))
  (Zj (Zm (Zx (Za (ZC (ZK (Zb 2) (Zb 6)) (ZK (Zb 3) (Zb 7))) (Za (ZC (ZK (Zb 4) (Zb 6)) (ZK (Zb 5) (Zb 7))) Zd)))))))
noncomputable abbrev ZaW:Stmt:=top 22
theorem ZfG:FnScope ["things","at"] ["things","at"] (Zh ZaW):=⟨rfl,rfl,rfl,by decide +kernel,rfl,by decide +kernel,by decide +kernel⟩
theorem ZfH {f:Addr} {fd:FuncData} (F:Fun K "following" "following" ZaW f fd) (T:Txt K mg):FnOk P w K mg base (CXE P w) 1 f fd ["things","at"] (spD K F_following):=
 ZM F ZfG rfl rfl fun cdv A outer s H E hr θ=>(Zj (Zm (Zq (Zb 0) (Zbc (ZC (Zb 1) Ze) (Zn Zl ZL T.b_len PySem.boot_len (Za (Zb 0) Zd))))))
noncomputable abbrev Z5:Stmt:=top 23
noncomputable def ZdV:Sv:=(ZN (Znk (e2 dEq (Zg 0) (Zao (Zc (eC (.int 1)) (Zc (eC (.int 0)) aNil)))) (ZaT (e2 dLt (e2 dIx (Zg 0) (eC (.int 1))) (eC (.int 0))) (e2 dLt (eC (.int 0)) (e2 dIx (Zg 1) (eC (.int 1)))))))
noncomputable def F_met_direction:List D->Sto->Out D:=fnF ZdV 2 0
theorem Zdu:FnScope ["ray","behind"] ["ray","behind"] (Zh Z5):=⟨rfl,rfl,rfl,by decide +kernel,rfl,by decide +kernel,by decide +kernel⟩
theorem Zdv {f:Addr} {fd:FuncData} (F:Fun K "met_direction" "met_direction" Z5 f fd) (T:Txt K mg):FnOk P w K mg base (CXE P w) 1 f fd ["ray","behind"] (spD K F_met_direction):=
 ZM F Zdu rfl rfl fun cdv A outer s H E hr θ=>(Zj (Zm (Zqg (ZaN (ZI hr.units) Z3 (Zb 0) (Zx (Za Ze (Za Ze Zd)))) (ZbB (ZnM Zdp Zdr Zdp Zdr ZnL (Zq (Zb 0) Ze) Ze (Zq (Zb 1) Ze))))))
noncomputable abbrev Zak:Stmt:=top 24
noncomputable def ZdW:Sv:=(sIf (Zaa (tv (Zk F_is_ray (Zc (Zg 2) aNil)))) sBad sNil)
noncomputable def ZdX:Sv:=(sIf (tv (e2 dLe (Zk F_crossed (Zc (Zg 2) (Zc (Zk F_following (Zc (Zg 0) (Zc (Zg 1) aNil))) aNil))) (eC (.int 0)))) sBad sNil)
noncomputable def ZfI:Sv:=(ZD (sIf (Zb2 (Zaa (tv (ZdC "list" (Zg 0)))) (tv (e2 dLt (Zk bLen (Zc (Zg 0) aNil)) (eC (.int 3))))) sBad sNil)
 (ZD (Zdt (gTp (gCs (gNm 1) (gCs (gNm 2) gNl))) (iEn (Zc (Zg 0) aNil)) ZdW)
 (ZD (Zdt (gTp (gCs (gNm 1) (gCs (gNm 2) gNl))) (iEn (Zc (Zg 0) aNil)) ZdX)
 (sIf (tv (e2 dGt (Zk bLen (Zc (ZaM (iEn (Zc (Zg 0) aNil)) 2 [0] (gTp (gCs (gNm 0) (gCs (gNm 1) gNl))) (tv (Zk F_met_direction (Zc (Zg 1) (Zc (Zk F_following (Zc (Zg 2) (Zc (Zg 0) aNil))) aNil)))) (Zg 0)) aNil)) (eC (.int 1)))) sBad sNil))))
noncomputable def F_look_round:List D->Sto->Out D:=fnF ZfI 1 2
theorem ZaS:FnScope ["thing","at","ray"] ["thing"] (Zh Zak):=⟨rfl,rfl,rfl,by decide +kernel,rfl,by decide +kernel,by decide +kernel⟩
theorem ZeH {f:Addr} {fd:FuncData} (F:Fun K "look_round" "look_round" Zak f fd) (T:Txt K mg) (C_is_ray:Cal P w K mg base "is_ray" 103 1 F_is_ray) (C_following:Cal P w K mg base "following" 1 2 F_following) (C_crossed:Cal P w K mg base "crossed" 1 2 F_crossed) (C_met_direction:Cal P w K mg base "met_direction" 1 2 F_met_direction):FnOk P w K mg base (CXE P w) 104 f fd ["thing"] (spD K F_look_round):=
 ZM F ZaS rfl rfl fun cdv A outer s H E hr θ=>(Zf (ZF (ZcH (ZaA (ZQ (ZG (Z7 Zay T.b_isinstance T.b_list Zaj (Zb 0)))) (ZaD (Zw Zdp Zdr (Zn Zl ZL T.b_len PySem.boot_len (Za (Zb 0) Zd)) Ze)))) (Zj Zcs) Zo)
  (Zf (Zb6 θ.own (ZdK (hr.hd (by decide)) T.b_enumerate (Za (Zb 0) Zd)) (Zav (Zz hr (by decide)) (Zv (Zp 1 ZaS.nd) (Zv (Zp 2 ZaS.nd) ZX)) (hlen:=(ZA (ZA (fun _ _ _ h=>ZY h))))) (Zj (ZF (ZQ (ZG (Zi C_is_ray θ (hr.mono (by decide)) (Za (Zb 2) Zd)))) (Zj Zcs) Zo)))
  (Zf (Zb6 θ.own (ZdK (hr.hd (by decide)) T.b_enumerate (Za (Zb 0) Zd)) (Zav (Zz hr (by decide)) (Zv (Zp 1 ZaS.nd) (Zv (Zp 2 ZaS.nd) ZX)) (hlen:=(ZA (ZA (fun _ _ _ h=>ZY h))))) (Zj (ZF (Zw ZhK Zh3 (Zi C_crossed θ (hr.mono (by decide)) (Za (Zb 2) (Za (Zi C_following θ (hr.mono (by decide)) (Za (Zb 0) (Za (Zb 1) Zd))) Zd))) Ze) (Zj Zcs) Zo)))
  (Zj (ZF (Zw Zlj Zlz (Zn Zl ZL T.b_len PySem.boot_len (Za (ZO (ZlE (XN:=["thing","at","ray"]) (dn:=(Zh Zak).names) (N:=["at","ray","thing"]) (k:=2) (fr:=[0]) rfl rfl rfl rfl (by decide +kernel)) (ZdK (hr.hd (by decide)) T.b_enumerate (Za (Zb 0) Zd)) (fun _ _ _ _=>(Zav (Zz hr (by decide)) (Zv (Zp 0 (show List.Nodup (["at","ray","thing"]:List Str) by decide +kernel)) (Zv (Zp 1 (show List.Nodup (["at","ray","thing"]:List Str) by decide +kernel)) ZX)) (hlen:=(ZA (ZA (fun _ _ _ h=>ZY h)))))) (fun _ _ _ _=>(Or.inr ⟨_,rfl,(ZG (Zi C_met_direction ZU (hr.mono (by decide)) (Za (Zb 1) (Za (Zi C_following ZU (hr.mono (by decide)) (Za (Zb 2) (Za (Zb 0) Zd))) Zd))))⟩)) (fun _ _ _ _=>(Zb 0))) Zd)) Ze) (Zj Zcs) Zo)))))
noncomputable abbrev Zbk:Stmt:=top 25
noncomputable def Zhn:Sv:=(ZD sBad
 (ZN (eC (.bl true))))
noncomputable def F_is_round:List D->Sto->Out D:=fnF Zhn 1 0
theorem Zgm:FnScope ["thing"] ["thing"] (Zh Zbk):=⟨rfl,rfl,rfl,by decide +kernel,rfl,by decide +kernel,by decide +kernel⟩
theorem Zgn {f:Addr} {fd:FuncData} (F:Fun K "is_round" "is_round" Zbk f fd) (T:Txt K mg):FnOk P w K mg base (CXE P w) 1 f fd ["thing"] (spD K F_is_round):=
 ZM F Zgm rfl rfl fun cdv A outer s H E hr θ=>(Zf Zcs
  (Zj (Zm Zaz)))
noncomputable abbrev ZaX:Stmt:=top 26
theorem Zb9:FnScope ["rays","at","ray"] ["rays"] (Zh ZaX):=⟨rfl,rfl,rfl,by decide +kernel,rfl,by decide +kernel,by decide +kernel⟩
theorem ZfJ {f:Addr} {fd:FuncData} (F:Fun K "unspanned" "unspanned" ZaX f fd) (T:Txt K mg) (C_following:Cal P w K mg base "following" 1 2 F_following) (C_crossed:Cal P w K mg base "crossed" 1 2 F_crossed):FnOk P w K mg base (CXE P w) 101 f fd ["rays"] (spD K F_unspanned):=
 ZM F Zb9 rfl rfl fun cdv A outer s H E hr θ=>(Zf (Zb6 θ.own (ZdK (hr.hd (by decide)) T.b_enumerate (Za (Zb 0) Zd)) (Zav (Zz hr (by decide)) (Zv (Zp 1 Zb9.nd) (Zv (Zp 2 Zb9.nd) ZX)) (hlen:=(ZA (ZA (fun _ _ _ h=>ZY h))))) (Zj (ZF (Zw (Zah hr.units) Zbp (Zi C_crossed θ (hr.mono (by decide)) (Za (Zb 2) (Za (Zi C_following θ (hr.mono (by decide)) (Za (Zb 0) (Za (Zb 1) Zd))) Zd))) Ze) (Zj (Zm (Zb 1))) Zo)))
  (Zj (Zm Zh2)))
noncomputable abbrev ZaH:Stmt:=top 27
theorem ZcP:FnScope ["rays","at"] ["rays"] (Zh ZaH):=⟨rfl,rfl,rfl,by decide +kernel,rfl,by decide +kernel,by decide +kernel⟩
theorem ZeI {f:Addr} {fd:FuncData} (F:Fun K "ask_smooth" "ask_smooth" ZaH f fd) (T:Txt K mg) (C_unspanned:Cal P w K mg base "unspanned" 101 1 F_unspanned):FnOk P w K mg base (CXE P w) 102 f fd ["rays"] (spD K F_ask_smooth):=
 ZM F ZcP rfl rfl fun cdv A outer s H E hr θ=>(Zf (Zy 1 ZcP.nd (Zi C_unspanned θ (hr.mono (by decide)) (Za (Zb 0) Zd)))
  (Zj (ZF (Zw Zh7 ZjH (Zb 1) Zh2) (Zj (ZbT θ T.ex_NotSmooth T.gl (hr.hd (by decide)) (Za (ZlN (ZbF Zbb (ZbF (ZjQ (Zb 1)) (ZbF Zbb Zit)))) Zd))) Zo)))
noncomputable abbrev Zbs:Stmt:=top 29
theorem Zho:FnScope ["rays"] ["rays"] (Zh Zbs):=⟨rfl,rfl,rfl,by decide +kernel,rfl,by decide +kernel,by decide +kernel⟩
theorem Zhp {f:Addr} {fd:FuncData} (F:Fun K "numbers" "numbers" Zbs f fd) (T:Txt K mg) (C_ask_smooth:Cal P w K mg base "ask_smooth" 102 1 F_ask_smooth) (C_following:Cal P w K mg base "following" 1 2 F_following) (C_crossed:Cal P w K mg base "crossed" 1 2 F_crossed):FnOk P w K mg base (CXE P w) 103 f fd ["rays"] (spD K F_numbers):=
 ZM F Zho rfl rfl fun cdv A outer s H E hr θ=>(Zf (Zb3 (Zi C_ask_smooth θ (hr.mono (by decide)) (Za (Zb 0) Zd)))
  (Zj (Zm (ZO (ZlE (XN:=["rays"]) (dn:=(Zh Zbs).names) (N:=["at","rays"]) (k:=1) (fr:=[0]) rfl rfl rfl rfl (by decide +kernel)) (Zig T.b_range (Za (Zn Zl ZL T.b_len PySem.boot_len (Za (Zb 0) Zd)) Zd)) (fun _ _ _ _=>(Zp 0 (show List.Nodup (["at","rays"]:List Str) by decide +kernel))) (fun _ _ _ _=>(Or.inl ⟨rfl,rfl⟩)) (fun _ _ _ _=>(Zi C_crossed ZU (hr.mono (by decide)) (Za (Zi C_following ZU (hr.mono (by decide)) (Za (Zb 1) (Za (Zb 0) Zd))) (Za (Zq (Zb 1) (Zat (Zb 0) Ze)) Zd))))))))
noncomputable abbrev Zc2:Stmt:=top 31
theorem ZeJ:FnScope ["top","bottom","part"] ["top","bottom"] (Zh Zc2):=⟨rfl,rfl,rfl,by decide +kernel,rfl,by decide +kernel,by decide +kernel⟩
theorem Zke {f:Addr} {fd:FuncData} (F:Fun K "ratio" "ratio" Zc2 f fd) (T:Txt K mg) (C_is_whole:Cal P w K mg base "is_whole" 1 1 F_is_whole) (C_greatest_divisor:Cal P w K mg base "greatest_divisor" 101 2 F_greatest_divisor):FnOk P w K mg base (CXE P w) 102 f fd ["top","bottom"] (spD K F_ratio):=
 ZM F ZeJ rfl rfl fun cdv A outer s H E hr θ=>(Zf (ZF (ZcH (ZaA (ZQ (ZG (Zi C_is_whole θ (hr.mono (by decide)) (Za (Zb 0) Zd)))) (ZaD (ZQ (ZG (Zi C_is_whole θ (hr.mono (by decide)) (Za (Zb 1) Zd))))))) (Zj (ZbT θ T.ex_NoRatio T.gl (hr.hd (by decide)) (Za Zbb Zd))) Zo)
  (Zf (ZF (Zw (ZI hr.units) Z3 (Zb 1) Ze) (Zj (ZbT θ T.ex_NoRatio T.gl (hr.hd (by decide)) (Za Zbb Zd))) Zo)
  (Zf (Zy 2 ZeJ.nd (Zi C_greatest_divisor θ (hr.mono (by decide)) (Za (Zb 0) (Za (Zb 1) Zd))))
  (Zf (ZF (Zw Zdp Zdr (Zb 1) Ze) (Zj (Zy 2 ZeJ.nd (Zcr (Zb 2)))) Zo)
  (Zj (Zm (Zx (Za (Zbo (Zb 0) (Zb 2)) (Za (Zbo (Zb 1) (Zb 2)) Zd)))))))))
noncomputable abbrev Zem:Stmt:=top 32
theorem Zmu:FnScope ["one","other"] ["one","other"] (Zh Zem):=⟨rfl,rfl,rfl,by decide +kernel,rfl,by decide +kernel,by decide +kernel⟩
theorem Zmv {f:Addr} {fd:FuncData} (F:Fun K "plus" "plus" Zem f fd) (T:Txt K mg) (C_ratio:Cal P w K mg base "ratio" 102 2 F_ratio):FnOk P w K mg base (CXE P w) 103 f fd ["one","other"] (spD K F_plus):=
 ZM F Zmu rfl rfl fun cdv A outer s H E hr θ=>(Zj (Zm (Zi C_ratio θ (hr.mono (by decide)) (Za (ZC (ZK (Zq (Zb 0) Ze) (Zq (Zb 1) Ze)) (ZK (Zq (Zb 1) Ze) (Zq (Zb 0) Ze))) (Za (ZK (Zq (Zb 0) Ze) (Zq (Zb 1) Ze)) Zd)))))
noncomputable abbrev Zc3:Stmt:=top 33
theorem Zkf:FnScope ["one","other"] ["one","other"] (Zh Zc3):=⟨rfl,rfl,rfl,by decide +kernel,rfl,by decide +kernel,by decide +kernel⟩
theorem Zkg {f:Addr} {fd:FuncData} (F:Fun K "times" "times" Zc3 f fd) (T:Txt K mg) (C_ratio:Cal P w K mg base "ratio" 102 2 F_ratio):FnOk P w K mg base (CXE P w) 103 f fd ["one","other"] (spD K F_times):=
 ZM F Zkf rfl rfl fun cdv A outer s H E hr θ=>(Zj (Zm (Zi C_ratio θ (hr.mono (by decide)) (Za (ZK (Zq (Zb 0) Ze) (Zq (Zb 1) Ze)) (Za (ZK (Zq (Zb 0) Ze) (Zq (Zb 1) Ze)) Zd)))))
noncomputable abbrev Zen:Stmt:=top 34
noncomputable def Zph:Sv:=(ZN (e2 dLt (e2 dMul (e2 dIx (Zg 0) (eC (.int 0))) (e2 dIx (Zg 1) (eC (.int 1)))) (e2 dMul (e2 dIx (Zg 1) (eC (.int 0))) (e2 dIx (Zg 0) (eC (.int 1))))))
noncomputable def F_less:List D->Sto->Out D:=fnF Zph 2 0
theorem Zmw:FnScope ["one","other"] ["one","other"] (Zh Zen):=⟨rfl,rfl,rfl,by decide +kernel,rfl,by decide +kernel,by decide +kernel⟩
theorem Zmx {f:Addr} {fd:FuncData} (F:Fun K "less" "less" Zen f fd) (T:Txt K mg):FnOk P w K mg base (CXE P w) 1 f fd ["one","other"] (spD K F_less):=
 ZM F Zmw rfl rfl fun cdv A outer s H E hr θ=>(Zj (Zm (ZaN Zdp Zdr (ZK (Zq (Zb 0) Ze) (Zq (Zb 1) Ze)) (ZK (Zq (Zb 1) Ze) (Zq (Zb 0) Ze)))))
noncomputable abbrev Zbl:Stmt:=top 35
noncomputable def Zhq:Sv:=(ZD (sIf (Zb2 (Zaa (tv (ZdC "tuple" (Zg 0)))) (Zb2 (tv (e2 dNe (Zk bLen (Zc (Zg 0) aNil)) (eC (.int 2)))) (Zb2 (Zaa (tv (Zk F_is_whole (Zc (e2 dIx (Zg 0) (eC (.int 0))) aNil)))) (Zaa (tv (Zk F_is_whole (Zc (e2 dIx (Zg 0) (eC (.int 1))) aNil))))))) (ZN (eC (.bl false))) sNil)
 (ZN (ZaT (e2 dGe (e2 dIx (Zg 0) (eC (.int 1))) (eC (.int 1))) (e2 dEq (Zk F_greatest_divisor (Zc (e2 dIx (Zg 0) (eC (.int 0))) (Zc (e2 dIx (Zg 0) (eC (.int 1))) aNil))) (eC (.int 1))))))
noncomputable def F_is_ratio:List D->Sto->Out D:=fnF Zhq 1 0
theorem Zgo:FnScope ["thing"] ["thing"] (Zh Zbl):=⟨rfl,rfl,rfl,by decide +kernel,rfl,by decide +kernel,by decide +kernel⟩
theorem Zgp {f:Addr} {fd:FuncData} (F:Fun K "is_ratio" "is_ratio" Zbl f fd) (T:Txt K mg) (C_is_whole:Cal P w K mg base "is_whole" 1 1 F_is_whole) (C_greatest_divisor:Cal P w K mg base "greatest_divisor" 101 2 F_greatest_divisor):FnOk P w K mg base (CXE P w) 102 f fd ["thing"] (spD K F_is_ratio):=
 ZM F Zgo rfl rfl fun cdv A outer s H E hr θ=>(Zf (ZF (ZcH (ZaA (ZQ (ZG (Z7 ZaO T.b_isinstance T.b_tuple Zab (Zb 0)))) (ZaA (Zw (Zah hr.units) Zbp (Zn Zl ZL T.b_len PySem.boot_len (Za (Zb 0) Zd)) Ze) (ZaA (ZQ (ZG (Zi C_is_whole θ (hr.mono (by decide)) (Za (Zq (Zb 0) Ze) Zd)))) (ZaD (ZQ (ZG (Zi C_is_whole θ (hr.mono (by decide)) (Za (Zq (Zb 0) Ze) Zd))))))))) (Zj (Zm Zaz)) Zo)
  (Zj (Zm (ZaE (ZaN Zjt ZjF (Zq (Zb 0) Ze) Ze) (ZbB (ZaN (ZI hr.units) Z3 (Zi C_greatest_divisor θ (hr.mono (by decide)) (Za (Zq (Zb 0) Ze) (Za (Zq (Zb 0) Ze) Zd))) Ze))))))
noncomputable abbrev ZaI:Stmt:=top 37
theorem ZeK:FnScope ["rays","height"] ["rays","height"] (Zh ZaI):=⟨rfl,rfl,rfl,by decide +kernel,rfl,by decide +kernel,by decide +kernel⟩
theorem ZeL {f:Addr} {fd:FuncData} (F:Fun K "ask_height" "ask_height" ZaI f fd) (T:Txt K mg):FnOk P w K mg base (CXE P w) 101 f fd ["rays","height"] (spD K F_ask_height):=
 ZM F ZeK rfl rfl fun cdv A outer s H E hr θ=>(Zj (ZF (Zw (Zah hr.units) Zbp (Zn Zl ZL T.b_len PySem.boot_len (Za (Zb 1) Zd)) (Zn Zl ZL T.b_len PySem.boot_len (Za (Zb 0) Zd))) (Zj (ZbT θ T.ex_NoHeight T.gl (hr.hd (by decide)) (Za (ZlN (ZbF Zbb (ZbF (ZjQ (Zn Zl ZL T.b_len PySem.boot_len (Za (Zb 0) Zd))) (ZbF Zbb (ZbF (ZjQ (Zn Zl ZL T.b_len PySem.boot_len (Za (Zb 1) Zd))) (ZbF Zbb Zit)))))) Zd))) Zo))
noncomputable abbrev Zc4:Stmt:=top 38
theorem Zcj:FnScope ["rays","height","row","told","at","own","beside"] ["rays","height"] (Zh Zc4):=⟨rfl,rfl,rfl,by decide +kernel,rfl,by decide +kernel,by decide +kernel⟩
theorem Zkh {f:Addr} {fd:FuncData} (F:Fun K "bends" "bends" Zc4 f fd) (T:Txt K mg) (C_numbers:Cal P w K mg base "numbers" 103 1 F_numbers) (C_ask_height:Cal P w K mg base "ask_height" 101 2 F_ask_height) (C_following:Cal P w K mg base "following" 1 2 F_following) (C_plus:Cal P w K mg base "plus" 103 2 F_plus) (C_times:Cal P w K mg base "times" 103 2 F_times):FnOk P w K mg base (CXE P w) 104 f fd ["rays","height"] (spD K F_bends):=
 ZM F Zcj rfl rfl fun cdv A outer s H E hr θ=>(Zf (Zy 2 Zcj.nd (Zi C_numbers θ (hr.mono (by decide)) (Za (Zb 0) Zd)))
  (Zf (Zb3 (Zi C_ask_height θ (hr.mono (by decide)) (Za (Zb 0) (Za (Zb 1) Zd))))
  (Zf (Zy 3 Zcj.nd (Z2 Zd))
  (Zf (Zb6 θ.own (ZdK (hr.hd (by decide)) T.b_enumerate (Za (Zb 1) Zd)) (Zav (Zz hr (by decide)) (Zv (Zp 4 Zcj.nd) (Zv (Zp 5 Zcj.nd) ZX)) (hlen:=(ZA (ZA (fun _ _ _ h=>ZY h))))) (Zf (Zy 6 Zcj.nd (Zi C_plus θ (hr.mono (by decide)) (Za (Zq (Zb 1) (Zat (Zb 4) Ze)) (Za (Zi C_following θ (hr.mono (by decide)) (Za (Zb 1) (Za (Zb 4) Zd))) Zd))))
  (Zj (Zb3 (Zb5 (Zb 3) (Zi C_plus θ (hr.mono (by decide)) (Za (Zb 6) (Za (Zi C_times θ (hr.mono (by decide)) (Za (Zx (Za (Zq (Zb 2) (Zb 4)) (Za Ze Zd))) (Za (Zb 5) Zd))) Zd))))))))
  (Zj (Zm (Zb 3)))))))
noncomputable abbrev ZaY:Stmt:=top 40
theorem ZfK:FnScope ["rays","at"] ["rays","at"] (Zh ZaY):=⟨rfl,rfl,rfl,by decide +kernel,rfl,by decide +kernel,by decide +kernel⟩
theorem ZfL {f:Addr} {fd:FuncData} (F:Fun K "ask_place" "ask_place" ZaY f fd) (T:Txt K mg):FnOk P w K mg base (CXE P w) 101 f fd ["rays","at"] (spD K F_ask_place):=
 ZM F ZfK rfl rfl fun cdv A outer s H E hr θ=>(Zj (ZF (ZcH (ZaA (Zw Zdp Zdr (Zb 1) Ze) (ZaD (Zw Zjt ZjF (Zb 1) (Zn Zl ZL T.b_len PySem.boot_len (Za (Zb 0) Zd)))))) (Zj (ZbT θ T.ex_NoPlace T.gl (hr.hd (by decide)) (Za (ZlN (ZbF Zbb (ZbF (ZjQ (Zat (Zn Zl ZL T.b_len PySem.boot_len (Za (Zb 0) Zd)) Ze)) Zit))) Zd))) Zo))
noncomputable abbrev ZaZ:Stmt:=top 41
theorem Zdk:FnScope ["rays","at","row"] ["rays","at"] (Zh ZaZ):=⟨rfl,rfl,rfl,by decide +kernel,rfl,by decide +kernel,by decide +kernel⟩
theorem ZfM {f:Addr} {fd:FuncData} (F:Fun K "taken_out" "taken_out" ZaZ f fd) (T:Txt K mg) (C_numbers:Cal P w K mg base "numbers" 103 1 F_numbers) (C_ask_place:Cal P w K mg base "ask_place" 101 2 F_ask_place):FnOk P w K mg base (CXE P w) 104 f fd ["rays","at"] (spD K F_taken_out):=
 ZM F Zdk rfl rfl fun cdv A outer s H E hr θ=>(Zf (Zy 2 Zdk.nd (Zi C_numbers θ (hr.mono (by decide)) (Za (Zb 0) Zd)))
  (Zf (Zb3 (Zi C_ask_place θ (hr.mono (by decide)) (Za (Zb 0) (Za (Zb 1) Zd))))
  (Zf (ZF (ZcH (ZaA (Zw (Zah hr.units) Zbp (Zq (Zb 2) (Zb 1)) (Zcr Ze)) (ZaD (Zw Zdp Zdr (Zn Zl ZL T.b_len PySem.boot_len (Za (Zb 0) Zd)) Ze)))) (Zj (ZbT θ T.ex_NoMinus T.gl (hr.hd (by decide)) (Za Zbb Zd))) Zo)
  (Zj (Zm (ZC (Zby (Zb 0) Zbw (Zbx (Zb 1))) (Zby (Zb 0) (Zbx (ZC (Zb 1) Ze)) Zbw)))))))
noncomputable abbrev Za0:Stmt:=top 43
noncomputable def Zgq:Sv:=(ZN (ZaT (Zk F_is_round (Zc (Zg 0) aNil)) (e2 dIs (Zk F_unspanned (Zc (Zg 0) aNil)) (eC .non))))
noncomputable def F_is_smooth:List D->Sto->Out D:=fnF Zgq 1 0
theorem ZfN:FnScope ["thing"] ["thing"] (Zh Za0):=⟨rfl,rfl,rfl,by decide +kernel,rfl,by decide +kernel,by decide +kernel⟩
theorem ZfO {f:Addr} {fd:FuncData} (F:Fun K "is_smooth" "is_smooth" Za0 f fd) (T:Txt K mg) (C_is_round:Cal P w K mg base "is_round" 1 1 F_is_round) (C_unspanned:Cal P w K mg base "unspanned" 101 1 F_unspanned):FnOk P w K mg base (CXE P w) 102 f fd ["thing"] (spD K F_is_smooth):=
 ZM F ZfN rfl rfl fun cdv A outer s H E hr θ=>(Zj (Zm (ZaE (Zi C_is_round θ (hr.mono (by decide)) (Za (Zb 0) Zd)) (ZbB (ZaN Zns Zqi (Zi C_unspanned θ (hr.mono (by decide)) (Za (Zb 0) Zd)) Zh2)))))
noncomputable abbrev Za1:Stmt:=top 44
noncomputable def Zgr:Sv:=(ZN (ZaT (ZdC "list" (Zg 0)) (ZaT (e2 dEq (Zk bLen (Zc (Zg 0) aNil)) (Zk bLen (Zc (Zg 1) aNil))) (Zk bAll (Zc (ZaM (iSq (Zg 0)) 1 [] (gNm 0) (fun _ M=> .ok true M) (Zk F_is_ratio (Zc (Zg 0) aNil))) aNil)))))
noncomputable def F_is_height:List D->Sto->Out D:=fnF Zgr 2 0
theorem ZfP:FnScope ["thing","rays"] ["thing","rays"] (Zh Za1):=⟨rfl,rfl,rfl,by decide +kernel,rfl,by decide +kernel,by decide +kernel⟩
theorem ZfQ {f:Addr} {fd:FuncData} (F:Fun K "is_height" "is_height" Za1 f fd) (T:Txt K mg) (C_is_ratio:Cal P w K mg base "is_ratio" 102 1 F_is_ratio):FnOk P w K mg base (CXE P w) 103 f fd ["thing","rays"] (spD K F_is_height):=
 ZM F ZfP rfl rfl fun cdv A outer s H E hr θ=>(Zj (Zm (ZaE (Z7 Zay T.b_isinstance T.b_list Zaj (Zb 0)) (ZaE (ZaN (ZI hr.units) Z3 (Zn Zl ZL T.b_len PySem.boot_len (Za (Zb 0) Zd)) (Zn Zl ZL T.b_len PySem.boot_len (Za (Zb 1) Zd))) (ZbB (Zn (Zbe (Zz hr (by decide))) ZcN T.b_all ZcL (Za (ZO (Zei (N:=["own"]) (k:=1) (by decide +kernel) rfl (by decide +kernel) rfl) (ZaF (Zb 0)) (fun _ _ _ _=>(Zp 0 (show List.Nodup (["own"]:List Str) by decide +kernel))) (fun _ _ _ _=>(Or.inl ⟨rfl,rfl⟩)) (fun _ _ _ _=>(Zi C_is_ratio ZU (hr.mono (by decide)) (Za (Zb 0) Zd)))) Zd)))))))
noncomputable abbrev Zap:Stmt:=top 45
noncomputable def Zdw:Sv:=(ZD (sIf (Zaa (tv (Zk F_is_whole (Zc (Zg 4) aNil)))) (ZN (eC (.bl false))) sNil)
 sBad)
noncomputable def ZeM:Sv:=(ZD (sIf (Zb2 (Zaa (tv (Zk F_is_smooth (Zc (Zg 0) aNil)))) (Zb2 (Zaa (tv (ZdC "list" (Zg 1)))) (Zaa (tv (Zk F_is_round (Zc (Zg 2) aNil)))))) (ZN (eC (.bl false))) sNil)
 (ZD (Z4 (gNm 3) (Zg 0))
 (ZD (Zny (gNm 4) (Zg 1) Zdw)
 (ZN (ZaT (e2 dEq (Zg 3) (Zg 2)) (e2 dLe (Zk bLen (Zc (Zg 2) aNil)) (eC (.int 4))))))))
noncomputable def F_walk_stands:List D->Sto->Out D:=fnF ZeM 3 2
theorem ZbH:FnScope ["rays","places","last","left","at"] ["rays","places","last"] (Zh Zap):=⟨rfl,rfl,rfl,by decide +kernel,rfl,by decide +kernel,by decide +kernel⟩
theorem Zd7 {f:Addr} {fd:FuncData} (F:Fun K "walk_stands" "walk_stands" Zap f fd) (T:Txt K mg) (C_is_smooth:Cal P w K mg base "is_smooth" 102 1 F_is_smooth) (C_is_round:Cal P w K mg base "is_round" 1 1 F_is_round) (C_is_whole:Cal P w K mg base "is_whole" 1 1 F_is_whole):FnOk P w K mg base (CXE P w) 103 f fd ["rays","places","last"] (spD K F_walk_stands):=
 ZM F ZbH rfl rfl fun cdv A outer s H E hr θ=>(Zf (ZF (ZcH (ZaA (ZQ (ZG (Zi C_is_smooth θ (hr.mono (by decide)) (Za (Zb 0) Zd)))) (ZaA (ZQ (ZG (Z7 Zay T.b_isinstance T.b_list Zaj (Zb 1)))) (ZaD (ZQ (ZG (Zi C_is_round θ (hr.mono (by decide)) (Za (Zb 2) Zd)))))))) (Zj (Zm Zaz)) Zo)
  (Zf (Zy 3 ZbH.nd (Zb 0))
  (Zf (ZkF θ.own (Zb 1) (Zp 4 ZbH.nd) (Zf (ZF (ZQ (ZG (Zi C_is_whole θ (hr.mono (by decide)) (Za (Zb 4) Zd)))) (Zj (Zm Zaz)) Zo)
  (Zj Zcs)))
  (Zj (Zm (ZaE (ZaN (ZI hr.units) Z3 (Zb 3) (Zb 2)) (ZbB (ZaN ZhK Zh3 (Zn Zl ZL T.b_len PySem.boot_len (Za (Zb 2) Zd)) Ze))))))))
noncomputable abbrev ZS:Stmt:=top 46
noncomputable def Zdx:Sv:=(ZD (sIf (Zb2 (Zaa (tv (Zk F_is_round (Zc (Zg 0) aNil)))) (Zb2 (Zaa (tv (Zk F_is_round (Zc (Zg 1) aNil)))) (Zaa (tv (Zk F_is_turning (Zc (Zg 2) aNil)))))) (ZN (eC (.bl false))) sNil)
 (ZN (e2 dEq (Zk bSrt (Zc (ZaM (iSq (Zg 0)) 1 [2] (gNm 0) (fun _ M=> .ok true M) (Zk F_turned (Zc (Zg 1) (Zc (Zg 0) aNil)))) aNil)) (Zk bSrt (Zc (Zg 1) aNil)))))
noncomputable def F_turning_stands:List D->Sto->Out D:=fnF Zdx 3 0
theorem Zc5:FnScope ["one","other","turning"] ["one","other","turning"] (Zh ZS):=⟨rfl,rfl,rfl,by decide +kernel,rfl,by decide +kernel,by decide +kernel⟩
theorem Zc6 {f:Addr} {fd:FuncData} (F:Fun K "turning_stands" "turning_stands" ZS f fd) (T:Txt K mg) (C_is_round:Cal P w K mg base "is_round" 1 1 F_is_round) (C_is_turning:Cal P w K mg base "is_turning" 3 1 F_is_turning) (C_turned:Cal P w K mg base "turned" 101 2 F_turned):FnOk P w K mg base (CXE P w) 102 f fd ["one","other","turning"] (spD K F_turning_stands):=
 ZM F Zc5 rfl rfl fun cdv A outer s H E hr θ=>(Zf (ZF (ZcH (ZaA (ZQ (ZG (Zi C_is_round θ (hr.mono (by decide)) (Za (Zb 0) Zd)))) (ZaA (ZQ (ZG (Zi C_is_round θ (hr.mono (by decide)) (Za (Zb 1) Zd)))) (ZaD (ZQ (ZG (Zi C_is_turning θ (hr.mono (by decide)) (Za (Zb 2) Zd)))))))) (Zj (Zm Zaz)) Zo)
  (Zj (Zm (ZaN (ZI hr.units) Z3 (Zn ZdM ZfA T.b_sorted Zfx (Za (ZO (ZlE (XN:=["one","other","turning"]) (dn:=(Zh ZS).names) (N:=["ray","turning"]) (k:=1) (fr:=[2]) rfl rfl rfl rfl (by decide +kernel)) (ZaF (Zb 0)) (fun _ _ _ _=>(Zp 0 (show List.Nodup (["ray","turning"]:List Str) by decide +kernel))) (fun _ _ _ _=>(Or.inl ⟨rfl,rfl⟩)) (fun _ _ _ _=>(Zi C_turned ZU (hr.mono (by decide)) (Za (Zb 1) (Za (Zb 0) Zd))))) Zd)) (Zn ZdM ZfA T.b_sorted Zfx (Za (Zb 1) Zd))))))
noncomputable abbrev Zac:Stmt:=top 47
noncomputable def ZcQ:Sv:=(ZN (ZaT (Zk F_is_pair (Zc (Zg 0) aNil)) (ZaT (e2 dEq (Zk F_product (Zc (Zg 0) (Zc (Zg 1) aNil))) (eC (.int 1))) (Zk bAll (Zc (ZaM (iSq (Zg 2)) 1 [0] (gNm 0) (fun _ M=> .ok true M) (e2 dGe (Zk F_product (Zc (Zg 1) (Zc (Zg 0) aNil))) (eC (.int 1)))) aNil)))))
noncomputable def F_show_stands:List D->Sto->Out D:=fnF ZcQ 3 0
theorem Zd8:FnScope ["show","ray","wedge"] ["show","ray","wedge"] (Zh Zac):=⟨rfl,rfl,rfl,by decide +kernel,rfl,by decide +kernel,by decide +kernel⟩
theorem Zd9 {f:Addr} {fd:FuncData} (F:Fun K "show_stands" "show_stands" Zac f fd) (T:Txt K mg) (C_is_pair:Cal P w K mg base "is_pair" 2 1 F_is_pair) (C_product:Cal P w K mg base "product" 1 2 F_product):FnOk P w K mg base (CXE P w) 101 f fd ["show","ray","wedge"] (spD K F_show_stands):=
 ZM F Zd8 rfl rfl fun cdv A outer s H E hr θ=>(Zj (Zm (ZaE (Zi C_is_pair θ (hr.mono (by decide)) (Za (Zb 0) Zd)) (ZaE (ZaN (ZI hr.units) Z3 (Zi C_product θ (hr.mono (by decide)) (Za (Zb 0) (Za (Zb 1) Zd))) Ze) (ZbB (Zn (Zbe (Zz hr (by decide))) ZcN T.b_all ZcL (Za (ZO (ZlE (XN:=["show","ray","wedge"]) (dn:=(Zh Zac).names) (N:=["other","show"]) (k:=1) (fr:=[0]) rfl rfl rfl rfl (by decide +kernel)) (ZaF (Zb 2)) (fun _ _ _ _=>(Zp 0 (show List.Nodup (["other","show"]:List Str) by decide +kernel))) (fun _ _ _ _=>(Or.inl ⟨rfl,rfl⟩)) (fun _ _ _ _=>(ZaN Zjt ZjF (Zi C_product ZU (hr.mono (by decide)) (Za (Zb 1) (Za (Zb 0) Zd))) Ze))) Zd)))))))
noncomputable abbrev ZZ:Stmt:=top 48
noncomputable def Zcu:Sv:=(ZD (sIf (Zb2 (Zaa (tv (Zk F_is_ray (Zc (Zg 0) aNil)))) (Zb2 (Zaa (tv (Zk F_is_ray (Zc (Zg 1) aNil)))) (tv (e2 dLe (Zk F_crossed (Zc (Zg 0) (Zc (Zg 1) aNil))) (eC (.int 0)))))) (ZN (eC (.bl false))) sNil)
 (ZD (sIf (Zb2 (Zaa (tv (ZdC "list" (Zg 2)))) (Zb2 (Zaa (tv (ZdC "list" (Zg 3)))) (tv (e2 dNe (Zk bLen (Zc (Zg 2) aNil)) (Zk bLen (Zc (Zg 3) aNil)))))) (ZN (eC (.bl false))) sNil)
 (ZD (sIf (Zaa (tv (Zk bAll (Zc (ZaM (iSq (Zg 2)) 1 [] (gNm 0) (fun _ M=> .ok true M) (Zk F_is_ray (Zc (Zg 0) aNil))) aNil)))) (ZN (eC (.bl false))) sNil)
 (ZD (Z4 (gNm 4) (e2 dAdd (e2 dAdd (Zcn (Zc (Zg 0) aNil)) (Zg 2)) (Zcn (Zc (Zg 1) aNil))))
 (ZD (sIf (Zaa (tv (Zk bAll (Zc (ZaM (iZp (Zc (Zg 4) (Zc (eSl (Zg 4) (oSo (eC (.int 1))) oNo) aNil))) 2 [] (gTp (gCs (gNm 0) (gCs (gNm 1) gNl))) (fun _ M=> .ok true M) (e2 dEq (Zk F_crossed (Zc (Zg 0) (Zc (Zg 1) aNil))) (eC (.int 1)))) aNil)))) (ZN (eC (.bl false))) sNil)
 (ZN (Zk bAll (Zc (ZaM (iZp (Zc (Zg 2) (Zc (Zg 3) aNil))) 2 [4] (gTp (gCs (gNm 0) (gCs (gNm 1) gNl))) (fun _ M=> .ok true M) (Zk F_show_stands (Zc (Zg 1) (Zc (Zg 0) (Zc (Zg 2) aNil))))) aNil))))))))
noncomputable def F_wedge_stands:List D->Sto->Out D:=fnF Zcu 4 1
theorem Zca:FnScope ["u","v","rays","shows","wedge"] ["u","v","rays","shows"] (Zh ZZ):=⟨rfl,rfl,rfl,by decide +kernel,rfl,by decide +kernel,by decide +kernel⟩
theorem ZdY {f:Addr} {fd:FuncData} (F:Fun K "wedge_stands" "wedge_stands" ZZ f fd) (T:Txt K mg) (C_is_ray:Cal P w K mg base "is_ray" 103 1 F_is_ray) (C_crossed:Cal P w K mg base "crossed" 1 2 F_crossed) (C_show_stands:Cal P w K mg base "show_stands" 101 3 F_show_stands):FnOk P w K mg base (CXE P w) 104 f fd ["u","v","rays","shows"] (spD K F_wedge_stands):=
 ZM F Zca rfl rfl fun cdv A outer s H E hr θ=>(Zf (ZF (ZcH (ZaA (ZQ (ZG (Zi C_is_ray θ (hr.mono (by decide)) (Za (Zb 0) Zd)))) (ZaA (ZQ (ZG (Zi C_is_ray θ (hr.mono (by decide)) (Za (Zb 1) Zd)))) (ZaD (Zw ZhK Zh3 (Zi C_crossed θ (hr.mono (by decide)) (Za (Zb 0) (Za (Zb 1) Zd))) Ze))))) (Zj (Zm Zaz)) Zo)
  (Zf (ZF (ZcH (ZaA (ZQ (ZG (Z7 Zay T.b_isinstance T.b_list Zaj (Zb 2)))) (ZaA (ZQ (ZG (Z7 Zay T.b_isinstance T.b_list Zaj (Zb 3)))) (ZaD (Zw (Zah hr.units) Zbp (Zn Zl ZL T.b_len PySem.boot_len (Za (Zb 2) Zd)) (Zn Zl ZL T.b_len PySem.boot_len (Za (Zb 3) Zd))))))) (Zj (Zm Zaz)) Zo)
  (Zf (ZF (ZQ (ZG (Zn (Zbe (Zz hr (by decide))) ZcN T.b_all ZcL (Za (ZO (Zei (N:=["ray"]) (k:=1) (by decide +kernel) rfl (by decide +kernel) rfl) (ZaF (Zb 2)) (fun _ _ _ _=>(Zp 0 (show List.Nodup (["ray"]:List Str) by decide +kernel))) (fun _ _ _ _=>(Or.inl ⟨rfl,rfl⟩)) (fun _ _ _ _=>(Zi C_is_ray ZU (hr.mono (by decide)) (Za (Zb 0) Zd)))) Zd)))) (Zj (Zm Zaz)) Zo)
  (Zf (Zy 4 Zca.nd (ZC (ZC (Z2 (Za (Zb 0) Zd)) (Zb 2)) (Z2 (Za (Zb 1) Zd))))
  (Zf (ZF (ZQ (ZG (Zn (Zbe (Zz hr (by decide))) ZcN T.b_all ZcL (Za (ZO (Zei (N:=["ray","behind"]) (k:=2) (by decide +kernel) rfl (by decide +kernel) rfl) (Zdf (hr.hd (by decide)) T.b_zip (Za (Zb 4) (Za (Zby (Zb 4) (Zbx Ze) Zbw) Zd))) (fun _ _ _ _=>(Zav (Zz hr (by decide)) (Zv (Zp 0 (show List.Nodup (["ray","behind"]:List Str) by decide +kernel)) (Zv (Zp 1 (show List.Nodup (["ray","behind"]:List Str) by decide +kernel)) ZX)) (hlen:=(ZA (ZA (fun _ _ _ h=>ZY h)))))) (fun _ _ _ _=>(Or.inl ⟨rfl,rfl⟩)) (fun _ _ _ _=>(ZaN (ZI hr.units) Z3 (Zi C_crossed ZU (hr.mono (by decide)) (Za (Zb 0) (Za (Zb 1) Zd))) Ze))) Zd)))) (Zj (Zm Zaz)) Zo)
  (Zj (Zm (Zn (Zbe (Zz hr (by decide))) ZcN T.b_all ZcL (Za (ZO (ZlE (XN:=["u","v","rays","shows","wedge"]) (dn:=(Zh ZZ).names) (N:=["ray","show","wedge"]) (k:=2) (fr:=[4]) rfl rfl rfl rfl (by decide +kernel)) (Zdf (hr.hd (by decide)) T.b_zip (Za (Zb 2) (Za (Zb 3) Zd))) (fun _ _ _ _=>(Zav (Zz hr (by decide)) (Zv (Zp 0 (show List.Nodup (["ray","show","wedge"]:List Str) by decide +kernel)) (Zv (Zp 1 (show List.Nodup (["ray","show","wedge"]:List Str) by decide +kernel)) ZX)) (hlen:=(ZA (ZA (fun _ _ _ h=>ZY h)))))) (fun _ _ _ _=>(Or.inl ⟨rfl,rfl⟩)) (fun _ _ _ _=>(Zi C_show_stands ZU (hr.mono (by decide)) (Za (Zb 1) (Za (Zb 0) (Za (Zb 2) Zd)))))) Zd)))))))))
noncomputable abbrev Z6:Stmt:=top 49
noncomputable def ZdZ:Sv:=(ZD (Z4 (gNm 2) (ZaM (iSq (Zg 1)) 1 [] (gNm 0) (fun _ M=> .ok true M) (Zk F_less (Zc (Zao (Zc (eC (.int 0)) (Zc (eC (.int 1)) aNil))) (Zc (Zg 0) aNil)))))
 (ZD (sIf (tv (Zk bAll (Zc (Zg 2) aNil))) (ZN (eC (.bl false))) sNil)
 (ZD (Z4 (gNm 3) (Zij mIdx (Zg 2) (Zc (eC (.bl false)) aNil)))
 (ZD (Z4 (gNm 4) (Zk F_numbers (Zc (Zg 0) aNil)))
 (ZD (Z4 (gTp (gCs (gNm 5) (gCs (gNm 6) gNl))) (Zao (Zc (eC (.int 0)) (Zc (eC (.int 1)) aNil))))
 (ZD sBad
 (ZN (eC (.bl true)))))))))
noncomputable def F_crosses_below:List D->Sto->Out D:=fnF ZdZ 2 6
theorem ZV:FnScope ["rays","stuck","marks","start","row","ahead","here","at"] ["rays","stuck"] (Zh Z6):=⟨rfl,rfl,rfl,by decide +kernel,rfl,by decide +kernel,by decide +kernel⟩
theorem Zdy {f:Addr} {fd:FuncData} (F:Fun K "crosses_below" "crosses_below" Z6 f fd) (T:Txt K mg) (C_less:Cal P w K mg base "less" 1 2 F_less) (C_numbers:Cal P w K mg base "numbers" 103 1 F_numbers):FnOk P w K mg base (CXE P w) 104 f fd ["rays","stuck"] (spD K F_crosses_below):=
 ZM F ZV rfl rfl fun cdv A outer s H E hr θ=>(Zf (ZlO 2 ZV.nd (Zei (N:=["own"]) (k:=1) (by decide +kernel) rfl (by decide +kernel) rfl) (ZaF (Zb 1)) (fun _ _ _ _=>(Zp 0 (show List.Nodup (["own"]:List Str) by decide +kernel))) (fun _ _ _ _=>(Or.inl ⟨rfl,rfl⟩)) (fun _ _ _ _=>(Zi C_less ZU (hr.mono (by decide)) (Za (Zx (Za Ze (Za Ze Zd))) (Za (Zb 0) Zd)))))
  (Zf (ZF (ZG (Zn (Zbe (Zz hr (by decide))) ZcN T.b_all ZcL (Za (Zb 2) Zd))) (Zj (Zm Zaz)) Zo)
  (Zf (Zy 3 ZV.nd (ZnC PySem.F.slot_list_index PySem.F.type_list_index (ZnJ hr.units) ZnK (Zb 2) (Za Zaz Zd)))
  (Zf (Zy 4 ZV.nd (Zi C_numbers θ (hr.mono (by decide)) (Za (Zb 0) Zd)))
  (Zf (Zeh (Zx (Za Ze (Za Ze Zd))) (Zav (Zz hr (by decide)) (Zv (Zp 5 ZV.nd) (Zv (Zp 6 ZV.nd) ZX)) (hlen:=(ZA (ZA (fun _ _ _ h=>ZY h))))))
  (Zf Zcs
  (Zj (Zm Zaz))))))))
noncomputable abbrev ZT:Stmt:=top 50
noncomputable def ZcC:Sv:=(sIf (Zb2 (tv (Zk F_less (Zc (Zg 4) (Zc (Zao (Zc (eC (.int 0)) (Zc (eC (.int 1)) aNil))) aNil)))) (Zb2 (tv (Zk F_less (Zc (Zg 5) (Zc (Zao (Zc (eC (.int 0)) (Zc (eC (.int 1)) aNil))) aNil)))) (tv (e2 dNe (Zk F_times (Zc (Zg 4) (Zc (Zg 5) aNil))) (Zao (Zc (eC (.int 0)) (Zc (eC (.int 1)) aNil))))))) (ZN (eC (.bl false))) sNil)
noncomputable def Zdz:Sv:=(ZD (sIf (Zb2 (Zaa (tv (Zk F_is_smooth (Zc (Zg 0) aNil)))) (Zaa (tv (Zk bAll (Zc (ZaM (iSq (Zao (Zc (Zg 1) (Zc (Zg 2) (Zc (Zg 3) aNil))))) 1 [0] (gNm 0) (fun _ M=> .ok true M) (Zk F_is_height (Zc (Zg 0) (Zc (Zg 1) aNil)))) aNil))))) (ZN (eC (.bl false))) sNil)
 (ZD (sIf (tv (e2 dNe (ZaM (iZp (Zc (Zg 2) (Zc (Zg 3) aNil))) 2 [] (gTp (gCs (gNm 0) (gCs (gNm 1) gNl))) (fun _ M=> .ok true M) (Zk F_plus (Zc (Zg 0) (Zc (Zg 1) aNil)))) (Zg 1))) (ZN (eC (.bl false))) sNil)
 (ZD (Zdt (gTp (gCs (gNm 4) (gCs (gNm 5) gNl))) (iZp (Zc (Zk F_bends (Zc (Zg 0) (Zc (Zg 2) aNil))) (Zc (Zg 3) aNil))) ZcC)
 (ZN (Zk F_crosses_below (Zc (Zg 0) (Zc (Zg 3) aNil)))))))
noncomputable def F_parting_stands:List D->Sto->Out D:=fnF Zdz 4 2
theorem Za2:FnScope ["rays","height","first","stuck","bend","rest"] ["rays","height","first","stuck"] (Zh ZT):=⟨rfl,rfl,rfl,by decide +kernel,rfl,by decide +kernel,by decide +kernel⟩
theorem Zc7 {f:Addr} {fd:FuncData} (F:Fun K "parting_stands" "parting_stands" ZT f fd) (T:Txt K mg) (C_is_smooth:Cal P w K mg base "is_smooth" 102 1 F_is_smooth) (C_is_height:Cal P w K mg base "is_height" 103 2 F_is_height) (C_plus:Cal P w K mg base "plus" 103 2 F_plus) (C_bends:Cal P w K mg base "bends" 104 2 F_bends) (C_less:Cal P w K mg base "less" 1 2 F_less) (C_times:Cal P w K mg base "times" 103 2 F_times) (C_crosses_below:Cal P w K mg base "crosses_below" 104 2 F_crosses_below):FnOk P w K mg base (CXE P w) 105 f fd ["rays","height","first","stuck"] (spD K F_parting_stands):=
 ZM F Za2 rfl rfl fun cdv A outer s H E hr θ=>(Zf (ZF (ZcH (ZaA (ZQ (ZG (Zi C_is_smooth θ (hr.mono (by decide)) (Za (Zb 0) Zd)))) (ZaD (ZQ (ZG (Zn (Zbe (Zz hr (by decide))) ZcN T.b_all ZcL (Za (ZO (ZlE (XN:=["rays","height","first","stuck","bend","rest"]) (dn:=(Zh ZT).names) (N:=["thing","rays"]) (k:=1) (fr:=[0]) rfl rfl rfl rfl (by decide +kernel)) (ZaF (Zx (Za (Zb 1) (Za (Zb 2) (Za (Zb 3) Zd))))) (fun _ _ _ _=>(Zp 0 (show List.Nodup (["thing","rays"]:List Str) by decide +kernel))) (fun _ _ _ _=>(Or.inl ⟨rfl,rfl⟩)) (fun _ _ _ _=>(Zi C_is_height ZU (hr.mono (by decide)) (Za (Zb 0) (Za (Zb 1) Zd))))) Zd))))))) (Zj (Zm Zaz)) Zo)
  (Zf (ZF (Zw (Zah hr.units) Zbp (ZO (Zei (N:=["part","rest"]) (k:=2) (by decide +kernel) rfl (by decide +kernel) rfl) (Zdf (hr.hd (by decide)) T.b_zip (Za (Zb 2) (Za (Zb 3) Zd))) (fun _ _ _ _=>(Zav (Zz hr (by decide)) (Zv (Zp 0 (show List.Nodup (["part","rest"]:List Str) by decide +kernel)) (Zv (Zp 1 (show List.Nodup (["part","rest"]:List Str) by decide +kernel)) ZX)) (hlen:=(ZA (ZA (fun _ _ _ h=>ZY h)))))) (fun _ _ _ _=>(Or.inl ⟨rfl,rfl⟩)) (fun _ _ _ _=>(Zi C_plus ZU (hr.mono (by decide)) (Za (Zb 0) (Za (Zb 1) Zd))))) (Zb 1)) (Zj (Zm Zaz)) Zo)
  (Zf (Zb6 θ.own (Zdf (hr.hd (by decide)) T.b_zip (Za (Zi C_bends θ (hr.mono (by decide)) (Za (Zb 0) (Za (Zb 2) Zd))) (Za (Zb 3) Zd))) (Zav (Zz hr (by decide)) (Zv (Zp 4 Za2.nd) (Zv (Zp 5 Za2.nd) ZX)) (hlen:=(ZA (ZA (fun _ _ _ h=>ZY h))))) (Zj (ZF (ZcH (ZaA (ZG (Zi C_less θ (hr.mono (by decide)) (Za (Zb 4) (Za (Zx (Za Ze (Za Ze Zd))) Zd)))) (ZaA (ZG (Zi C_less θ (hr.mono (by decide)) (Za (Zb 5) (Za (Zx (Za Ze (Za Ze Zd))) Zd)))) (ZaD (Zw (Zah hr.units) Zbp (Zi C_times θ (hr.mono (by decide)) (Za (Zb 4) (Za (Zb 5) Zd))) (Zx (Za Ze (Za Ze Zd)))))))) (Zj (Zm Zaz)) Zo)))
  (Zj (Zm (Zi C_crosses_below θ (hr.mono (by decide)) (Za (Zb 0) (Za (Zb 3) Zd))))))))
noncomputable abbrev Zaq:Stmt:=top 51
noncomputable def ZdA:Sv:=(Z4 (gNm 5) (Zk F_plus (Zc (Zg 5) (Zc (Zk F_times (Zc (Zao (Zc (Zg 6) (Zc (eC (.int 1)) aNil))) (Zc (Zg 7) aNil))) aNil))))
noncomputable def ZeN:Sv:=(ZD (sIf (Zb2 (Zaa (tv (Zk F_is_smooth (Zc (Zg 0) aNil)))) (Zaa (tv (Zk F_is_height (Zc (Zg 1) (Zc (Zg 0) aNil)))))) (ZN (eC (.bl false))) sNil)
 (ZD (sIf (Zb2 (Zaa (tv (ZdC "list" (Zg 2)))) (tv (e2 dNe (Zk bLen (Zc (Zg 2) aNil)) (Zk bLen (Zc (Zg 0) aNil))))) (ZN (eC (.bl false))) sNil)
 (ZD (sIf (Zaa (tv (Zk bAll (Zc (ZaM (iSq (Zg 2)) 1 [] (gNm 0) (fun _ M=> .ok true M) (ZaT (Zk F_is_whole (Zc (Zg 0) aNil)) (e2 dGe (Zg 0) (eC (.int 0))))) aNil)))) (ZN (eC (.bl false))) sNil)
 (ZD (Z4 (gNm 3) (Zk (Zev ZpS) (Zc (ZaM (iZp (Zc (Zg 2) (Zc (Zg 0) aNil))) 2 [] (gTp (gCs (gNm 0) (gCs (gNm 1) gNl))) (fun _ M=> .ok true M) (e2 dMul (Zg 0) (e2 dIx (Zg 1) (eC (.int 0))))) aNil)))
 (ZD (Z4 (gNm 4) (Zk (Zev ZpS) (Zc (ZaM (iZp (Zc (Zg 2) (Zc (Zg 0) aNil))) 2 [] (gTp (gCs (gNm 0) (gCs (gNm 1) gNl))) (fun _ M=> .ok true M) (e2 dMul (Zg 0) (e2 dIx (Zg 1) (eC (.int 1))))) aNil)))
 (ZD (Z4 (gNm 5) (Zao (Zc (eC (.int 0)) (Zc (eC (.int 1)) aNil))))
 (ZD (Zdt (gTp (gCs (gNm 6) (gCs (gNm 7) gNl))) (iZp (Zc (Zg 2) (Zc (Zg 1) aNil))) ZdA)
 (ZN (ZaT (e2 dEq (Zao (Zc (Zg 3) (Zc (Zg 4) aNil))) (Zao (Zc (eC (.int 0)) (Zc (eC (.int 0)) aNil)))) (Zk F_less (Zc (Zg 5) (Zc (Zao (Zc (eC (.int 0)) (Zc (eC (.int 1)) aNil))) aNil))))))))))))
noncomputable def F_none_stands:List D->Sto->Out D:=fnF ZeN 3 5
theorem Z0:FnScope ["rays","height","weights","x","y","total","weight","own"] ["rays","height","weights"] (Zh Zaq):=⟨rfl,rfl,rfl,by decide +kernel,rfl,by decide +kernel,by decide +kernel⟩
theorem Zea {f:Addr} {fd:FuncData} (F:Fun K "none_stands" "none_stands" Zaq f fd) (T:Txt K mg) (C_is_smooth:Cal P w K mg base "is_smooth" 102 1 F_is_smooth) (C_is_height:Cal P w K mg base "is_height" 103 2 F_is_height) (C_is_whole:Cal P w K mg base "is_whole" 1 1 F_is_whole) (C_times:Cal P w K mg base "times" 103 2 F_times) (C_plus:Cal P w K mg base "plus" 103 2 F_plus) (C_less:Cal P w K mg base "less" 1 2 F_less):FnOk P w K mg base (CXE P w) 104 f fd ["rays","height","weights"] (spD K F_none_stands):=
 ZM F Z0 rfl rfl fun cdv A outer s H E hr θ=>(Zf (ZF (ZcH (ZaA (ZQ (ZG (Zi C_is_smooth θ (hr.mono (by decide)) (Za (Zb 0) Zd)))) (ZaD (ZQ (ZG (Zi C_is_height θ (hr.mono (by decide)) (Za (Zb 1) (Za (Zb 0) Zd)))))))) (Zj (Zm Zaz)) Zo)
  (Zf (ZF (ZcH (ZaA (ZQ (ZG (Z7 Zay T.b_isinstance T.b_list Zaj (Zb 2)))) (ZaD (Zw (Zah hr.units) Zbp (Zn Zl ZL T.b_len PySem.boot_len (Za (Zb 2) Zd)) (Zn Zl ZL T.b_len PySem.boot_len (Za (Zb 0) Zd)))))) (Zj (Zm Zaz)) Zo)
  (Zf (ZF (ZQ (ZG (Zn (Zbe (Zz hr (by decide))) ZcN T.b_all ZcL (Za (ZO (Zei (N:=["weight"]) (k:=1) (by decide +kernel) rfl (by decide +kernel) rfl) (ZaF (Zb 2)) (fun _ _ _ _=>(Zp 0 (show List.Nodup (["weight"]:List Str) by decide +kernel))) (fun _ _ _ _=>(Or.inl ⟨rfl,rfl⟩)) (fun _ _ _ _=>(ZaE (Zi C_is_whole ZU (hr.mono (by decide)) (Za (Zb 0) Zd)) (ZbB (ZaN Zjt ZjF (Zb 0) Ze))))) Zd)))) (Zj (Zm Zaz)) Zo)
  (Zf (Zy 3 Z0.nd (Zn (Zfs (Zz hr (by decide))) ZkK T.b_sum ZkL (Za (ZO (Zei (N:=["weight","ray"]) (k:=2) (by decide +kernel) rfl (by decide +kernel) rfl) (Zdf (hr.hd (by decide)) T.b_zip (Za (Zb 2) (Za (Zb 0) Zd))) (fun _ _ _ _=>(Zav (Zz hr (by decide)) (Zv (Zp 0 (show List.Nodup (["weight","ray"]:List Str) by decide +kernel)) (Zv (Zp 1 (show List.Nodup (["weight","ray"]:List Str) by decide +kernel)) ZX)) (hlen:=(ZA (ZA (fun _ _ _ h=>ZY h)))))) (fun _ _ _ _=>(Or.inl ⟨rfl,rfl⟩)) (fun _ _ _ _=>(ZK (Zb 0) (Zq (Zb 1) Ze)))) Zd)))
  (Zf (Zy 4 Z0.nd (Zn (Zfs (Zz hr (by decide))) ZkK T.b_sum ZkL (Za (ZO (Zei (N:=["weight","ray"]) (k:=2) (by decide +kernel) rfl (by decide +kernel) rfl) (Zdf (hr.hd (by decide)) T.b_zip (Za (Zb 2) (Za (Zb 0) Zd))) (fun _ _ _ _=>(Zav (Zz hr (by decide)) (Zv (Zp 0 (show List.Nodup (["weight","ray"]:List Str) by decide +kernel)) (Zv (Zp 1 (show List.Nodup (["weight","ray"]:List Str) by decide +kernel)) ZX)) (hlen:=(ZA (ZA (fun _ _ _ h=>ZY h)))))) (fun _ _ _ _=>(Or.inl ⟨rfl,rfl⟩)) (fun _ _ _ _=>(ZK (Zb 0) (Zq (Zb 1) Ze)))) Zd)))
  (Zf (Zy 5 Z0.nd (Zx (Za Ze (Za Ze Zd))))
  (Zf (Zb6 θ.own (Zdf (hr.hd (by decide)) T.b_zip (Za (Zb 2) (Za (Zb 1) Zd))) (Zav (Zz hr (by decide)) (Zv (Zp 6 Z0.nd) (Zv (Zp 7 Z0.nd) ZX)) (hlen:=(ZA (ZA (fun _ _ _ h=>ZY h))))) (Zj (Zy 5 Z0.nd (Zi C_plus θ (hr.mono (by decide)) (Za (Zb 5) (Za (Zi C_times θ (hr.mono (by decide)) (Za (Zx (Za (Zb 6) (Za Ze Zd))) (Za (Zb 7) Zd))) Zd))))))
  (Zj (Zm (ZaE (ZaN (ZI hr.units) Z3 (Zx (Za (Zb 3) (Za (Zb 4) Zd))) (Zx (Za Ze (Za Ze Zd)))) (ZbB (Zi C_less θ (hr.mono (by decide)) (Za (Zb 5) (Za (Zx (Za Ze (Za Ze Zd))) Zd))))))))))))))
noncomputable abbrev Zck:Stmt:=top 52
noncomputable def ZgU:Sv:=(ZD (sIf (Zb2 (Zaa (tv (ZdC "tuple" (Zg 0)))) (tv (e2 dLt (Zk bLen (Zc (Zg 0) aNil)) (eC (.int 4))))) (ZN (eC (.bl false))) sNil)
 (ZD (Ze3 1 2 (Zc (e2 dIx (Zg 0) (eC (.int 0))) (Zc (eSl (Zg 0) (oSo (eC (.int 1))) oNo) aNil)))
 (ZD (sIf (ZcX (tv (e2 dEq (Zg 1) (eC (.str (PySem.Str.ofString "walk"))))) (tv (e2 dEq (Zk bLen (Zc (Zg 2) aNil)) (eC (.int 3))))) (ZN (Zk F_walk_stands (Zc (e2 dIx (Zg 2) (eC (.int 0))) (Zc (e2 dIx (Zg 2) (eC (.int 1))) (Zc (e2 dIx (Zg 2) (eC (.int 2))) aNil))))) sNil)
 (ZD (sIf (ZcX (tv (e2 dEq (Zg 1) (eC (.str (PySem.Str.ofString "turning"))))) (tv (e2 dEq (Zk bLen (Zc (Zg 2) aNil)) (eC (.int 3))))) (ZN (Zk F_turning_stands (Zc (e2 dIx (Zg 2) (eC (.int 0))) (Zc (e2 dIx (Zg 2) (eC (.int 1))) (Zc (e2 dIx (Zg 2) (eC (.int 2))) aNil))))) sNil)
 (ZD (sIf (ZcX (tv (e2 dEq (Zg 1) (eC (.str (PySem.Str.ofString "wedge"))))) (tv (e2 dEq (Zk bLen (Zc (Zg 2) aNil)) (eC (.int 4))))) (ZN (Zk F_wedge_stands (Zc (e2 dIx (Zg 2) (eC (.int 0))) (Zc (e2 dIx (Zg 2) (eC (.int 1))) (Zc (e2 dIx (Zg 2) (eC (.int 2))) (Zc (e2 dIx (Zg 2) (eC (.int 3))) aNil)))))) sNil)
 (ZD (sIf (ZcX (tv (e2 dEq (Zg 1) (eC (.str (PySem.Str.ofString "parting"))))) (tv (e2 dEq (Zk bLen (Zc (Zg 2) aNil)) (eC (.int 4))))) (ZN (Zk F_parting_stands (Zc (e2 dIx (Zg 2) (eC (.int 0))) (Zc (e2 dIx (Zg 2) (eC (.int 1))) (Zc (e2 dIx (Zg 2) (eC (.int 2))) (Zc (e2 dIx (Zg 2) (eC (.int 3))) aNil)))))) sNil)
 (ZD (sIf (ZcX (tv (e2 dEq (Zg 1) (eC (.str (PySem.Str.ofString "none"))))) (tv (e2 dEq (Zk bLen (Zc (Zg 2) aNil)) (eC (.int 3))))) (ZN (Zk F_none_stands (Zc (e2 dIx (Zg 2) (eC (.int 0))) (Zc (e2 dIx (Zg 2) (eC (.int 1))) (Zc (e2 dIx (Zg 2) (eC (.int 2))) aNil))))) sNil)
 (ZN (eC (.bl false))))))))))
noncomputable def F_stands:List D->Sto->Out D:=fnF ZgU 1 2
theorem ZfR:FnScope ["thing","word","parts"] ["thing"] (Zh Zck):=⟨rfl,rfl,rfl,by decide +kernel,rfl,by decide +kernel,by decide +kernel⟩
theorem Zja {f:Addr} {fd:FuncData} (F:Fun K "stands" "stands" Zck f fd) (T:Txt K mg) (C_walk_stands:Cal P w K mg base "walk_stands" 103 3 F_walk_stands) (C_turning_stands:Cal P w K mg base "turning_stands" 102 3 F_turning_stands) (C_wedge_stands:Cal P w K mg base "wedge_stands" 104 4 F_wedge_stands) (C_parting_stands:Cal P w K mg base "parting_stands" 105 4 F_parting_stands) (C_none_stands:Cal P w K mg base "none_stands" 104 3 F_none_stands):FnOk P w K mg base (CXE P w) 106 f fd ["thing"] (spD K F_stands):=
 ZM F ZfR rfl rfl fun cdv A outer s H E hr θ=>(Zf (ZF (ZcH (ZaA (ZQ (ZG (Z7 ZaO T.b_isinstance T.b_tuple Zab (Zb 0)))) (ZaD (Zw Zdp Zdr (Zn Zl ZL T.b_len PySem.boot_len (Za (Zb 0) Zd)) Ze)))) (Zj (Zm Zaz)) Zo)
  (Zf (ZcJ 1 2 (Zz hr (by decide)) ZfR.nd (Za (Zq (Zb 0) Ze) (Za (Zby (Zb 0) (Zbx Ze) Zbw) Zd)))
  (Zf (ZF (ZcH (ZcG (Zw (ZI hr.units) Z3 (Zb 1) Zbb) (ZbS (Zw (ZI hr.units) Z3 (Zn Zl ZL T.b_len PySem.boot_len (Za (Zb 2) Zd)) Ze)))) (Zj (Zm (Zi C_walk_stands θ (hr.mono (by decide)) (Za (Zq (Zb 2) Ze) (Za (Zq (Zb 2) Ze) (Za (Zq (Zb 2) Ze) Zd)))))) Zo)
  (Zf (ZF (ZcH (ZcG (Zw (ZI hr.units) Z3 (Zb 1) Zbb) (ZbS (Zw (ZI hr.units) Z3 (Zn Zl ZL T.b_len PySem.boot_len (Za (Zb 2) Zd)) Ze)))) (Zj (Zm (Zi C_turning_stands θ (hr.mono (by decide)) (Za (Zq (Zb 2) Ze) (Za (Zq (Zb 2) Ze) (Za (Zq (Zb 2) Ze) Zd)))))) Zo)
  (Zf (ZF (ZcH (ZcG (Zw (ZI hr.units) Z3 (Zb 1) Zbb) (ZbS (Zw (ZI hr.units) Z3 (Zn Zl ZL T.b_len PySem.boot_len (Za (Zb 2) Zd)) Ze)))) (Zj (Zm (Zi C_wedge_stands θ (hr.mono (by decide)) (Za (Zq (Zb 2) Ze) (Za (Zq (Zb 2) Ze) (Za (Zq (Zb 2) Ze) (Za (Zq (Zb 2) Ze) Zd))))))) Zo)
  (Zf (ZF (ZcH (ZcG (Zw (ZI hr.units) Z3 (Zb 1) Zbb) (ZbS (Zw (ZI hr.units) Z3 (Zn Zl ZL T.b_len PySem.boot_len (Za (Zb 2) Zd)) Ze)))) (Zj (Zm (Zi C_parting_stands θ (hr.mono (by decide)) (Za (Zq (Zb 2) Ze) (Za (Zq (Zb 2) Ze) (Za (Zq (Zb 2) Ze) (Za (Zq (Zb 2) Ze) Zd))))))) Zo)
  (Zf (ZF (ZcH (ZcG (Zw (ZI hr.units) Z3 (Zb 1) Zbb) (ZbS (Zw (ZI hr.units) Z3 (Zn Zl ZL T.b_len PySem.boot_len (Za (Zb 2) Zd)) Ze)))) (Zj (Zm (Zi C_none_stands θ (hr.mono (by decide)) (Za (Zq (Zb 2) Ze) (Za (Zq (Zb 2) Ze) (Za (Zq (Zb 2) Ze) Zd)))))) Zo)
  (Zj (Zm Zaz)))))))))
noncomputable abbrev ZbP:Stmt:=top 54
theorem ZaJ:FnScope ["ray","high","low","first","second","many"] ["ray"] (Zh ZbP):=⟨rfl,rfl,rfl,by decide +kernel,rfl,by decide +kernel,by decide +kernel⟩
theorem Zhr {f:Addr} {fd:FuncData} (F:Fun K "partner" "partner" ZbP f fd) (T:Txt K mg):FnOk P w K mg base (CXE P w) 101 f fd ["ray"] (spD K F_partner):=
 ZM F ZaJ rfl rfl fun cdv A outer s H E hr θ=>(Zf (Zeh (Zb 0) (Zav (Zz hr (by decide)) (Zv (Zp 1 ZaJ.nd) (Zv (Zp 2 ZaJ.nd) ZX)) (hlen:=(ZA (ZA (fun _ _ _ h=>ZY h))))))
  (Zf (Zeh (Zx (Za (Zx (Za Ze (Za Ze Zd))) (Za (Zx (Za (Zcr Ze) (Za Ze Zd))) Zd))) (Zav (Zz hr (by decide)) (Zv (Zp 3 ZaJ.nd) (Zv (Zp 4 ZaJ.nd) ZX)) (hlen:=(ZA (ZA (fun _ _ _ h=>ZY h))))))
  (Zf (ZdE θ.own (Zw (Zah hr.units) Zbp (Zb 2) Ze) (Zf (Zy 5 ZaJ.nd (Zbo (Zb 1) (Zb 2)))
  (Zf (ZcJ 1 2 (Zz hr (by decide)) ZaJ.nd (Za (Zb 2) (Za (Zat (Zb 1) (ZK (Zb 5) (Zb 2))) Zd)))
  (Zj (ZcJ 3 4 (Zz hr (by decide)) ZaJ.nd (Za (Zb 4) (Za (Zx (Za (Zat (Zq (Zb 3) Ze) (ZK (Zb 5) (Zq (Zb 4) Ze))) (Za (Zat (Zq (Zb 3) Ze) (ZK (Zb 5) (Zq (Zb 4) Ze))) Zd))) Zd)))))))
  (Zj (Zm (Zx (Za (ZK (Zb 1) (Zq (Zb 3) Ze)) (Za (ZK (Zb 1) (Zq (Zb 3) Ze)) Zd))))))))
noncomputable abbrev Zad:Stmt:=top 55
theorem Zbt:FnScope ["u","v","w","many"] ["u","v"] (Zh Zad):=⟨rfl,rfl,rfl,by decide +kernel,rfl,by decide +kernel,by decide +kernel⟩
theorem Zd0 {f:Addr} {fd:FuncData} (F:Fun K "first_behind" "first_behind" Zad f fd) (T:Txt K mg) (C_partner:Cal P w K mg base "partner" 101 1 F_partner) (C_crossed:Cal P w K mg base "crossed" 1 2 F_crossed):FnOk P w K mg base (CXE P w) 102 f fd ["u","v"] (spD K F_first_behind):=
 ZM F Zbt rfl rfl fun cdv A outer s H E hr θ=>(Zf (Zy 2 Zbt.nd (Zi C_partner θ (hr.mono (by decide)) (Za (Zb 0) Zd)))
  (Zf (Zy 3 Zbt.nd (Zbo (Zi C_crossed θ (hr.mono (by decide)) (Za (Zb 2) (Za (Zb 1) Zd))) (Zi C_crossed θ (hr.mono (by decide)) (Za (Zb 0) (Za (Zb 1) Zd)))))
  (Zj (Zm (Zx (Za (Zat (Zq (Zb 2) Ze) (ZK (Zb 3) (Zq (Zb 0) Ze))) (Za (Zat (Zq (Zb 2) Ze) (ZK (Zb 3) (Zq (Zb 0) Ze))) Zd)))))))
noncomputable abbrev Zbm:Stmt:=top 56
theorem ZbZ:FnScope ["top","bottom","numbers","number"] ["top","bottom"] (Zh Zbm):=⟨rfl,rfl,rfl,by decide +kernel,rfl,by decide +kernel,by decide +kernel⟩
theorem Zgs {f:Addr} {fd:FuncData} (F:Fun K "expanded" "expanded" Zbm f fd) (T:Txt K mg):FnOk P w K mg base (CXE P w) 101 f fd ["top","bottom"] (spD K F_expanded):=
 ZM F ZbZ rfl rfl fun cdv A outer s H E hr θ=>(Zf (Zy 2 ZbZ.nd (Z2 Zd))
  (Zf (ZdE θ.own (Zw (Zah hr.units) Zbp (Zb 1) Ze) (Zf (Zy 3 ZbZ.nd (Zcr (Zbo (Zcr (Zb 0)) (Zb 1))))
  (Zf (Zb3 (Zb5 (Zb 2) (Zb 3)))
  (Zj (ZcJ 0 1 (Zz hr (by decide)) ZbZ.nd (Za (Zb 1) (Za (Zat (ZK (Zb 3) (Zb 1)) (Zb 0)) Zd)))))))
  (Zj (Zm (Zb 2)))))
noncomputable abbrev Zhs:Stmt:=top 57
theorem Zpi:FnScope ["u","v"] ["u","v"] (Zh Zhs):=⟨rfl,rfl,rfl,by decide +kernel,rfl,by decide +kernel,by decide +kernel⟩
theorem Zpj {f:Addr} {fd:FuncData} (F:Fun K "row" "row" Zhs f fd) (T:Txt K mg) (C_crossed:Cal P w K mg base "crossed" 1 2 F_crossed) (C_first_behind:Cal P w K mg base "first_behind" 102 2 F_first_behind) (C_expanded:Cal P w K mg base "expanded" 101 2 F_expanded):FnOk P w K mg base (CXE P w) 103 f fd ["u","v"] (spD K F_row):=
 ZM F Zpi rfl rfl fun cdv A outer s H E hr θ=>(Zf (ZF (Zw ZhK Zh3 (Zi C_crossed θ (hr.mono (by decide)) (Za (Zb 0) (Za (Zb 1) Zd))) Ze) (Zj (ZbT θ T.ex_NoWedge T.gl (hr.hd (by decide)) (Za Zbb Zd))) Zo)
  (Zj (Zm (Zi C_expanded θ (hr.mono (by decide)) (Za (Zi C_crossed θ (hr.mono (by decide)) (Za (Zb 0) (Za (Zb 1) Zd))) (Za (Zi C_crossed θ (hr.mono (by decide)) (Za (Zi C_first_behind θ (hr.mono (by decide)) (Za (Zb 0) (Za (Zb 1) Zd))) (Za (Zb 1) Zd))) Zd))))))
noncomputable abbrev ZbQ:Stmt:=top 58
theorem Zbn:FnScope ["u","v","numbers","rays","ahead","ray","number"] ["u","v"] (Zh ZbQ):=⟨rfl,rfl,rfl,by decide +kernel,rfl,by decide +kernel,by decide +kernel⟩
theorem Zht {f:Addr} {fd:FuncData} (F:Fun K "between" "between" ZbQ f fd) (T:Txt K mg) (C_row:Cal P w K mg base "row" 103 2 F_row) (C_first_behind:Cal P w K mg base "first_behind" 102 2 F_first_behind):FnOk P w K mg base (CXE P w) 104 f fd ["u","v"] (spD K F_between):=
 ZM F Zbn rfl rfl fun cdv A outer s H E hr θ=>(Zf (Zy 2 Zbn.nd (Zi C_row θ (hr.mono (by decide)) (Za (Zb 0) (Za (Zb 1) Zd))))
  (Zf (Zy 3 Zbn.nd (Z2 Zd))
  (Zf (ZcJ 4 5 (Zz hr (by decide)) Zbn.nd (Za (Zb 0) (Za (Zi C_first_behind θ (hr.mono (by decide)) (Za (Zb 0) (Za (Zb 1) Zd))) Zd)))
  (Zf (ZkF θ.own (Zb 2) (Zp 6 Zbn.nd) (Zf (Zb3 (Zb5 (Zb 3) (Zb 5)))
  (Zj (ZcJ 4 5 (Zz hr (by decide)) Zbn.nd (Za (Zb 5) (Za (Zx (Za (Zat (ZK (Zb 6) (Zq (Zb 5) Ze)) (Zq (Zb 4) Ze)) (Za (Zat (ZK (Zb 6) (Zq (Zb 5) Ze)) (Zq (Zb 4) Ze)) Zd))) Zd))))))
  (Zj (Zm (Zb 3)))))))
noncomputable abbrev Zc8:Stmt:=top 59
theorem ZcR:FnScope ["u","v","rays","told","ray","behind"] ["u","v"] (Zh Zc8):=⟨rfl,rfl,rfl,by decide +kernel,rfl,by decide +kernel,by decide +kernel⟩
theorem Zki {f:Addr} {fd:FuncData} (F:Fun K "shows" "shows" Zc8 f fd) (T:Txt K mg) (C_between:Cal P w K mg base "between" 104 2 F_between):FnOk P w K mg base (CXE P w) 105 f fd ["u","v"] (spD K F_shows):=
 ZM F ZcR rfl rfl fun cdv A outer s H E hr θ=>(Zf (Zy 2 ZcR.nd (ZC (Zi C_between θ (hr.mono (by decide)) (Za (Zb 0) (Za (Zb 1) Zd))) (Z2 (Za (Zb 1) Zd))))
  (Zf (Zy 3 ZcR.nd (Z2 Zd))
  (Zf (Zb6 θ.own (Zdf (hr.hd (by decide)) T.b_zip (Za (Zb 2) (Za (Zby (Zb 2) (Zbx Ze) Zbw) Zd))) (Zav (Zz hr (by decide)) (Zv (Zp 4 ZcR.nd) (Zv (Zp 5 ZcR.nd) ZX)) (hlen:=(ZA (ZA (fun _ _ _ h=>ZY h))))) (Zj (Zb3 (Zb5 (Zb 3) (Zx (Za (Zat (Zq (Zb 5) Ze) (Zq (Zb 4) Ze)) (Za (Zat (Zq (Zb 4) Ze) (Zq (Zb 5) Ze)) Zd)))))))
  (Zj (Zm (Zb 3))))))
noncomputable abbrev Zar:Stmt:=top 61
theorem Zaw:FnScope ["_law_script","_law_k","_law_cell","_law_one"] ["_law_script","_law_k"] (Zh Zar):=⟨rfl,rfl,rfl,by decide +kernel,rfl,by decide +kernel,by decide +kernel⟩
theorem Zeb {f:Addr} {fd:FuncData} (F:Fun K "_law_cell_at" "_law_cell_at" Zar f fd) (T:Txt K mg):FnOk P w K mg base (CXE P w) 1 f fd ["_law_script","_law_k"] (spD K F_law_cell_at):=
 ZM F Zaw rfl rfl fun cdv A outer s H E hr θ=>(Zf (Zy 2 Zaw.nd Ze)
  (Zf (ZF (Zw Zdp Zdr (Zb 1) (Zn Zl ZL T.b_len PySem.boot_len (Za (Zb 0) Zd))) (Zj (Zy 2 Zaw.nd (Zbc (Zq (Zb 0) (Zb 1)) (Zfh Ze Ze)))) Zo)
  (Zf (ZF (Zw Zdp Zdr (Zb 2) (Zfh Ze Ze)) (Zf (Zy 3 Zaw.nd (Zbc (ZK (ZC (Zb 2) (ZK Ze (ZC (Zb 1) Ze))) Ze) (Zfh Ze Ze)))
  (Zj (Zy 2 Zaw.nd (Zbc (Zbo (ZK (Zb 3) (Zb 3)) (Zfh Ze Ze)) (Zfh Ze Ze))))) Zo)
  (Zj (Zm (Zb 2))))))
noncomputable abbrev Za3:Stmt:=top 62
theorem ZfS:FnScope ["_law_one","_law_other"] ["_law_one","_law_other"] (Zh Za3):=⟨rfl,rfl,rfl,by decide +kernel,rfl,by decide +kernel,by decide +kernel⟩
theorem ZfT {f:Addr} {fd:FuncData} (F:Fun K "_law_cross" "_law_cross" Za3 f fd) (T:Txt K mg):FnOk P w K mg base (CXE P w) 1 f fd ["_law_one","_law_other"] (spD K F_law_cross):=
 ZM F ZfS rfl rfl fun cdv A outer s H E hr θ=>(Zj (Zm (Zat (ZK (Zq (Zb 0) Ze) (Zq (Zb 1) Ze)) (ZK (Zq (Zb 0) Ze) (Zq (Zb 1) Ze)))))
noncomputable abbrev Za4:Stmt:=top 63
theorem ZfU:FnScope ["_law_x"] ["_law_x"] (Zh Za4):=⟨rfl,rfl,rfl,by decide +kernel,rfl,by decide +kernel,by decide +kernel⟩
theorem ZfV {f:Addr} {fd:FuncData} (F:Fun K "_law_whole" "_law_whole" Za4 f fd) (T:Txt K mg):FnOk P w K mg base (CXE P w) 1 f fd ["_law_x"] (spD K F_law_whole):=
 ZM F ZfU rfl rfl fun cdv A outer s H E hr θ=>(Zj (Zm (ZaE (Z7 Zh9 T.b_isinstance T.b_int Zie (Zb 0)) (ZbB (Zky (Z7 Zet T.b_isinstance T.b_bool Zf7 (Zb 0)))))))
noncomputable abbrev Zas:Stmt:=top 64
noncomputable def ZeO:Sv:=(ZN (ZaT (ZdC "tuple" (Zg 0)) (ZaT (e2 dEq (Zk bLen (Zc (Zg 0) aNil)) (eC (.int 2))) (ZaT (Zk F_law_whole (Zc (e2 dIx (Zg 0) (eC (.int 0))) aNil)) (Zk F_law_whole (Zc (e2 dIx (Zg 0) (eC (.int 1))) aNil))))))
noncomputable def F_law_is_pair:List D->Sto->Out D:=fnF ZeO 1 0
theorem Zec:FnScope ["_law_thing"] ["_law_thing"] (Zh Zas):=⟨rfl,rfl,rfl,by decide +kernel,rfl,by decide +kernel,by decide +kernel⟩
theorem Zed {f:Addr} {fd:FuncData} (F:Fun K "_law_is_pair" "_law_is_pair" Zas f fd) (T:Txt K mg) (C_law_whole:Cal P w K mg base "_law_whole" 1 1 F_law_whole):FnOk P w K mg base (CXE P w) 2 f fd ["_law_thing"] (spD K F_law_is_pair):=
 ZM F Zec rfl rfl fun cdv A outer s H E hr θ=>(Zj (Zm (ZaE (Z7 ZaO T.b_isinstance T.b_tuple Zab (Zb 0)) (ZaE (ZaN (ZI hr.units) Z3 (Zn Zl ZL T.b_len PySem.boot_len (Za (Zb 0) Zd)) Ze) (ZaE (Zi C_law_whole θ (hr.mono (by decide)) (Za (Zq (Zb 0) Ze) Zd)) (ZbB (Zi C_law_whole θ (hr.mono (by decide)) (Za (Zq (Zb 0) Ze) Zd))))))))
noncomputable abbrev ZaK:Stmt:=top 65
noncomputable def Zcb:Sv:=(Ze3 0 1 (Zc (Zg 1) (Zc (e2 dMod (Zg 0) (Zg 1)) aNil)))
noncomputable def Zdl:Sv:=(ZD (Z4 (gNm 0) (Zk bAbs (Zc (Zg 0) aNil)))
 (ZD (Z4 (gNm 1) (Zk bAbs (Zc (Zg 1) aNil)))
 (ZD (sWh (tv (e2 dGt (Zg 1) (eC (.int 0)))) Zcb)
 (ZN (Zg 0)))))
noncomputable def F_law_common:List D->Sto->Out D:=fnF Zdl 2 0
theorem Zbf:FnScope ["_law_one","_law_other"] ["_law_one","_law_other"] (Zh ZaK):=⟨rfl,rfl,rfl,by decide +kernel,rfl,by decide +kernel,by decide +kernel⟩
theorem ZeP {f:Addr} {fd:FuncData} (F:Fun K "_law_common" "_law_common" ZaK f fd) (T:Txt K mg):FnOk P w K mg base (CXE P w) 101 f fd ["_law_one","_law_other"] (spD K F_law_common):=
 ZM F Zbf rfl rfl fun cdv A outer s H E hr θ=>(Zf (Zy 0 Zbf.nd (Zn ZcF Zfi T.b_abs Zfm (Za (Zb 0) Zd)))
  (Zf (Zy 1 Zbf.nd (Zn ZcF Zfi T.b_abs Zfm (Za (Zb 1) Zd)))
  (Zf (ZdE θ.own (Zw Zlj Zlz (Zb 1) Ze) (Zj (ZcJ 0 1 (Zz hr (by decide)) Zbf.nd (Za (Zb 1) (Za (Zbc (Zb 0) (Zb 1)) Zd)))))
  (Zj (Zm (Zb 0))))))
noncomputable abbrev Zae:Stmt:=top 66
noncomputable def Zcv:Sv:=(ZD (Z4 (gNm 2) (Zk F_law_common (Zc (Zg 0) (Zc (Zg 1) aNil))))
 (ZD (sIf (tv (e2 dEq (Zg 2) (eC (.int 0)))) (ZN (Zao (Zc (eC (.int 1)) (Zc (eC (.int 0)) aNil)))) sNil)
 (ZN (Zao (Zc (e2 dDiv (Zg 0) (Zg 2)) (Zc (e2 dDiv (Zg 1) (Zg 2)) aNil))))))
noncomputable def F_law_straight:List D->Sto->Out D:=fnF Zcv 2 1
theorem Zcc:FnScope ["_law_x","_law_y","_law_part"] ["_law_x","_law_y"] (Zh Zae):=⟨rfl,rfl,rfl,by decide +kernel,rfl,by decide +kernel,by decide +kernel⟩
theorem Zd1 {f:Addr} {fd:FuncData} (F:Fun K "_law_straight" "_law_straight" Zae f fd) (T:Txt K mg) (C_law_common:Cal P w K mg base "_law_common" 101 2 F_law_common):FnOk P w K mg base (CXE P w) 102 f fd ["_law_x","_law_y"] (spD K F_law_straight):=
 ZM F Zcc rfl rfl fun cdv A outer s H E hr θ=>(Zf (Zy 2 Zcc.nd (Zi C_law_common θ (hr.mono (by decide)) (Za (Zb 0) (Za (Zb 1) Zd))))
  (Zf (ZF (Zw (ZI hr.units) Z3 (Zb 2) Ze) (Zj (Zm (Zx (Za Ze (Za Ze Zd))))) Zo)
  (Zj (Zm (Zx (Za (Zbo (Zb 0) (Zb 2)) (Za (Zbo (Zb 1) (Zb 2)) Zd)))))))
noncomputable abbrev Za5:Stmt:=top 67
noncomputable def Zcw:Sv:=(ZD (Z4 (gNm 4) (e2 dSub (e2 dMod (Zg 0) (e2 dAdd (e2 dMul (eC (.int 2)) (Zg 1)) (eC (.int 1)))) (Zg 1)))
 (ZD (Z4 (gNm 5) (e2 dSub (e2 dMod (e2 dDiv (Zg 0) (e2 dAdd (e2 dMul (eC (.int 2)) (Zg 1)) (eC (.int 1)))) (e2 dAdd (e2 dMul (eC (.int 2)) (Zg 1)) (eC (.int 1)))) (Zg 1)))
 (ZD (Z4 (gNm 0) (e2 dDiv (e2 dDiv (Zg 0) (e2 dAdd (e2 dMul (eC (.int 2)) (Zg 1)) (eC (.int 1)))) (e2 dAdd (e2 dMul (eC (.int 2)) (Zg 1)) (eC (.int 1)))))
 (Zds (Zij mApp (Zg 2) (Zc (Zk F_law_straight (Zc (Zg 4) (Zc (Zg 5) aNil))) aNil))))))
noncomputable def Zd2:Sv:=(ZD (Z4 (gNm 1) (e2 dIx (Zcn (Zc (eC (.int 30)) (Zc (eC (.int 30)) (Zc (eC (.int 30)) (Zc (eC (.int 30)) (Zc (eC (.int 30)) (Zc (eC (.int 30)) (Zc (eC (.int 30)) (Zc (eC (.int 200)) aNil))))))))) (e2 dMod (Zg 0) (eC (.int 8)))))
 (ZD (Z4 (gNm 0) (e2 dDiv (Zg 0) (eC (.int 8))))
 (ZD (Z4 (gNm 2) (Zcn aNil))
 (ZD (Zde (gNm 3) (Zc (eC (.int 2)) aNil) Zcw)
 (ZD (sIf (tv (e2 dLt (Zk F_law_cross (Zc (e2 dIx (Zg 2) (eC (.int 0))) (Zc (e2 dIx (Zg 2) (eC (.int 1))) aNil))) (eC (.int 0)))) (ZN (Zao (Zc (e2 dIx (Zg 2) (eC (.int 1))) (Zc (e2 dIx (Zg 2) (eC (.int 0))) aNil)))) sNil)
 (ZD (sIf (tv (e2 dEq (Zk F_law_cross (Zc (e2 dIx (Zg 2) (eC (.int 0))) (Zc (e2 dIx (Zg 2) (eC (.int 1))) aNil))) (eC (.int 0)))) (ZN (Zao (Zc (Zao (Zc (eC (.int 1)) (Zc (eC (.int 0)) aNil))) (Zc (Zao (Zc (eC (.int 0)) (Zc (eC (.int 1)) aNil))) aNil)))) sNil)
 (ZN (Zao (Zc (e2 dIx (Zg 2) (eC (.int 0))) (Zc (e2 dIx (Zg 2) (eC (.int 1))) aNil))))))))))
noncomputable def F_law_wedge:List D->Sto->Out D:=fnF Zd2 1 5
theorem Z8:FnScope ["_law_cell","_law_far","_law_two","_law_k","_law_x","_law_y"] ["_law_cell"] (Zh Za5):=⟨rfl,rfl,rfl,by decide +kernel,rfl,by decide +kernel,by decide +kernel⟩
theorem ZfW {f:Addr} {fd:FuncData} (F:Fun K "_law_wedge" "_law_wedge" Za5 f fd) (T:Txt K mg) (C_law_straight:Cal P w K mg base "_law_straight" 102 2 F_law_straight) (C_law_cross:Cal P w K mg base "_law_cross" 1 2 F_law_cross):FnOk P w K mg base (CXE P w) 103 f fd ["_law_cell"] (spD K F_law_wedge):=
 ZM F Z8 rfl rfl fun cdv A outer s H E hr θ=>(Zf (Zy 1 Z8.nd (Zq (Z2 (Za Ze (Za Ze (Za Ze (Za Ze (Za Ze (Za Ze (Za Ze (Za Ze Zd))))))))) (Zbc (Zb 0) Ze)))
  (Zf (Zy 0 Z8.nd (Zbo (Zb 0) Ze))
  (Zf (Zy 2 Z8.nd (Z2 Zd))
  (Zf (ZdF θ.own T.b_range (Za Ze Zd) (Zp 3 Z8.nd) (Zf (Zy 4 Z8.nd (Zat (Zbc (Zb 0) (ZC (ZK Ze (Zb 1)) Ze)) (Zb 1)))
  (Zf (Zy 5 Z8.nd (Zat (Zbc (Zbo (Zb 0) (ZC (ZK Ze (Zb 1)) Ze)) (ZC (ZK Ze (Zb 1)) Ze)) (Zb 1)))
  (Zf (Zy 0 Z8.nd (Zbo (Zbo (Zb 0) (ZC (ZK Ze (Zb 1)) Ze)) (ZC (ZK Ze (Zb 1)) Ze)))
  (Zj (Zb3 (Zb5 (Zb 2) (Zi C_law_straight θ (hr.mono (by decide)) (Za (Zb 4) (Za (Zb 5) Zd))))))))))
  (Zf (ZF (Zw Zdp Zdr (Zi C_law_cross θ (hr.mono (by decide)) (Za (Zq (Zb 2) Ze) (Za (Zq (Zb 2) Ze) Zd))) Ze) (Zj (Zm (Zx (Za (Zq (Zb 2) Ze) (Za (Zq (Zb 2) Ze) Zd))))) Zo)
  (Zf (ZF (Zw (ZI hr.units) Z3 (Zi C_law_cross θ (hr.mono (by decide)) (Za (Zq (Zb 2) Ze) (Za (Zq (Zb 2) Ze) Zd))) Ze) (Zj (Zm (Zx (Za (Zx (Za Ze (Za Ze Zd))) (Za (Zx (Za Ze (Za Ze Zd))) Zd))))) Zo)
  (Zj (Zm (Zx (Za (Zq (Zb 2) Ze) (Za (Zq (Zb 2) Ze) Zd)))))))))))
noncomputable abbrev ZbR:Stmt:=top 68
noncomputable def ZfX:Sv:=(ZN (e2 dAdd (e2 dMul (e2 dIx (Zg 0) (eC (.int 0))) (e2 dIx (Zg 1) (eC (.int 0)))) (e2 dMul (e2 dIx (Zg 0) (eC (.int 1))) (e2 dIx (Zg 1) (eC (.int 1))))))
noncomputable def F_law_dot:List D->Sto->Out D:=fnF ZfX 2 0
theorem Zhu:FnScope ["_law_one","_law_other"] ["_law_one","_law_other"] (Zh ZbR):=⟨rfl,rfl,rfl,by decide +kernel,rfl,by decide +kernel,by decide +kernel⟩
theorem Zhv {f:Addr} {fd:FuncData} (F:Fun K "_law_dot" "_law_dot" ZbR f fd) (T:Txt K mg):FnOk P w K mg base (CXE P w) 1 f fd ["_law_one","_law_other"] (spD K F_law_dot):=
 ZM F Zhu rfl rfl fun cdv A outer s H E hr θ=>(Zj (Zm (ZC (ZK (Zq (Zb 0) Ze) (Zq (Zb 1) Ze)) (ZK (Zq (Zb 0) Ze) (Zq (Zb 1) Ze)))))
noncomputable abbrev Zal:Stmt:=top 69
noncomputable def Zcd:Sv:=(sIf (tv (e2 dNe (Zk F_law_cross (Zc (e2 dIx (Zg 4) (Zg 5)) (Zc (e2 dIx (Zg 4) (e2 dAdd (Zg 5) (eC (.int 1)))) aNil))) (eC (.int 1)))) (ZN (eC (.bl false))) sNil)
noncomputable def Zce:Sv:=(sIf (Zb2 (tv (e2 dNe (Zk F_law_dot (Zc (e2 dIx (Zg 3) (Zg 5)) (Zc (e2 dIx (Zg 2) (Zg 5)) aNil))) (eC (.int 1)))) (tv (e2 dLt (Zk (Zev List.min?) (Zc (ZaM (iSq (Zg 4)) 1 [3,5] (gNm 0) (fun _ M=> .ok true M) (Zk F_law_dot (Zc (e2 dIx (Zg 1) (Zg 2)) (Zc (Zg 0) aNil)))) aNil)) (eC (.int 1))))) (ZN (eC (.bl false))) sNil)
noncomputable def Zdm:Sv:=(ZD (sIf (Zb2 (Zaa (tv (Zk F_law_is_pair (Zc (Zg 0) aNil)))) (Zb2 (Zaa (tv (Zk F_law_is_pair (Zc (Zg 1) aNil)))) (Zb2 (Zaa (tv (ZdC "list" (Zg 2)))) (Zaa (tv (ZdC "list" (Zg 3))))))) (ZN (eC (.bl false))) sNil)
 (ZD (sIf (Zb2 (tv (e2 dNe (Zk bLen (Zc (Zg 2) aNil)) (Zk bLen (Zc (Zg 3) aNil)))) (Zb2 (tv (e2 dNe (Zk F_law_common (Zc (e2 dIx (Zg 0) (eC (.int 0))) (Zc (e2 dIx (Zg 0) (eC (.int 1))) aNil))) (eC (.int 1)))) (tv (e2 dNe (Zk F_law_common (Zc (e2 dIx (Zg 1) (eC (.int 0))) (Zc (e2 dIx (Zg 1) (eC (.int 1))) aNil))) (eC (.int 1)))))) (ZN (eC (.bl false))) sNil)
 (ZD (sIf (Zb2 (tv (e2 dLe (Zk F_law_cross (Zc (Zg 0) (Zc (Zg 1) aNil))) (eC (.int 0)))) (Zaa (tv (Zk bAll (Zc (ZaM (iSq (e2 dAdd (Zg 2) (Zg 3))) 1 [] (gNm 0) (fun _ M=> .ok true M) (Zk F_law_is_pair (Zc (Zg 0) aNil))) aNil))))) (ZN (eC (.bl false))) sNil)
 (ZD (Z4 (gNm 4) (e2 dAdd (e2 dAdd (Zcn (Zc (Zg 0) aNil)) (Zg 2)) (Zcn (Zc (Zg 1) aNil))))
 (ZD (Zde (gNm 5) (Zc (e2 dSub (Zk bLen (Zc (Zg 4) aNil)) (eC (.int 1))) aNil) Zcd)
 (ZD (Zde (gNm 5) (Zc (Zk bLen (Zc (Zg 2) aNil)) aNil) Zce)
 (ZN (eC (.bl true)))))))))
noncomputable def F_law_stands:List D->Sto->Out D:=fnF Zdm 4 2
theorem Zbg:FnScope ["_law_u","_law_v","_law_rays","_law_some","_law_chain","_law_k"] ["_law_u","_law_v","_law_rays","_law_some"] (Zh Zal):=⟨rfl,rfl,rfl,by decide +kernel,rfl,by decide +kernel,by decide +kernel⟩
theorem ZeQ {f:Addr} {fd:FuncData} (F:Fun K "_law_stands" "_law_stands" Zal f fd) (T:Txt K mg) (C_law_is_pair:Cal P w K mg base "_law_is_pair" 2 1 F_law_is_pair) (C_law_common:Cal P w K mg base "_law_common" 101 2 F_law_common) (C_law_cross:Cal P w K mg base "_law_cross" 1 2 F_law_cross) (C_law_dot:Cal P w K mg base "_law_dot" 1 2 F_law_dot):FnOk P w K mg base (CXE P w) 102 f fd ["_law_u","_law_v","_law_rays","_law_some"] (spD K F_law_stands):=
 ZM F Zbg rfl rfl fun cdv A outer s H E hr θ=>(Zf (ZF (ZcH (ZaA (ZQ (ZG (Zi C_law_is_pair θ (hr.mono (by decide)) (Za (Zb 0) Zd)))) (ZaA (ZQ (ZG (Zi C_law_is_pair θ (hr.mono (by decide)) (Za (Zb 1) Zd)))) (ZaA (ZQ (ZG (Z7 Zay T.b_isinstance T.b_list Zaj (Zb 2)))) (ZaD (ZQ (ZG (Z7 Zay T.b_isinstance T.b_list Zaj (Zb 3))))))))) (Zj (Zm Zaz)) Zo)
  (Zf (ZF (ZcH (ZaA (Zw (Zah hr.units) Zbp (Zn Zl ZL T.b_len PySem.boot_len (Za (Zb 2) Zd)) (Zn Zl ZL T.b_len PySem.boot_len (Za (Zb 3) Zd))) (ZaA (Zw (Zah hr.units) Zbp (Zi C_law_common θ (hr.mono (by decide)) (Za (Zq (Zb 0) Ze) (Za (Zq (Zb 0) Ze) Zd))) Ze) (ZaD (Zw (Zah hr.units) Zbp (Zi C_law_common θ (hr.mono (by decide)) (Za (Zq (Zb 1) Ze) (Za (Zq (Zb 1) Ze) Zd))) Ze))))) (Zj (Zm Zaz)) Zo)
  (Zf (ZF (ZcH (ZaA (Zw ZhK Zh3 (Zi C_law_cross θ (hr.mono (by decide)) (Za (Zb 0) (Za (Zb 1) Zd))) Ze) (ZaD (ZQ (ZG (Zn (Zbe (Zz hr (by decide))) ZcN T.b_all ZcL (Za (ZO (Zei (N:=["_law_ray"]) (k:=1) (by decide +kernel) rfl (by decide +kernel) rfl) (ZaF (ZC (Zb 2) (Zb 3))) (fun _ _ _ _=>(Zp 0 (show List.Nodup (["_law_ray"]:List Str) by decide +kernel))) (fun _ _ _ _=>(Or.inl ⟨rfl,rfl⟩)) (fun _ _ _ _=>(Zi C_law_is_pair ZU (hr.mono (by decide)) (Za (Zb 0) Zd)))) Zd))))))) (Zj (Zm Zaz)) Zo)
  (Zf (Zy 4 Zbg.nd (ZC (ZC (Z2 (Za (Zb 0) Zd)) (Zb 2)) (Z2 (Za (Zb 1) Zd))))
  (Zf (ZdF θ.own T.b_range (Za (Zat (Zn Zl ZL T.b_len PySem.boot_len (Za (Zb 4) Zd)) Ze) Zd) (Zp 5 Zbg.nd) (Zj (ZF (Zw (Zah hr.units) Zbp (Zi C_law_cross θ (hr.mono (by decide)) (Za (Zq (Zb 4) (Zb 5)) (Za (Zq (Zb 4) (ZC (Zb 5) Ze)) Zd))) Ze) (Zj (Zm Zaz)) Zo)))
  (Zf (ZdF θ.own T.b_range (Za (Zn Zl ZL T.b_len PySem.boot_len (Za (Zb 2) Zd)) Zd) (Zp 5 Zbg.nd) (Zj (ZF (ZcH (ZaA (Zw (Zah hr.units) Zbp (Zi C_law_dot θ (hr.mono (by decide)) (Za (Zq (Zb 3) (Zb 5)) (Za (Zq (Zb 2) (Zb 5)) Zd))) Ze) (ZaD (Zw Zdp Zdr (Zn (Zir (Zz hr (by decide))) ZlM T.b_min ZkH (Za (ZO (ZlE (XN:=["_law_u","_law_v","_law_rays","_law_some","_law_chain","_law_k"]) (dn:=(Zh Zal).names) (N:=["_law_ray","_law_some","_law_k"]) (k:=1) (fr:=[3,5]) rfl rfl rfl rfl (by decide +kernel)) (ZaF (Zb 4)) (fun _ _ _ _=>(Zp 0 (show List.Nodup (["_law_ray","_law_some","_law_k"]:List Str) by decide +kernel))) (fun _ _ _ _=>(Or.inl ⟨rfl,rfl⟩)) (fun _ _ _ _=>(Zi C_law_dot ZU (hr.mono (by decide)) (Za (Zq (Zb 1) (Zb 2)) (Za (Zb 0) Zd))))) Zd)) Ze)))) (Zj (Zm Zaz)) Zo)))
  (Zj (Zm Zaz))))))))
noncomputable abbrev ZW:Stmt:=top 70
noncomputable def Zb0:Sv:=(ZD (sIf (tv (e2 dEq (Zg 4) (eC (.int 10)))) (ZN (Zao (Zc (Zk bList (Zc (Zg 0) aNil)) (Zc (Zg 1) (Zc (Zg 2) (Zc (Zg 3) aNil)))))) sNil)
 (ZD (sIf (tv (e2 dEq (Zg 4) (eC (.int 11)))) (ZN (Zao (Zc (Zg 0) (Zc (Zk bList (Zc (Zg 1) aNil)) (Zc (Zg 2) (Zc (Zg 3) aNil)))))) sNil)
 (ZD (Z4 (gNm 6) (e2 dMod (Zg 5) (Zk bMax (Zc (eC (.int 1)) (Zc (Zk bLen (Zc (Zg 2) aNil)) aNil)))))
 (ZD (sIf (ZcX (tv (e2 dEq (Zg 4) (eC (.int 12)))) (tv (e2 dNe (Zg 2) (Zcn aNil)))) (ZN (Zao (Zc (Zg 0) (Zc (Zg 1) (Zc (e2 dAdd (e2 dAdd (eSl (Zg 2) oNo (oSo (Zg 6))) (Zcn (Zc (Zk bList (Zc (e2 dIx (Zg 2) (Zg 6)) aNil)) aNil))) (eSl (Zg 2) (oSo (e2 dAdd (Zg 6) (eC (.int 1)))) oNo)) (Zc (Zg 3) aNil)))))) sNil)
 (ZD (sIf (ZcX (tv (e2 dEq (Zg 4) (eC (.int 13)))) (tv (e2 dNe (Zg 2) (Zcn aNil)))) (ZD (Z4 (gNm 7) (Zk bTup (Zc (ZaM (iSq (e2 dIx (Zg 2) (Zg 6))) 1 [] (gNm 0) (fun _ M=> .ok true M) (e2 dIx (Zcn (Zc (Zg 0) (Zc (eC (.bl true)) aNil))) (Zk bInt (Zc (e2 dEq (Zg 0) (eC (.int 1))) aNil)))) aNil)))
 (ZN (Zao (Zc (Zg 0) (Zc (Zg 1) (Zc (e2 dAdd (e2 dAdd (eSl (Zg 2) oNo (oSo (Zg 6))) (Zcn (Zc (Zg 7) aNil))) (eSl (Zg 2) (oSo (e2 dAdd (Zg 6) (eC (.int 1)))) oNo)) (Zc (Zg 3) aNil))))))) sNil)
 (ZD (sIf (ZcX (tv (e2 dEq (Zg 4) (eC (.int 14)))) (tv (e2 dNe (Zg 3) (Zcn aNil)))) (ZN (Zao (Zc (Zg 0) (Zc (Zg 1) (Zc (Zg 2) (Zc (e2 dAdd (e2 dAdd (eSl (Zg 3) oNo (oSo (Zg 6))) (Zcn (Zc (Zk bList (Zc (e2 dIx (Zg 3) (Zg 6)) aNil)) aNil))) (eSl (Zg 3) (oSo (e2 dAdd (Zg 6) (eC (.int 1)))) oNo)) aNil)))))) sNil)
 (ZN (Zao (Zc (Zg 0) (Zc (Zg 1) (Zc (Zg 2) (Zc (Zg 3) aNil))))))))))))
noncomputable def F_law_other_kind:List D->Sto->Out D:=fnF Zb0 6 2
theorem Za6:FnScope ["_law_u","_law_v","_law_rays","_law_some","_law_kind","_law_cell","_law_at","_law_new"] ["_law_u","_law_v","_law_rays","_law_some","_law_kind","_law_cell"] (Zh ZW):=⟨rfl,rfl,rfl,by decide +kernel,rfl,by decide +kernel,by decide +kernel⟩
theorem Zc9 {f:Addr} {fd:FuncData} (F:Fun K "_law_other_kind" "_law_other_kind" ZW f fd) (T:Txt K mg):FnOk P w K mg base (CXE P w) 101 f fd ["_law_u","_law_v","_law_rays","_law_some","_law_kind","_law_cell"] (spD K F_law_other_kind):=
 ZM F Za6 rfl rfl fun cdv A outer s H E hr θ=>(Zf (ZF (Zw (ZI hr.units) Z3 (Zb 4) Ze) (Zj (Zm (Zx (Za (Zai ZbA Zes T.b_list Zaj (Za (Zb 0) Zd)) (Za (Zb 1) (Za (Zb 2) (Za (Zb 3) Zd))))))) Zo)
  (Zf (ZF (Zw (ZI hr.units) Z3 (Zb 4) Ze) (Zj (Zm (Zx (Za (Zb 0) (Za (Zai ZbA Zes T.b_list Zaj (Za (Zb 1) Zd)) (Za (Zb 2) (Za (Zb 3) Zd))))))) Zo)
  (Zf (Zy 6 Za6.nd (Zbc (Zb 5) (Zn (Ze8 (Zz hr (by decide))) ZkB T.b_max ZkG (Za Ze (Za (Zn Zl ZL T.b_len PySem.boot_len (Za (Zb 2) Zd)) Zd)))))
  (Zf (ZF (ZcH (ZcG (Zw (ZI hr.units) Z3 (Zb 4) Ze) (ZbS (Zw (Zah hr.units) Zbp (Zb 2) (Z2 Zd))))) (Zj (Zm (Zx (Za (Zb 0) (Za (Zb 1) (Za (ZC (ZC (Zby (Zb 2) Zbw (Zbx (Zb 6))) (Z2 (Za (Zai ZbA Zes T.b_list Zaj (Za (Zq (Zb 2) (Zb 6)) Zd)) Zd))) (Zby (Zb 2) (Zbx (ZC (Zb 6) Ze)) Zbw)) (Za (Zb 3) Zd))))))) Zo)
  (Zf (ZF (ZcH (ZcG (Zw (ZI hr.units) Z3 (Zb 4) Ze) (ZbS (Zw (Zah hr.units) Zbp (Zb 2) (Z2 Zd))))) (Zf (Zy 7 Za6.nd (Zai Zan Zek T.b_tuple Zab (Za (ZO (Zei (N:=["_law_x"]) (k:=1) (by decide +kernel) rfl (by decide +kernel) rfl) (ZaF (Zq (Zb 2) (Zb 6))) (fun _ _ _ _=>(Zp 0 (show List.Nodup (["_law_x"]:List Str) by decide +kernel))) (fun _ _ _ _=>(Or.inl ⟨rfl,rfl⟩)) (fun _ _ _ _=>(Zq (Z2 (Za (Zb 0) (Za Zaz Zd))) (Zai ZhN Znv T.b_int Zie (Za (ZaN (ZI hr.units) Z3 (Zb 0) Ze) Zd))))) Zd)))
  (Zj (Zm (Zx (Za (Zb 0) (Za (Zb 1) (Za (ZC (ZC (Zby (Zb 2) Zbw (Zbx (Zb 6))) (Z2 (Za (Zb 7) Zd))) (Zby (Zb 2) (Zbx (ZC (Zb 6) Ze)) Zbw)) (Za (Zb 3) Zd)))))))) Zo)
  (Zf (ZF (ZcH (ZcG (Zw (ZI hr.units) Z3 (Zb 4) Ze) (ZbS (Zw (Zah hr.units) Zbp (Zb 3) (Z2 Zd))))) (Zj (Zm (Zx (Za (Zb 0) (Za (Zb 1) (Za (Zb 2) (Za (ZC (ZC (Zby (Zb 3) Zbw (Zbx (Zb 6))) (Z2 (Za (Zai ZbA Zes T.b_list Zaj (Za (Zq (Zb 3) (Zb 6)) Zd)) Zd))) (Zby (Zb 3) (Zbx (ZC (Zb 6) Ze)) Zbw)) Zd))))))) Zo)
  (Zj (Zm (Zx (Za (Zb 0) (Za (Zb 1) (Za (Zb 2) (Za (Zb 3) Zd)))))))))))))
noncomputable abbrev ZaL:Stmt:=top 71
noncomputable def Zdn:Sv:=(ZD (Z4 (gNm 5) (e2 dMod (Zg 4) (eC (.int 18))))
 (ZD (Z4 (gNm 4) (e2 dDiv (Zg 4) (eC (.int 18))))
 (ZD (Z4 (gNm 6) (e2 dMod (Zg 4) (e2 dAdd (Zk bLen (Zc (Zg 2) aNil)) (eC (.int 1)))))
 (ZD (sIf (tv (e2 dEq (Zg 5) (eC (.int 0)))) (ZD (Z4 (gNm 3) (e2 dAdd (eSl (Zg 3) oNo (oSo (Zg 6))) (eSl (Zg 3) (oSo (e2 dAdd (Zg 6) (eC (.int 1)))) oNo)))
 (ZN (Zao (Zc (Zg 0) (Zc (Zg 1) (Zc (e2 dAdd (eSl (Zg 2) oNo (oSo (Zg 6))) (eSl (Zg 2) (oSo (e2 dAdd (Zg 6) (eC (.int 1)))) oNo)) (Zc (Zg 3) aNil))))))) sNil)
 (ZD (sIf (tv (e2 dEq (Zg 5) (eC (.int 1)))) (ZD (Z4 (gNm 7) (e2 dAdd (e2 dAdd (Zcn (Zc (Zg 0) aNil)) (Zg 2)) (Zcn (Zc (Zg 1) aNil))))
 (ZD (Z4 (gNm 8) (e2 dIx (Zg 7) (Zg 6)))
 (ZD (Z4 (gNm 9) (e2 dIx (Zg 7) (e2 dAdd (Zg 6) (eC (.int 1)))))
 (ZD (Z4 (gNm 10) (Zao (Zc (e2 dAdd (e2 dIx (Zg 8) (eC (.int 0))) (e2 dIx (Zg 9) (eC (.int 0)))) (Zc (e2 dAdd (e2 dIx (Zg 8) (eC (.int 1))) (e2 dIx (Zg 9) (eC (.int 1)))) aNil))))
 (ZD (Z4 (gNm 3) (e2 dAdd (e2 dAdd (eSl (Zg 3) oNo (oSo (Zg 6))) (Zcn (Zc (Zao (Zc (eC (.int 1)) (Zc (eC (.int 1)) aNil))) aNil))) (eSl (Zg 3) (oSo (Zg 6)) oNo)))
 (ZN (Zao (Zc (Zg 0) (Zc (Zg 1) (Zc (e2 dAdd (e2 dAdd (eSl (Zg 2) oNo (oSo (Zg 6))) (Zcn (Zc (Zg 10) aNil))) (eSl (Zg 2) (oSo (Zg 6)) oNo)) (Zc (Zg 3) aNil))))))))))) sNil)
 (ZD (sIf (ZcX (tv (e2 dEq (Zg 5) (eC (.int 2)))) (tv (e2 dNe (Zg 3) (Zcn aNil)))) (ZD (Z4 (gNm 11) (e2 dIx (Zg 3) (e2 dMod (Zg 6) (Zk bLen (Zc (Zg 3) aNil)))))
 (ZD (Z4 (gNm 10) (Zao (Zc (e2 dSub (e2 dAdd (e2 dIx (Zg 11) (eC (.int 0))) (e2 dMod (e2 dDiv (Zg 4) (eC (.int 100))) (eC (.int 3)))) (eC (.int 1))) (Zc (e2 dSub (e2 dAdd (e2 dIx (Zg 11) (eC (.int 1))) (e2 dMod (e2 dDiv (Zg 4) (eC (.int 300))) (eC (.int 3)))) (eC (.int 1))) aNil))))
 (ZD (Z4 (gNm 6) (e2 dMod (Zg 6) (Zk bLen (Zc (Zg 3) aNil))))
 (ZN (Zao (Zc (Zg 0) (Zc (Zg 1) (Zc (Zg 2) (Zc (e2 dAdd (e2 dAdd (eSl (Zg 3) oNo (oSo (Zg 6))) (Zcn (Zc (Zg 10) aNil))) (eSl (Zg 3) (oSo (e2 dAdd (Zg 6) (eC (.int 1)))) oNo)) aNil))))))))) sNil)
 (ZD (sIf (tv (e2 dEq (Zg 5) (eC (.int 3)))) (ZN (Zao (Zc (Zg 0) (Zc (Zg 1) (Zc (Zg 2) (Zc (Zk bLR (Zc (Zg 3) aNil)) aNil)))))) sNil)
 (ZD (sIf (tv (e2 dEq (Zg 5) (eC (.int 4)))) (ZN (Zao (Zc (Zg 0) (Zc (Zg 1) (Zc (Zg 2) (Zc (eSl (Zg 3) (oSo (eC (.int 1))) oNo) aNil)))))) sNil)
 (ZD (sIf (tv (e2 dEq (Zg 5) (eC (.int 5)))) (ZN (Zao (Zc (Zg 0) (Zc (Zg 1) (Zc (Zk bTup (Zc (Zg 2) aNil)) (Zc (Zg 3) aNil)))))) sNil)
 (ZD (sIf (tv (e2 dEq (Zg 5) (eC (.int 6)))) (ZN (Zao (Zc (Zg 1) (Zc (Zg 0) (Zc (Zg 2) (Zc (Zg 3) aNil)))))) sNil)
 (ZD (sIf (tv (e2 dEq (Zg 5) (eC (.int 7)))) (ZN (Zao (Zc (Zg 0) (Zc (Zao (Zc (e2 dSub (eC (.int 0)) (e2 dIx (Zg 1) (eC (.int 0)))) (Zc (e2 dSub (eC (.int 0)) (e2 dIx (Zg 1) (eC (.int 1)))) aNil))) (Zc (Zg 2) (Zc (Zg 3) aNil)))))) sNil)
 (ZD (sIf (tv (e2 dEq (Zg 5) (eC (.int 8)))) (ZN (Zao (Zc (Zg 0) (Zc (Zg 1) (Zc (Zg 2) (Zc (ZaM (iSq (Zg 3)) 1 [] (gNm 0) (fun _ M=> .ok true M) (Zao (Zc (e2 dIx (Zg 0) (eC (.int 0))) (Zc (eC (.bl true)) aNil)))) aNil)))))) sNil)
 (ZD (sIf (tv (e2 dEq (Zg 5) (eC (.int 9)))) (ZD (Z4 (gNm 12) (Zcn (Zc (Zao (Zc (eC (.int 0)) (Zc (eC (.int 1)) aNil))) (Zc (Zao (Zc (ZgC (eC (.int 1))) (Zc (ZgC (eC (.int 1))) aNil))) (Zc (Zao (Zc (eC (.int 1)) (Zc (eC (.int 0)) aNil))) (Zc (Zao (Zc (eC (.int 0)) (Zc (eC (.int 1)) aNil))) (Zc (Zao (Zc (ZgC (eC (.int 1))) (Zc (ZgC (eC (.int 1))) aNil))) aNil)))))))
 (ZN (Zao (Zc (Zao (Zc (eC (.int 1)) (Zc (eC (.int 0)) aNil))) (Zc (Zao (Zc (eC (.int 0)) (Zc (eC (.int 1)) aNil))) (Zc (e2 dAdd (Zg 12) (Zcn (Zc (Zao (Zc (eC (.int 1)) (Zc (eC (.int 0)) aNil))) aNil))) (Zc (e2 dAdd (ZaM (iSq (Zg 12)) 1 [] (gNm 0) (fun _ M=> .ok true M) (Zao (Zc (eC (.int 1)) (Zc (eC (.int 0)) aNil)))) (Zcn (Zc (Zao (Zc (eC (.int 1)) (Zc (eC (.int 0)) aNil))) aNil))) aNil))))))) sNil)
 (ZN (Zk F_law_other_kind (Zc (Zg 0) (Zc (Zg 1) (Zc (Zg 2) (Zc (Zg 3) (Zc (Zg 5) (Zc (Zg 4) aNil)))))))))))))))))))))
noncomputable def F_law_spoilt:List D->Sto->Out D:=fnF Zdn 5 8
theorem ZE:FnScope ["_law_u","_law_v","_law_rays","_law_some","_law_cell","_law_kind","_law_at","_law_chain","_law_one","_law_behind","_law_new","_law_show","_law_laps"] ["_law_u","_law_v","_law_rays","_law_some","_law_cell"] (Zh ZaL):=⟨rfl,rfl,rfl,by decide +kernel,rfl,by decide +kernel,by decide +kernel⟩
theorem ZeR {f:Addr} {fd:FuncData} (F:Fun K "_law_spoilt" "_law_spoilt" ZaL f fd) (T:Txt K mg) (C_law_other_kind:Cal P w K mg base "_law_other_kind" 101 6 F_law_other_kind):FnOk P w K mg base (CXE P w) 102 f fd ["_law_u","_law_v","_law_rays","_law_some","_law_cell"] (spD K F_law_spoilt):=
 ZM F ZE rfl rfl fun cdv A outer s H E hr θ=>(Zf (Zy 5 ZE.nd (Zbc (Zb 4) Ze))
  (Zf (Zy 4 ZE.nd (Zbo (Zb 4) Ze))
  (Zf (Zy 6 ZE.nd (Zbc (Zb 4) (ZC (Zn Zl ZL T.b_len PySem.boot_len (Za (Zb 2) Zd)) Ze)))
  (Zf (ZF (Zw (ZI hr.units) Z3 (Zb 5) Ze) (Zf (Zy 3 ZE.nd (ZC (Zby (Zb 3) Zbw (Zbx (Zb 6))) (Zby (Zb 3) (Zbx (ZC (Zb 6) Ze)) Zbw)))
  (Zj (Zm (Zx (Za (Zb 0) (Za (Zb 1) (Za (ZC (Zby (Zb 2) Zbw (Zbx (Zb 6))) (Zby (Zb 2) (Zbx (ZC (Zb 6) Ze)) Zbw)) (Za (Zb 3) Zd)))))))) Zo)
  (Zf (ZF (Zw (ZI hr.units) Z3 (Zb 5) Ze) (Zf (Zy 7 ZE.nd (ZC (ZC (Z2 (Za (Zb 0) Zd)) (Zb 2)) (Z2 (Za (Zb 1) Zd))))
  (Zf (Zy 8 ZE.nd (Zq (Zb 7) (Zb 6)))
  (Zf (Zy 9 ZE.nd (Zq (Zb 7) (ZC (Zb 6) Ze)))
  (Zf (Zy 10 ZE.nd (Zx (Za (ZC (Zq (Zb 8) Ze) (Zq (Zb 9) Ze)) (Za (ZC (Zq (Zb 8) Ze) (Zq (Zb 9) Ze)) Zd))))
  (Zf (Zy 3 ZE.nd (ZC (ZC (Zby (Zb 3) Zbw (Zbx (Zb 6))) (Z2 (Za (Zx (Za Ze (Za Ze Zd))) Zd))) (Zby (Zb 3) (Zbx (Zb 6)) Zbw)))
  (Zj (Zm (Zx (Za (Zb 0) (Za (Zb 1) (Za (ZC (ZC (Zby (Zb 2) Zbw (Zbx (Zb 6))) (Z2 (Za (Zb 10) Zd))) (Zby (Zb 2) (Zbx (Zb 6)) Zbw)) (Za (Zb 3) Zd)))))))))))) Zo)
  (Zf (ZF (ZcH (ZcG (Zw (ZI hr.units) Z3 (Zb 5) Ze) (ZbS (Zw (Zah hr.units) Zbp (Zb 3) (Z2 Zd))))) (Zf (Zy 11 ZE.nd (Zq (Zb 3) (Zbc (Zb 6) (Zn Zl ZL T.b_len PySem.boot_len (Za (Zb 3) Zd)))))
  (Zf (Zy 10 ZE.nd (Zx (Za (Zat (ZC (Zq (Zb 11) Ze) (Zbc (Zbo (Zb 4) Ze) Ze)) Ze) (Za (Zat (ZC (Zq (Zb 11) Ze) (Zbc (Zbo (Zb 4) Ze) Ze)) Ze) Zd))))
  (Zf (Zy 6 ZE.nd (Zbc (Zb 6) (Zn Zl ZL T.b_len PySem.boot_len (Za (Zb 3) Zd))))
  (Zj (Zm (Zx (Za (Zb 0) (Za (Zb 1) (Za (Zb 2) (Za (ZC (ZC (Zby (Zb 3) Zbw (Zbx (Zb 6))) (Z2 (Za (Zb 10) Zd))) (Zby (Zb 3) (Zbx (ZC (Zb 6) Ze)) Zbw)) Zd)))))))))) Zo)
  (Zf (ZF (Zw (ZI hr.units) Z3 (Zb 5) Ze) (Zj (Zm (Zx (Za (Zb 0) (Za (Zb 1) (Za (Zb 2) (Za (Zql (hr.hd (by decide)) T.b_list T.b_reversed (Za (Zb 3) Zd)) Zd))))))) Zo)
  (Zf (ZF (Zw (ZI hr.units) Z3 (Zb 5) Ze) (Zj (Zm (Zx (Za (Zb 0) (Za (Zb 1) (Za (Zb 2) (Za (Zby (Zb 3) (Zbx Ze) Zbw) Zd))))))) Zo)
  (Zf (ZF (Zw (ZI hr.units) Z3 (Zb 5) Ze) (Zj (Zm (Zx (Za (Zb 0) (Za (Zb 1) (Za (Zai Zan Zek T.b_tuple Zab (Za (Zb 2) Zd)) (Za (Zb 3) Zd))))))) Zo)
  (Zf (ZF (Zw (ZI hr.units) Z3 (Zb 5) Ze) (Zj (Zm (Zx (Za (Zb 1) (Za (Zb 0) (Za (Zb 2) (Za (Zb 3) Zd))))))) Zo)
  (Zf (ZF (Zw (ZI hr.units) Z3 (Zb 5) Ze) (Zj (Zm (Zx (Za (Zb 0) (Za (Zx (Za (Zat Ze (Zq (Zb 1) Ze)) (Za (Zat Ze (Zq (Zb 1) Ze)) Zd))) (Za (Zb 2) (Za (Zb 3) Zd))))))) Zo)
  (Zf (ZF (Zw (ZI hr.units) Z3 (Zb 5) Ze) (Zj (Zm (Zx (Za (Zb 0) (Za (Zb 1) (Za (Zb 2) (Za (ZO (Zei (N:=["_law_show"]) (k:=1) (by decide +kernel) rfl (by decide +kernel) rfl) (ZaF (Zb 3)) (fun _ _ _ _=>(Zp 0 (show List.Nodup (["_law_show"]:List Str) by decide +kernel))) (fun _ _ _ _=>(Or.inl ⟨rfl,rfl⟩)) (fun _ _ _ _=>(Zx (Za (Zq (Zb 0) Ze) (Za Zaz Zd))))) Zd))))))) Zo)
  (Zf (ZF (Zw (ZI hr.units) Z3 (Zb 5) Ze) (Zf (Zy 12 ZE.nd (Z2 (Za (Zx (Za Ze (Za Ze Zd))) (Za (Zx (Za (Zcr Ze) (Za (Zcr Ze) Zd))) (Za (Zx (Za Ze (Za Ze Zd))) (Za (Zx (Za Ze (Za Ze Zd))) (Za (Zx (Za (Zcr Ze) (Za (Zcr Ze) Zd))) Zd)))))))
  (Zj (Zm (Zx (Za (Zx (Za Ze (Za Ze Zd))) (Za (Zx (Za Ze (Za Ze Zd))) (Za (ZC (Zb 12) (Z2 (Za (Zx (Za Ze (Za Ze Zd))) Zd))) (Za (ZC (ZO (Zei (N:=["_law_ray"]) (k:=1) (by decide +kernel) rfl (by decide +kernel) rfl) (ZaF (Zb 12)) (fun _ _ _ _=>(Zp 0 (show List.Nodup (["_law_ray"]:List Str) by decide +kernel))) (fun _ _ _ _=>(Or.inl ⟨rfl,rfl⟩)) (fun _ _ _ _=>(Zx (Za Ze (Za Ze Zd))))) (Z2 (Za (Zx (Za Ze (Za Ze Zd))) Zd))) Zd)))))))) Zo)
  (Zj (Zm (Zi C_law_other_kind θ (hr.mono (by decide)) (Za (Zb 0) (Za (Zb 1) (Za (Zb 2) (Za (Zb 3) (Za (Zb 5) (Za (Zb 4) Zd))))))))))))))))))))))
noncomputable abbrev Zaf:Stmt:=top 72
noncomputable def Zu (F_law_copy:List D->Sto->Out D):Sv:=(ZD (sIf (tv (ZdC "list" (Zg 0))) (ZN (ZaM (iSq (Zg 0)) 1 [] (gNm 0) (fun _ M=> .ok true M) (Zk F_law_copy (Zc (Zg 0) aNil)))) sNil)
 (ZD (sIf (tv (ZdC "tuple" (Zg 0))) (ZN (Zk bTup (Zc (ZaM (iSq (Zg 0)) 1 [] (gNm 0) (fun _ M=> .ok true M) (Zk F_law_copy (Zc (Zg 0) aNil))) aNil))) sNil)
 (ZN (Zg 0))))
noncomputable def F_law_copy_0:List D->Sto->Out D:=fnF (ZD sBad (ZD sBad sBad)) 1 0
noncomputable def F_law_copy_1:List D->Sto->Out D:=fnF (Zu F_law_copy_0) 1 0
noncomputable def F_law_copy_2:List D->Sto->Out D:=fnF (Zu F_law_copy_1) 1 0
noncomputable def F_law_copy_3:List D->Sto->Out D:=fnF (Zu F_law_copy_2) 1 0
noncomputable def F_law_copy:List D->Sto->Out D:=fnF (Zu F_law_copy_3) 1 0
theorem Zbu:FnScope ["_law_thing"] ["_law_thing"] (Zh Zaf):=⟨rfl,rfl,rfl,by decide +kernel,rfl,by decide +kernel,by decide +kernel⟩
theorem ZeS {f:Addr} {fd:FuncData} (F:Fun K "_law_copy" "_law_copy" Zaf f fd) (T:Txt K mg):FnOk P w K mg base (CXE P w) 1 f fd ["_law_thing"] (spD K F_law_copy_0):=
 ZM F Zbu rfl rfl fun cdv A outer s H E hr θ=>(Zf Zcs (Zf Zcs (Zj Zcs)))
theorem ZeT {f:Addr} {fd:FuncData} (F:Fun K "_law_copy" "_law_copy" Zaf f fd) (T:Txt K mg) (C_law_copy:Cal P w K mg base "_law_copy" 1 1 F_law_copy_0):FnOk P w K mg base (CXE P w) 2 f fd ["_law_thing"] (spD K F_law_copy_1):=
 ZM F Zbu rfl rfl fun cdv A outer s H E hr θ=>(Zf (ZF (ZG (Z7 Zay T.b_isinstance T.b_list Zaj (Zb 0))) (Zj (Zm (ZO (Zei (N:=["_law_one"]) (k:=1) (by decide +kernel) rfl (by decide +kernel) rfl) (ZaF (Zb 0)) (fun _ _ _ _=>(Zp 0 (show List.Nodup (["_law_one"]:List Str) by decide +kernel))) (fun _ _ _ _=>(Or.inl ⟨rfl,rfl⟩)) (fun _ _ _ _=>(Zi C_law_copy ZU (hr.mono (by decide)) (Za (Zb 0) Zd)))))) Zo)
  (Zf (ZF (ZG (Z7 ZaO T.b_isinstance T.b_tuple Zab (Zb 0))) (Zj (Zm (Zai Zan Zek T.b_tuple Zab (Za (ZO (Zei (N:=["_law_one"]) (k:=1) (by decide +kernel) rfl (by decide +kernel) rfl) (ZaF (Zb 0)) (fun _ _ _ _=>(Zp 0 (show List.Nodup (["_law_one"]:List Str) by decide +kernel))) (fun _ _ _ _=>(Or.inl ⟨rfl,rfl⟩)) (fun _ _ _ _=>(Zi C_law_copy ZU (hr.mono (by decide)) (Za (Zb 0) Zd)))) Zd)))) Zo)
  (Zj (Zm (Zb 0)))))
theorem ZeU {f:Addr} {fd:FuncData} (F:Fun K "_law_copy" "_law_copy" Zaf f fd) (T:Txt K mg) (C_law_copy:Cal P w K mg base "_law_copy" 2 1 F_law_copy_1):FnOk P w K mg base (CXE P w) 3 f fd ["_law_thing"] (spD K F_law_copy_2):=
 ZM F Zbu rfl rfl fun cdv A outer s H E hr θ=>(Zf (ZF (ZG (Z7 Zay T.b_isinstance T.b_list Zaj (Zb 0))) (Zj (Zm (ZO (Zei (N:=["_law_one"]) (k:=1) (by decide +kernel) rfl (by decide +kernel) rfl) (ZaF (Zb 0)) (fun _ _ _ _=>(Zp 0 (show List.Nodup (["_law_one"]:List Str) by decide +kernel))) (fun _ _ _ _=>(Or.inl ⟨rfl,rfl⟩)) (fun _ _ _ _=>(Zi C_law_copy ZU (hr.mono (by decide)) (Za (Zb 0) Zd)))))) Zo)
  (Zf (ZF (ZG (Z7 ZaO T.b_isinstance T.b_tuple Zab (Zb 0))) (Zj (Zm (Zai Zan Zek T.b_tuple Zab (Za (ZO (Zei (N:=["_law_one"]) (k:=1) (by decide +kernel) rfl (by decide +kernel) rfl) (ZaF (Zb 0)) (fun _ _ _ _=>(Zp 0 (show List.Nodup (["_law_one"]:List Str) by decide +kernel))) (fun _ _ _ _=>(Or.inl ⟨rfl,rfl⟩)) (fun _ _ _ _=>(Zi C_law_copy ZU (hr.mono (by decide)) (Za (Zb 0) Zd)))) Zd)))) Zo)
  (Zj (Zm (Zb 0)))))
theorem ZeV {f:Addr} {fd:FuncData} (F:Fun K "_law_copy" "_law_copy" Zaf f fd) (T:Txt K mg) (C_law_copy:Cal P w K mg base "_law_copy" 3 1 F_law_copy_2):FnOk P w K mg base (CXE P w) 4 f fd ["_law_thing"] (spD K F_law_copy_3):=
 ZM F Zbu rfl rfl fun cdv A outer s H E hr θ=>(Zf (ZF (ZG (Z7 Zay T.b_isinstance T.b_list Zaj (Zb 0))) (Zj (Zm (ZO (Zei (N:=["_law_one"]) (k:=1) (by decide +kernel) rfl (by decide +kernel) rfl) (ZaF (Zb 0)) (fun _ _ _ _=>(Zp 0 (show List.Nodup (["_law_one"]:List Str) by decide +kernel))) (fun _ _ _ _=>(Or.inl ⟨rfl,rfl⟩)) (fun _ _ _ _=>(Zi C_law_copy ZU (hr.mono (by decide)) (Za (Zb 0) Zd)))))) Zo)
  (Zf (ZF (ZG (Z7 ZaO T.b_isinstance T.b_tuple Zab (Zb 0))) (Zj (Zm (Zai Zan Zek T.b_tuple Zab (Za (ZO (Zei (N:=["_law_one"]) (k:=1) (by decide +kernel) rfl (by decide +kernel) rfl) (ZaF (Zb 0)) (fun _ _ _ _=>(Zp 0 (show List.Nodup (["_law_one"]:List Str) by decide +kernel))) (fun _ _ _ _=>(Or.inl ⟨rfl,rfl⟩)) (fun _ _ _ _=>(Zi C_law_copy ZU (hr.mono (by decide)) (Za (Zb 0) Zd)))) Zd)))) Zo)
  (Zj (Zm (Zb 0)))))
theorem ZeW {f:Addr} {fd:FuncData} (F:Fun K "_law_copy" "_law_copy" Zaf f fd) (T:Txt K mg) (C_law_copy:Cal P w K mg base "_law_copy" 4 1 F_law_copy_3):FnOk P w K mg base (CXE P w) 5 f fd ["_law_thing"] (spD K F_law_copy):=
 ZM F Zbu rfl rfl fun cdv A outer s H E hr θ=>(Zf (ZF (ZG (Z7 Zay T.b_isinstance T.b_list Zaj (Zb 0))) (Zj (Zm (ZO (Zei (N:=["_law_one"]) (k:=1) (by decide +kernel) rfl (by decide +kernel) rfl) (ZaF (Zb 0)) (fun _ _ _ _=>(Zp 0 (show List.Nodup (["_law_one"]:List Str) by decide +kernel))) (fun _ _ _ _=>(Or.inl ⟨rfl,rfl⟩)) (fun _ _ _ _=>(Zi C_law_copy ZU (hr.mono (by decide)) (Za (Zb 0) Zd)))))) Zo)
  (Zf (ZF (ZG (Z7 ZaO T.b_isinstance T.b_tuple Zab (Zb 0))) (Zj (Zm (Zai Zan Zek T.b_tuple Zab (Za (ZO (Zei (N:=["_law_one"]) (k:=1) (by decide +kernel) rfl (by decide +kernel) rfl) (ZaF (Zb 0)) (fun _ _ _ _=>(Zp 0 (show List.Nodup (["_law_one"]:List Str) by decide +kernel))) (fun _ _ _ _=>(Or.inl ⟨rfl,rfl⟩)) (fun _ _ _ _=>(Zi C_law_copy ZU (hr.mono (by decide)) (Za (Zb 0) Zd)))) Zd)))) Zo)
  (Zj (Zm (Zb 0)))))
noncomputable abbrev ZeX:Stmt:=top 73
noncomputable def ZgV:Sv:=(ZD (Z4 (gNm 11) (Zk F_stands (Zc (Zg 9) aNil)))
 (sIf (Zb2 (Zaa (tv (ZdC "bool" (Zg 11)))) (Zb2 (tv (e2 dNe (Zg 11) (Zg 7))) (tv (e2 dNe (Zg 9) (Zg 8))))) (ZN (eC (.bl false))) sNil))
noncomputable def ZeY:Sv:=(ZD (Z4 (gTp (gCs (gNm 2) (gCs (gNm 3) gNl))) (Zk F_law_wedge (Zc (Zk F_law_cell_at (Zc (Zg 0) (Zc (Zg 1) aNil))) aNil)))
 (ZD (Z4 (gNm 4) (Zk F_between (Zc (Zg 2) (Zc (Zg 3) aNil))))
 (ZD (sIf (tv (e2 dGt (Zk bLen (Zc (Zg 4) aNil)) (eC (.int 60)))) (ZD (Z4 (gNm 2) (Zao (Zc (eC (.int 1)) (Zc (eC (.int 0)) aNil))))
 (ZD (Z4 (gNm 3) (Zao (Zc (ZgC (eC (.int 3))) (Zc (eC (.int 4)) aNil))))
 (Z4 (gNm 4) (Zk F_between (Zc (Zg 2) (Zc (Zg 3) aNil)))))) sNil)
 (ZD (Z4 (gNm 5) (Zk F_shows (Zc (Zg 2) (Zc (Zg 3) aNil))))
 (ZD (Z4 (gNm 6) (Zk F_law_spoilt (Zc (Zg 2) (Zc (Zg 3) (Zc (Zg 4) (Zc (Zg 5) (Zc (Zk F_law_cell_at (Zc (Zg 0) (Zc (e2 dAdd (Zg 1) (eC (.int 1))) aNil))) aNil)))))))
 (ZD (Z4 (gNm 7) (Zk F_law_stands (Zc (e2 dIx (Zg 6) (eC (.int 0))) (Zc (e2 dIx (Zg 6) (eC (.int 1))) (Zc (e2 dIx (Zg 6) (eC (.int 2))) (Zc (e2 dIx (Zg 6) (eC (.int 3))) aNil))))))
 (ZD (Z4 (gNm 8) (Zao (Zc (eC (.str (PySem.Str.ofString "wedge"))) (Zc (e2 dIx (Zg 6) (eC (.int 0))) (Zc (e2 dIx (Zg 6) (eC (.int 1))) (Zc (e2 dIx (Zg 6) (eC (.int 2))) (Zc (e2 dIx (Zg 6) (eC (.int 3))) aNil)))))))
 (ZD (Z4 (gNm 9) (Zk F_law_copy (Zc (Zg 8) aNil)))
 (Zde (gNm 10) (Zc (eC (.int 2)) aNil) ZgV)))))))))
noncomputable def Zpk:Sv:=(ZD (Zdt (gNm 1) (iR3 (Zc (eC (.int 0)) (Zc (Zk bMax (Zc (eC (.int 2)) (Zc (Zk bMin (Zc (Zk bLen (Zc (Zg 0) aNil)) (Zc (eC (.int 16)) aNil))) aNil))) (Zc (eC (.int 2)) aNil)))) ZeY)
 (ZN (eC (.bl true))))
noncomputable def Zgt:List D->Sto->Out D:=fnF Zpk 1 11
theorem Zbv:FnScope ["_law_script","_law_place","_law_u","_law_v","_law_rays","_law_some","_law_paper","_law_due","_law_thing","_law_lent","_law_again","_law_found"] ["_law_script"] (Zh ZeX):=⟨rfl,rfl,rfl,by decide +kernel,rfl,by decide +kernel,by decide +kernel⟩
theorem Zpl {f:Addr} {fd:FuncData} (F:Fun K "law" "law" ZeX f fd) (T:Txt K mg) (C_law_cell_at:Cal P w K mg base "_law_cell_at" 1 2 F_law_cell_at) (C_law_wedge:Cal P w K mg base "_law_wedge" 103 1 F_law_wedge) (C_between:Cal P w K mg base "between" 104 2 F_between) (C_shows:Cal P w K mg base "shows" 105 2 F_shows) (C_law_spoilt:Cal P w K mg base "_law_spoilt" 102 5 F_law_spoilt) (C_law_stands:Cal P w K mg base "_law_stands" 102 4 F_law_stands) (C_law_copy:Cal P w K mg base "_law_copy" 5 1 F_law_copy) (C_stands:Cal P w K mg base "stands" 106 1 F_stands):FnOk P w K mg base (CXE P w) 107 f fd ["_law_script"] (spD K Zgt):=
 ZM F Zbv rfl rfl fun cdv A outer s H E hr θ=>(Zf (Zb6 θ.own (ZiB T.b_range (Za Ze (Za (Zn (Ze8 (Zz hr (by decide))) ZkB T.b_max ZkG (Za Ze (Za (Zn (ZhM (Zz hr (by decide))) Znu T.b_min ZkH (Za (Zn Zl ZL T.b_len PySem.boot_len (Za (Zb 0) Zd)) (Za Ze Zd))) Zd))) (Za Ze Zd)))) (Zp 1 Zbv.nd) (Zf (Zeh (Zi C_law_wedge θ (hr.mono (by decide)) (Za (Zi C_law_cell_at θ (hr.mono (by decide)) (Za (Zb 0) (Za (Zb 1) Zd))) Zd)) (Zav (Zz hr (by decide)) (Zv (Zp 2 Zbv.nd) (Zv (Zp 3 Zbv.nd) ZX)) (hlen:=(ZA (ZA (fun _ _ _ h=>ZY h))))))
  (Zf (Zy 4 Zbv.nd (Zi C_between θ (hr.mono (by decide)) (Za (Zb 2) (Za (Zb 3) Zd))))
  (Zf (ZF (Zw Zlj Zlz (Zn Zl ZL T.b_len PySem.boot_len (Za (Zb 4) Zd)) Ze) (Zf (Zy 2 Zbv.nd (Zx (Za Ze (Za Ze Zd))))
  (Zf (Zy 3 Zbv.nd (Zx (Za (Zcr Ze) (Za Ze Zd))))
  (Zj (Zy 4 Zbv.nd (Zi C_between θ (hr.mono (by decide)) (Za (Zb 2) (Za (Zb 3) Zd))))))) Zo)
  (Zf (Zy 5 Zbv.nd (Zi C_shows θ (hr.mono (by decide)) (Za (Zb 2) (Za (Zb 3) Zd))))
  (Zf (Zy 6 Zbv.nd (Zi C_law_spoilt θ (hr.mono (by decide)) (Za (Zb 2) (Za (Zb 3) (Za (Zb 4) (Za (Zb 5) (Za (Zi C_law_cell_at θ (hr.mono (by decide)) (Za (Zb 0) (Za (ZC (Zb 1) Ze) Zd))) Zd)))))))
  (Zf (Zy 7 Zbv.nd (Zi C_law_stands θ (hr.mono (by decide)) (Za (Zq (Zb 6) Ze) (Za (Zq (Zb 6) Ze) (Za (Zq (Zb 6) Ze) (Za (Zq (Zb 6) Ze) Zd))))))
  (Zf (Zy 8 Zbv.nd (Zx (Za Zbb (Za (Zq (Zb 6) Ze) (Za (Zq (Zb 6) Ze) (Za (Zq (Zb 6) Ze) (Za (Zq (Zb 6) Ze) Zd)))))))
  (Zf (Zy 9 Zbv.nd (Zi C_law_copy θ (hr.mono (by decide)) (Za (Zb 8) Zd)))
  (Zj (ZdF θ.own T.b_range (Za Ze Zd) (Zp 10 Zbv.nd) (Zf (Zy 11 Zbv.nd (Zi C_stands θ (hr.mono (by decide)) (Za (Zb 9) Zd)))
  (Zj (ZF (ZcH (ZaA (ZQ (ZG (Z7 Zet T.b_isinstance T.b_bool Zf7 (Zb 11)))) (ZaA (Zw (Zah hr.units) Zbp (Zb 11) (Zb 7)) (ZaD (Zw (Zah hr.units) Zbp (Zb 9) (Zb 8)))))) (Zj (Zm Zaz)) Zo))))))))))))))
  (Zj (Zm Zaz)))
end
theorem Zd5 {α:Type} {P:List α->Prop} (h: ∀ x0,P [x0]): ∀ us:List α,us.length=1->P us
 | [x0],_=>h x0
theorem Zda {α:Type} {P:List α->Prop} (h: ∀ x0 x1,P [x0,x1]): ∀ us:List α,us.length=2->P us
 | [x0,x1],_=>h x0 x1
theorem ZpW {α:Type} {P:List α->Prop} (h: ∀ x0 x1 x2,P [x0,x1,x2]): ∀ us:List α,us.length=3->P us
 | [x0,x1,x2],_=>h x0 x1 x2
theorem ZrS {α:Type} {P:List α->Prop} (h: ∀ x0 x1 x2 x3,P [x0,x1,x2,x3]): ∀ us:List α,us.length=4->P us
 | [x0,x1,x2,x3],_=>h x0 x1 x2 x3
theorem Zt6 {α:Type} {P:List α->Prop} (h: ∀ x0 x1 x2 x3 x4,P [x0,x1,x2,x3,x4]): ∀ us:List α,us.length=5->P us
 | [x0,x1,x2,x3,x4],_=>h x0 x1 x2 x3 x4
theorem Zt7 {α:Type} {P:List α->Prop} (h: ∀ x0 x1 x2 x3 x4 x5,P [x0,x1,x2,x3,x4,x5]): ∀ us:List α,us.length=6->P us
 | [x0,x1,x2,x3,x4,x5],_=>h x0 x1 x2 x3 x4 x5
theorem Zpm {l:PySem.W.OpenLaw} {w:World} {K:PySem.W.Frag} {h:Heap} {mg:Str->Option Value} {fa f1 f2 f3 f4 f5 f6 f7 f8 f9 f10 f11 f12 f13 f14 f15 f16 f17 f18 f19 f20 f21 f22 f23 f24 f25 f26 f27 f28 f29 f30 f31 f32 f33 f34 f35 f36 f37 f38 f39 f40 f41 f42 f43 f44 f45 f46 f47 f48 f49 f50 f51 f52 f53 f54 f55:Addr} (X:K.In h) (G:h.Ns mainGlobals mg) (hfa:mg "law"=some (.ref fa))
  {od1 an1 od2 an2 od3 an3 od4 an4 od5 an5 od6 an6 od7 an7 od8 an8 od9 an9 od10 an10 od11 an11 od12 an12 od13 an13 od14 an14 od15 an15 od16 an16 od17 an17 od18 an18 od19 an19 od20 an20 od21 an21 od22 an22 od23 an23 od24 an24 od25 an25 od26 an26 od27 an27 od28 an28 od29 an29 od30 an30 od31 an31 od32 an32 od33 an33 od34 an34 od35 an35 od36 an36 od37 an37 od38 an38 od39 an39 od40 an40 od41 an41 od42 an42 od43 an43 od44 an44 od45 an45 od46 an46 od47 an47 od48 an48 od49 an49 od50 an50 od51 an51 od52 an52 od53 an53 od54 an54 od55 an55:Option Addr} {sl1 sl2 sl3 sl4 sl5 sl6 sl7 sl8 sl9 sl10 sl11 sl12 sl13 sl14 sl15 sl16 sl17 sl18 sl19 sl20 sl21 sl22 sl23 sl24 sl25 sl26 sl27 sl28 sl29 sl30 sl31 sl32 sl33 sl34 sl35 sl36 sl37 sl38 sl39 sl40 sl41 sl42 sl43 sl44 sl45 sl46 sl47 sl48 sl49 sl50 sl51 sl52 sl53 sl54 sl55:Array (Option Value)} {oc1 kV1 dc1 pm1 cd1 ct1 oc2 kV2 dc2 pm2 cd2 ct2 oc3 kV3 dc3 pm3 cd3 ct3 oc4 kV4 dc4 pm4 cd4 ct4 oc5 kV5 dc5 pm5 cd5 ct5 oc6 kV6 dc6 pm6 cd6 ct6 oc7 kV7 dc7 pm7 cd7 ct7 oc8 kV8 dc8 pm8 cd8 ct8 oc9 kV9 dc9 pm9 cd9 ct9 oc10 kV10 dc10 pm10 cd10 ct10 oc11 kV11 dc11 pm11 cd11 ct11 oc12 kV12 dc12 pm12 cd12 ct12 oc13 kV13 dc13 pm13 cd13 ct13 oc14 kV14 dc14 pm14 cd14 ct14 oc15 kV15 dc15 pm15 cd15 ct15 oc16 kV16 dc16 pm16 cd16 ct16 oc17 kV17 dc17 pm17 cd17 ct17 oc18 kV18 dc18 pm18 cd18 ct18 oc19 kV19 dc19 pm19 cd19 ct19 oc20 kV20 dc20 pm20 cd20 ct20 oc21 kV21 dc21 pm21 cd21 ct21 oc22 kV22 dc22 pm22 cd22 ct22 oc23 kV23 dc23 pm23 cd23 ct23 oc24 kV24 dc24 pm24 cd24 ct24 oc25 kV25 dc25 pm25 cd25 ct25 oc26 kV26 dc26 pm26 cd26 ct26 oc27 kV27 dc27 pm27 cd27 ct27 oc28 kV28 dc28 pm28 cd28 ct28 oc29 kV29 dc29 pm29 cd29 ct29 oc30 kV30 dc30 pm30 cd30 ct30 oc31 kV31 dc31 pm31 cd31 ct31 oc32 kV32 dc32 pm32 cd32 ct32 oc33 kV33 dc33 pm33 cd33 ct33 oc34 kV34 dc34 pm34 cd34 ct34 oc35 kV35 dc35 pm35 cd35 ct35 oc36 kV36 dc36 pm36 cd36 ct36 oc37 kV37 dc37 pm37 cd37 ct37 oc38 kV38 dc38 pm38 cd38 ct38 oc39 kV39 dc39 pm39 cd39 ct39 oc40 kV40 dc40 pm40 cd40 ct40 oc41 kV41 dc41 pm41 cd41 ct41 oc42 kV42 dc42 pm42 cd42 ct42 oc43 kV43 dc43 pm43 cd43 ct43 oc44 kV44 dc44 pm44 cd44 ct44 oc45 kV45 dc45 pm45 cd45 ct45 oc46 kV46 dc46 pm46 cd46 ct46 oc47 kV47 dc47 pm47 cd47 ct47 oc48 kV48 dc48 pm48 cd48 ct48 oc49 kV49 dc49 pm49 cd49 ct49 oc50 kV50 dc50 pm50 cd50 ct50 oc51 kV51 dc51 pm51 cd51 ct51 oc52 kV52 dc52 pm52 cd52 ct52 oc53 kV53 dc53 pm53 cd53 ct53 oc54 kV54 dc54 pm54 cd54 ct54 oc55 kV55 dc55 pm55 cd55 ct55:Value}
  (a1:PySem.W.nsIn K mainGlobals "is_whole"=some (some (.ref f1))) (l1:K.lookup f1=some ⟨oc1,od1,.func (PySem.W.fnOf "is_whole" "is_whole" (Zs Zbj) (Zr Zbj) (Zh Zbj) .none kV1 dc1 pm1 an1 cd1 ct1),sl1⟩) (c1:PySem.W.codeIn K cd1 "is_whole"=true) (k1:PySem.W.keepIn K (.ref f1)=true)
  (a2:PySem.W.nsIn K mainGlobals "greatest_divisor"=some (some (.ref f2))) (l2:K.lookup f2=some ⟨oc2,od2,.func (PySem.W.fnOf "greatest_divisor" "greatest_divisor" (Zs ZR) (Zr ZR) (Zh ZR) .none kV2 dc2 pm2 an2 cd2 ct2),sl2⟩) (c2:PySem.W.codeIn K cd2 "greatest_divisor"=true) (k2:PySem.W.keepIn K (.ref f2)=true)
  (a3:PySem.W.nsIn K mainGlobals "is_pair"=some (some (.ref f3))) (l3:K.lookup f3=some ⟨oc3,od3,.func (PySem.W.fnOf "is_pair" "is_pair" (Zs ZbK) (Zr ZbK) (Zh ZbK) .none kV3 dc3 pm3 an3 cd3 ct3),sl3⟩) (c3:PySem.W.codeIn K cd3 "is_pair"=true) (k3:PySem.W.keepIn K (.ref f3)=true)
  (a4:PySem.W.nsIn K mainGlobals "crossed"=some (some (.ref f4))) (l4:K.lookup f4=some ⟨oc4,od4,.func (PySem.W.fnOf "crossed" "crossed" (Zs ZbM) (Zr ZbM) (Zh ZbM) .none kV4 dc4 pm4 an4 cd4 ct4),sl4⟩) (c4:PySem.W.codeIn K cd4 "crossed"=true) (k4:PySem.W.keepIn K (.ref f4)=true)
  (a5:PySem.W.nsIn K mainGlobals "product"=some (some (.ref f5))) (l5:K.lookup f5=some ⟨oc5,od5,.func (PySem.W.fnOf "product" "product" (Zs ZbN) (Zr ZbN) (Zh ZbN) .none kV5 dc5 pm5 an5 cd5 ct5),sl5⟩) (c5:PySem.W.codeIn K cd5 "product"=true) (k5:PySem.W.keepIn K (.ref f5)=true)
  (a6:PySem.W.nsIn K mainGlobals "common"=some (some (.ref f6))) (l6:K.lookup f6=some ⟨oc6,od6,.func (PySem.W.fnOf "common" "common" (Zs Zcg) (Zr Zcg) (Zh Zcg) .none kV6 dc6 pm6 an6 cd6 ct6),sl6⟩) (c6:PySem.W.codeIn K cd6 "common"=true) (k6:PySem.W.keepIn K (.ref f6)=true)
  (a7:PySem.W.nsIn K mainGlobals "is_ray"=some (some (.ref f7))) (l7:K.lookup f7=some ⟨oc7,od7,.func (PySem.W.fnOf "is_ray" "is_ray" (Zs Zch) (Zr Zch) (Zh Zch) .none kV7 dc7 pm7 an7 cd7 ct7),sl7⟩) (c7:PySem.W.codeIn K cd7 "is_ray"=true) (k7:PySem.W.keepIn K (.ref f7)=true)
  (a8:PySem.W.nsIn K mainGlobals "spanned"=some (some (.ref f8))) (l8:K.lookup f8=some ⟨oc8,od8,.func (PySem.W.fnOf "spanned" "spanned" (Zs ZbO) (Zr ZbO) (Zh ZbO) .none kV8 dc8 pm8 an8 cd8 ct8),sl8⟩) (c8:PySem.W.codeIn K cd8 "spanned"=true) (k8:PySem.W.keepIn K (.ref f8)=true)
  (a9:PySem.W.nsIn K mainGlobals "is_turning"=some (some (.ref f9))) (l9:K.lookup f9=some ⟨oc9,od9,.func (PySem.W.fnOf "is_turning" "is_turning" (Zs ZaG) (Zr ZaG) (Zh ZaG) .none kV9 dc9 pm9 an9 cd9 ct9),sl9⟩) (c9:PySem.W.codeIn K cd9 "is_turning"=true) (k9:PySem.W.keepIn K (.ref f9)=true)
  (a10:PySem.W.nsIn K mainGlobals "turned"=some (some (.ref f10))) (l10:K.lookup f10=some ⟨oc10,od10,.func (PySem.W.fnOf "turned" "turned" (Zs Zci) (Zr Zci) (Zh Zci) .none kV10 dc10 pm10 an10 cd10 ct10),sl10⟩) (c10:PySem.W.codeIn K cd10 "turned"=true) (k10:PySem.W.keepIn K (.ref f10)=true)
  (a11:PySem.W.nsIn K mainGlobals "following"=some (some (.ref f11))) (l11:K.lookup f11=some ⟨oc11,od11,.func (PySem.W.fnOf "following" "following" (Zs ZaW) (Zr ZaW) (Zh ZaW) .none kV11 dc11 pm11 an11 cd11 ct11),sl11⟩) (c11:PySem.W.codeIn K cd11 "following"=true) (k11:PySem.W.keepIn K (.ref f11)=true)
  (a12:PySem.W.nsIn K mainGlobals "met_direction"=some (some (.ref f12))) (l12:K.lookup f12=some ⟨oc12,od12,.func (PySem.W.fnOf "met_direction" "met_direction" (Zs Z5) (Zr Z5) (Zh Z5) .none kV12 dc12 pm12 an12 cd12 ct12),sl12⟩) (c12:PySem.W.codeIn K cd12 "met_direction"=true) (k12:PySem.W.keepIn K (.ref f12)=true)
  (a13:PySem.W.nsIn K mainGlobals "look_round"=some (some (.ref f13))) (l13:K.lookup f13=some ⟨oc13,od13,.func (PySem.W.fnOf "look_round" "look_round" (Zs Zak) (Zr Zak) (Zh Zak) .none kV13 dc13 pm13 an13 cd13 ct13),sl13⟩) (c13:PySem.W.codeIn K cd13 "look_round"=true) (k13:PySem.W.keepIn K (.ref f13)=true)
  (a14:PySem.W.nsIn K mainGlobals "is_round"=some (some (.ref f14))) (l14:K.lookup f14=some ⟨oc14,od14,.func (PySem.W.fnOf "is_round" "is_round" (Zs Zbk) (Zr Zbk) (Zh Zbk) .none kV14 dc14 pm14 an14 cd14 ct14),sl14⟩) (c14:PySem.W.codeIn K cd14 "is_round"=true) (k14:PySem.W.keepIn K (.ref f14)=true)
  (a15:PySem.W.nsIn K mainGlobals "unspanned"=some (some (.ref f15))) (l15:K.lookup f15=some ⟨oc15,od15,.func (PySem.W.fnOf "unspanned" "unspanned" (Zs ZaX) (Zr ZaX) (Zh ZaX) .none kV15 dc15 pm15 an15 cd15 ct15),sl15⟩) (c15:PySem.W.codeIn K cd15 "unspanned"=true) (k15:PySem.W.keepIn K (.ref f15)=true)
  (a16:PySem.W.nsIn K mainGlobals "ask_smooth"=some (some (.ref f16))) (l16:K.lookup f16=some ⟨oc16,od16,.func (PySem.W.fnOf "ask_smooth" "ask_smooth" (Zs ZaH) (Zr ZaH) (Zh ZaH) .none kV16 dc16 pm16 an16 cd16 ct16),sl16⟩) (c16:PySem.W.codeIn K cd16 "ask_smooth"=true) (k16:PySem.W.keepIn K (.ref f16)=true)
  (a17:PySem.W.nsIn K mainGlobals "numbers"=some (some (.ref f17))) (l17:K.lookup f17=some ⟨oc17,od17,.func (PySem.W.fnOf "numbers" "numbers" (Zs Zbs) (Zr Zbs) (Zh Zbs) .none kV17 dc17 pm17 an17 cd17 ct17),sl17⟩) (c17:PySem.W.codeIn K cd17 "numbers"=true) (k17:PySem.W.keepIn K (.ref f17)=true)
  (a18:PySem.W.nsIn K mainGlobals "ratio"=some (some (.ref f18))) (l18:K.lookup f18=some ⟨oc18,od18,.func (PySem.W.fnOf "ratio" "ratio" (Zs Zc2) (Zr Zc2) (Zh Zc2) .none kV18 dc18 pm18 an18 cd18 ct18),sl18⟩) (c18:PySem.W.codeIn K cd18 "ratio"=true) (k18:PySem.W.keepIn K (.ref f18)=true)
  (a19:PySem.W.nsIn K mainGlobals "plus"=some (some (.ref f19))) (l19:K.lookup f19=some ⟨oc19,od19,.func (PySem.W.fnOf "plus" "plus" (Zs Zem) (Zr Zem) (Zh Zem) .none kV19 dc19 pm19 an19 cd19 ct19),sl19⟩) (c19:PySem.W.codeIn K cd19 "plus"=true) (k19:PySem.W.keepIn K (.ref f19)=true)
  (a20:PySem.W.nsIn K mainGlobals "times"=some (some (.ref f20))) (l20:K.lookup f20=some ⟨oc20,od20,.func (PySem.W.fnOf "times" "times" (Zs Zc3) (Zr Zc3) (Zh Zc3) .none kV20 dc20 pm20 an20 cd20 ct20),sl20⟩) (c20:PySem.W.codeIn K cd20 "times"=true) (k20:PySem.W.keepIn K (.ref f20)=true)
  (a21:PySem.W.nsIn K mainGlobals "less"=some (some (.ref f21))) (l21:K.lookup f21=some ⟨oc21,od21,.func (PySem.W.fnOf "less" "less" (Zs Zen) (Zr Zen) (Zh Zen) .none kV21 dc21 pm21 an21 cd21 ct21),sl21⟩) (c21:PySem.W.codeIn K cd21 "less"=true) (k21:PySem.W.keepIn K (.ref f21)=true)
  (a22:PySem.W.nsIn K mainGlobals "is_ratio"=some (some (.ref f22))) (l22:K.lookup f22=some ⟨oc22,od22,.func (PySem.W.fnOf "is_ratio" "is_ratio" (Zs Zbl) (Zr Zbl) (Zh Zbl) .none kV22 dc22 pm22 an22 cd22 ct22),sl22⟩) (c22:PySem.W.codeIn K cd22 "is_ratio"=true) (k22:PySem.W.keepIn K (.ref f22)=true)
  (a23:PySem.W.nsIn K mainGlobals "ask_height"=some (some (.ref f23))) (l23:K.lookup f23=some ⟨oc23,od23,.func (PySem.W.fnOf "ask_height" "ask_height" (Zs ZaI) (Zr ZaI) (Zh ZaI) .none kV23 dc23 pm23 an23 cd23 ct23),sl23⟩) (c23:PySem.W.codeIn K cd23 "ask_height"=true) (k23:PySem.W.keepIn K (.ref f23)=true)
  (a24:PySem.W.nsIn K mainGlobals "bends"=some (some (.ref f24))) (l24:K.lookup f24=some ⟨oc24,od24,.func (PySem.W.fnOf "bends" "bends" (Zs Zc4) (Zr Zc4) (Zh Zc4) .none kV24 dc24 pm24 an24 cd24 ct24),sl24⟩) (c24:PySem.W.codeIn K cd24 "bends"=true) (k24:PySem.W.keepIn K (.ref f24)=true)
  (a25:PySem.W.nsIn K mainGlobals "ask_place"=some (some (.ref f25))) (l25:K.lookup f25=some ⟨oc25,od25,.func (PySem.W.fnOf "ask_place" "ask_place" (Zs ZaY) (Zr ZaY) (Zh ZaY) .none kV25 dc25 pm25 an25 cd25 ct25),sl25⟩) (c25:PySem.W.codeIn K cd25 "ask_place"=true) (k25:PySem.W.keepIn K (.ref f25)=true)
  (a26:PySem.W.nsIn K mainGlobals "taken_out"=some (some (.ref f26))) (l26:K.lookup f26=some ⟨oc26,od26,.func (PySem.W.fnOf "taken_out" "taken_out" (Zs ZaZ) (Zr ZaZ) (Zh ZaZ) .none kV26 dc26 pm26 an26 cd26 ct26),sl26⟩) (c26:PySem.W.codeIn K cd26 "taken_out"=true) (k26:PySem.W.keepIn K (.ref f26)=true)
  (a27:PySem.W.nsIn K mainGlobals "is_smooth"=some (some (.ref f27))) (l27:K.lookup f27=some ⟨oc27,od27,.func (PySem.W.fnOf "is_smooth" "is_smooth" (Zs Za0) (Zr Za0) (Zh Za0) .none kV27 dc27 pm27 an27 cd27 ct27),sl27⟩) (c27:PySem.W.codeIn K cd27 "is_smooth"=true) (k27:PySem.W.keepIn K (.ref f27)=true)
  (a28:PySem.W.nsIn K mainGlobals "is_height"=some (some (.ref f28))) (l28:K.lookup f28=some ⟨oc28,od28,.func (PySem.W.fnOf "is_height" "is_height" (Zs Za1) (Zr Za1) (Zh Za1) .none kV28 dc28 pm28 an28 cd28 ct28),sl28⟩) (c28:PySem.W.codeIn K cd28 "is_height"=true) (k28:PySem.W.keepIn K (.ref f28)=true)
  (a29:PySem.W.nsIn K mainGlobals "walk_stands"=some (some (.ref f29))) (l29:K.lookup f29=some ⟨oc29,od29,.func (PySem.W.fnOf "walk_stands" "walk_stands" (Zs Zap) (Zr Zap) (Zh Zap) .none kV29 dc29 pm29 an29 cd29 ct29),sl29⟩) (c29:PySem.W.codeIn K cd29 "walk_stands"=true) (k29:PySem.W.keepIn K (.ref f29)=true)
  (a30:PySem.W.nsIn K mainGlobals "turning_stands"=some (some (.ref f30))) (l30:K.lookup f30=some ⟨oc30,od30,.func (PySem.W.fnOf "turning_stands" "turning_stands" (Zs ZS) (Zr ZS) (Zh ZS) .none kV30 dc30 pm30 an30 cd30 ct30),sl30⟩) (c30:PySem.W.codeIn K cd30 "turning_stands"=true) (k30:PySem.W.keepIn K (.ref f30)=true)
  (a31:PySem.W.nsIn K mainGlobals "show_stands"=some (some (.ref f31))) (l31:K.lookup f31=some ⟨oc31,od31,.func (PySem.W.fnOf "show_stands" "show_stands" (Zs Zac) (Zr Zac) (Zh Zac) .none kV31 dc31 pm31 an31 cd31 ct31),sl31⟩) (c31:PySem.W.codeIn K cd31 "show_stands"=true) (k31:PySem.W.keepIn K (.ref f31)=true)
  (a32:PySem.W.nsIn K mainGlobals "wedge_stands"=some (some (.ref f32))) (l32:K.lookup f32=some ⟨oc32,od32,.func (PySem.W.fnOf "wedge_stands" "wedge_stands" (Zs ZZ) (Zr ZZ) (Zh ZZ) .none kV32 dc32 pm32 an32 cd32 ct32),sl32⟩) (c32:PySem.W.codeIn K cd32 "wedge_stands"=true) (k32:PySem.W.keepIn K (.ref f32)=true)
  (a33:PySem.W.nsIn K mainGlobals "crosses_below"=some (some (.ref f33))) (l33:K.lookup f33=some ⟨oc33,od33,.func (PySem.W.fnOf "crosses_below" "crosses_below" (Zs Z6) (Zr Z6) (Zh Z6) .none kV33 dc33 pm33 an33 cd33 ct33),sl33⟩) (c33:PySem.W.codeIn K cd33 "crosses_below"=true) (k33:PySem.W.keepIn K (.ref f33)=true)
  (a34:PySem.W.nsIn K mainGlobals "parting_stands"=some (some (.ref f34))) (l34:K.lookup f34=some ⟨oc34,od34,.func (PySem.W.fnOf "parting_stands" "parting_stands" (Zs ZT) (Zr ZT) (Zh ZT) .none kV34 dc34 pm34 an34 cd34 ct34),sl34⟩) (c34:PySem.W.codeIn K cd34 "parting_stands"=true) (k34:PySem.W.keepIn K (.ref f34)=true)
  (a35:PySem.W.nsIn K mainGlobals "none_stands"=some (some (.ref f35))) (l35:K.lookup f35=some ⟨oc35,od35,.func (PySem.W.fnOf "none_stands" "none_stands" (Zs Zaq) (Zr Zaq) (Zh Zaq) .none kV35 dc35 pm35 an35 cd35 ct35),sl35⟩) (c35:PySem.W.codeIn K cd35 "none_stands"=true) (k35:PySem.W.keepIn K (.ref f35)=true)
  (a36:PySem.W.nsIn K mainGlobals "stands"=some (some (.ref f36))) (l36:K.lookup f36=some ⟨oc36,od36,.func (PySem.W.fnOf "stands" "stands" (Zs Zck) (Zr Zck) (Zh Zck) .none kV36 dc36 pm36 an36 cd36 ct36),sl36⟩) (c36:PySem.W.codeIn K cd36 "stands"=true) (k36:PySem.W.keepIn K (.ref f36)=true)
  (a37:PySem.W.nsIn K mainGlobals "partner"=some (some (.ref f37))) (l37:K.lookup f37=some ⟨oc37,od37,.func (PySem.W.fnOf "partner" "partner" (Zs ZbP) (Zr ZbP) (Zh ZbP) .none kV37 dc37 pm37 an37 cd37 ct37),sl37⟩) (c37:PySem.W.codeIn K cd37 "partner"=true) (k37:PySem.W.keepIn K (.ref f37)=true)
  (a38:PySem.W.nsIn K mainGlobals "first_behind"=some (some (.ref f38))) (l38:K.lookup f38=some ⟨oc38,od38,.func (PySem.W.fnOf "first_behind" "first_behind" (Zs Zad) (Zr Zad) (Zh Zad) .none kV38 dc38 pm38 an38 cd38 ct38),sl38⟩) (c38:PySem.W.codeIn K cd38 "first_behind"=true) (k38:PySem.W.keepIn K (.ref f38)=true)
  (a39:PySem.W.nsIn K mainGlobals "expanded"=some (some (.ref f39))) (l39:K.lookup f39=some ⟨oc39,od39,.func (PySem.W.fnOf "expanded" "expanded" (Zs Zbm) (Zr Zbm) (Zh Zbm) .none kV39 dc39 pm39 an39 cd39 ct39),sl39⟩) (c39:PySem.W.codeIn K cd39 "expanded"=true) (k39:PySem.W.keepIn K (.ref f39)=true)
  (a40:PySem.W.nsIn K mainGlobals "row"=some (some (.ref f40))) (l40:K.lookup f40=some ⟨oc40,od40,.func (PySem.W.fnOf "row" "row" (Zs Zhs) (Zr Zhs) (Zh Zhs) .none kV40 dc40 pm40 an40 cd40 ct40),sl40⟩) (c40:PySem.W.codeIn K cd40 "row"=true) (k40:PySem.W.keepIn K (.ref f40)=true)
  (a41:PySem.W.nsIn K mainGlobals "between"=some (some (.ref f41))) (l41:K.lookup f41=some ⟨oc41,od41,.func (PySem.W.fnOf "between" "between" (Zs ZbQ) (Zr ZbQ) (Zh ZbQ) .none kV41 dc41 pm41 an41 cd41 ct41),sl41⟩) (c41:PySem.W.codeIn K cd41 "between"=true) (k41:PySem.W.keepIn K (.ref f41)=true)
  (a42:PySem.W.nsIn K mainGlobals "shows"=some (some (.ref f42))) (l42:K.lookup f42=some ⟨oc42,od42,.func (PySem.W.fnOf "shows" "shows" (Zs Zc8) (Zr Zc8) (Zh Zc8) .none kV42 dc42 pm42 an42 cd42 ct42),sl42⟩) (c42:PySem.W.codeIn K cd42 "shows"=true) (k42:PySem.W.keepIn K (.ref f42)=true)
  (a43:PySem.W.nsIn K mainGlobals "_law_cell_at"=some (some (.ref f43))) (l43:K.lookup f43=some ⟨oc43,od43,.func (PySem.W.fnOf "_law_cell_at" "_law_cell_at" (Zs Zar) (Zr Zar) (Zh Zar) .none kV43 dc43 pm43 an43 cd43 ct43),sl43⟩) (c43:PySem.W.codeIn K cd43 "_law_cell_at"=true) (k43:PySem.W.keepIn K (.ref f43)=true)
  (a44:PySem.W.nsIn K mainGlobals "_law_cross"=some (some (.ref f44))) (l44:K.lookup f44=some ⟨oc44,od44,.func (PySem.W.fnOf "_law_cross" "_law_cross" (Zs Za3) (Zr Za3) (Zh Za3) .none kV44 dc44 pm44 an44 cd44 ct44),sl44⟩) (c44:PySem.W.codeIn K cd44 "_law_cross"=true) (k44:PySem.W.keepIn K (.ref f44)=true)
  (a45:PySem.W.nsIn K mainGlobals "_law_whole"=some (some (.ref f45))) (l45:K.lookup f45=some ⟨oc45,od45,.func (PySem.W.fnOf "_law_whole" "_law_whole" (Zs Za4) (Zr Za4) (Zh Za4) .none kV45 dc45 pm45 an45 cd45 ct45),sl45⟩) (c45:PySem.W.codeIn K cd45 "_law_whole"=true) (k45:PySem.W.keepIn K (.ref f45)=true)
  (a46:PySem.W.nsIn K mainGlobals "_law_is_pair"=some (some (.ref f46))) (l46:K.lookup f46=some ⟨oc46,od46,.func (PySem.W.fnOf "_law_is_pair" "_law_is_pair" (Zs Zas) (Zr Zas) (Zh Zas) .none kV46 dc46 pm46 an46 cd46 ct46),sl46⟩) (c46:PySem.W.codeIn K cd46 "_law_is_pair"=true) (k46:PySem.W.keepIn K (.ref f46)=true)
  (a47:PySem.W.nsIn K mainGlobals "_law_common"=some (some (.ref f47))) (l47:K.lookup f47=some ⟨oc47,od47,.func (PySem.W.fnOf "_law_common" "_law_common" (Zs ZaK) (Zr ZaK) (Zh ZaK) .none kV47 dc47 pm47 an47 cd47 ct47),sl47⟩) (c47:PySem.W.codeIn K cd47 "_law_common"=true) (k47:PySem.W.keepIn K (.ref f47)=true)
  (a48:PySem.W.nsIn K mainGlobals "_law_straight"=some (some (.ref f48))) (l48:K.lookup f48=some ⟨oc48,od48,.func (PySem.W.fnOf "_law_straight" "_law_straight" (Zs Zae) (Zr Zae) (Zh Zae) .none kV48 dc48 pm48 an48 cd48 ct48),sl48⟩) (c48:PySem.W.codeIn K cd48 "_law_straight"=true) (k48:PySem.W.keepIn K (.ref f48)=true)
  (a49:PySem.W.nsIn K mainGlobals "_law_wedge"=some (some (.ref f49))) (l49:K.lookup f49=some ⟨oc49,od49,.func (PySem.W.fnOf "_law_wedge" "_law_wedge" (Zs Za5) (Zr Za5) (Zh Za5) .none kV49 dc49 pm49 an49 cd49 ct49),sl49⟩) (c49:PySem.W.codeIn K cd49 "_law_wedge"=true) (k49:PySem.W.keepIn K (.ref f49)=true)
  (a50:PySem.W.nsIn K mainGlobals "_law_dot"=some (some (.ref f50))) (l50:K.lookup f50=some ⟨oc50,od50,.func (PySem.W.fnOf "_law_dot" "_law_dot" (Zs ZbR) (Zr ZbR) (Zh ZbR) .none kV50 dc50 pm50 an50 cd50 ct50),sl50⟩) (c50:PySem.W.codeIn K cd50 "_law_dot"=true) (k50:PySem.W.keepIn K (.ref f50)=true)
  (a51:PySem.W.nsIn K mainGlobals "_law_stands"=some (some (.ref f51))) (l51:K.lookup f51=some ⟨oc51,od51,.func (PySem.W.fnOf "_law_stands" "_law_stands" (Zs Zal) (Zr Zal) (Zh Zal) .none kV51 dc51 pm51 an51 cd51 ct51),sl51⟩) (c51:PySem.W.codeIn K cd51 "_law_stands"=true) (k51:PySem.W.keepIn K (.ref f51)=true)
  (a52:PySem.W.nsIn K mainGlobals "_law_other_kind"=some (some (.ref f52))) (l52:K.lookup f52=some ⟨oc52,od52,.func (PySem.W.fnOf "_law_other_kind" "_law_other_kind" (Zs ZW) (Zr ZW) (Zh ZW) .none kV52 dc52 pm52 an52 cd52 ct52),sl52⟩) (c52:PySem.W.codeIn K cd52 "_law_other_kind"=true) (k52:PySem.W.keepIn K (.ref f52)=true)
  (a53:PySem.W.nsIn K mainGlobals "_law_spoilt"=some (some (.ref f53))) (l53:K.lookup f53=some ⟨oc53,od53,.func (PySem.W.fnOf "_law_spoilt" "_law_spoilt" (Zs ZaL) (Zr ZaL) (Zh ZaL) .none kV53 dc53 pm53 an53 cd53 ct53),sl53⟩) (c53:PySem.W.codeIn K cd53 "_law_spoilt"=true) (k53:PySem.W.keepIn K (.ref f53)=true)
  (a54:PySem.W.nsIn K mainGlobals "_law_copy"=some (some (.ref f54))) (l54:K.lookup f54=some ⟨oc54,od54,.func (PySem.W.fnOf "_law_copy" "_law_copy" (Zs Zaf) (Zr Zaf) (Zh Zaf) .none kV54 dc54 pm54 an54 cd54 ct54),sl54⟩) (c54:PySem.W.codeIn K cd54 "_law_copy"=true) (k54:PySem.W.keepIn K (.ref f54)=true)
  (a55:PySem.W.nsIn K mainGlobals "law"=some (some (.ref f55))) (l55:K.lookup f55=some ⟨oc55,od55,.func (PySem.W.fnOf "law" "law" (Zs ZeX) (Zr ZeX) (Zh ZeX) .none kV55 dc55 pm55 an55 cd55 ct55),sl55⟩) (c55:PySem.W.codeIn K cd55 "law"=true) (k55:PySem.W.keepIn K (.ref f55)=true)
  (z_isinstance:PySem.W.nsIn K mainGlobals "isinstance"=some none)
  (z_int:PySem.W.nsIn K mainGlobals "int"=some none)
  (z_bool:PySem.W.nsIn K mainGlobals "bool"=some none)
  (z_abs:PySem.W.nsIn K mainGlobals "abs"=some none)
  (z_tuple:PySem.W.nsIn K mainGlobals "tuple"=some none)
  (z_len:PySem.W.nsIn K mainGlobals "len"=some none)
  (z_list:PySem.W.nsIn K mainGlobals "list"=some none)
  (z_enumerate:PySem.W.nsIn K mainGlobals "enumerate"=some none)
  (z_range:PySem.W.nsIn K mainGlobals "range"=some none)
  (z_all:PySem.W.nsIn K mainGlobals "all"=some none)
  (z_sorted:PySem.W.nsIn K mainGlobals "sorted"=some none)
  (z_zip:PySem.W.nsIn K mainGlobals "zip"=some none)
  (z_sum:PySem.W.nsIn K mainGlobals "sum"=some none)
  (z_min:PySem.W.nsIn K mainGlobals "min"=some none)
  (z_max:PySem.W.nsIn K mainGlobals "max"=some none)
  (z_reversed:PySem.W.nsIn K mainGlobals "reversed"=some none)
  (q_ex_NotSmooth:Zf9 K "NotSmooth"=true)
  (q_ex_NoRatio:Zf9 K "NoRatio"=true)
  (q_ex_NoHeight:Zf9 K "NoHeight"=true)
  (q_ex_NoPlace:Zf9 K "NoPlace"=true)
  (q_ex_NoMinus:Zf9 K "NoMinus"=true)
  (q_ex_NoWedge:Zf9 K "NoWedge"=true)
  : ∃ fd:FuncData,(∀ (s:Shared) (v:Value),BindsTo s fd ⟨[v],[]⟩ [("_law_script",v)])/\ ∀ base:Heap,K.In base->base.Ns mainGlobals mg->FnOk l.prog w K mg base (CXE l.prog w) 107 fa fd ["_law_script"] (spD K Zgt):=by
 have e:=hfa.symm.trans (PySem.W.mg_of X G a55)
 cases e
 have T:Txt K mg:=⟨fun c v e=>PySem.W.mg_of X G e,PySem.W.mg_none_of X G z_isinstance,PySem.W.mg_none_of X G z_int,PySem.W.mg_none_of X G z_bool,PySem.W.mg_none_of X G z_abs,PySem.W.mg_none_of X G z_tuple,PySem.W.mg_none_of X G z_len,PySem.W.mg_none_of X G z_list,PySem.W.mg_none_of X G z_enumerate,PySem.W.mg_none_of X G z_range,PySem.W.mg_none_of X G z_all,PySem.W.mg_none_of X G z_sorted,PySem.W.mg_none_of X G z_zip,PySem.W.mg_none_of X G z_sum,PySem.W.mg_none_of X G z_min,PySem.W.mg_none_of X G z_max,PySem.W.mg_none_of X G z_reversed,q_ex_NotSmooth,q_ex_NoRatio,q_ex_NoHeight,q_ex_NoPlace,q_ex_NoMinus,q_ex_NoWedge⟩
 have R1:=ZB (st:=Zbj) l1 c1 k1
 have R2:=ZB (st:=ZR) l2 c2 k2
 have R3:=ZB (st:=ZbK) l3 c3 k3
 have R4:=ZB (st:=ZbM) l4 c4 k4
 have R5:=ZB (st:=ZbN) l5 c5 k5
 have R6:=ZB (st:=Zcg) l6 c6 k6
 have R7:=ZB (st:=Zch) l7 c7 k7
 have R8:=ZB (st:=ZbO) l8 c8 k8
 have R9:=ZB (st:=ZaG) l9 c9 k9
 have R10:=ZB (st:=Zci) l10 c10 k10
 have R11:=ZB (st:=ZaW) l11 c11 k11
 have R12:=ZB (st:=Z5) l12 c12 k12
 have R13:=ZB (st:=Zak) l13 c13 k13
 have R14:=ZB (st:=Zbk) l14 c14 k14
 have R15:=ZB (st:=ZaX) l15 c15 k15
 have R16:=ZB (st:=ZaH) l16 c16 k16
 have R17:=ZB (st:=Zbs) l17 c17 k17
 have R18:=ZB (st:=Zc2) l18 c18 k18
 have R19:=ZB (st:=Zem) l19 c19 k19
 have R20:=ZB (st:=Zc3) l20 c20 k20
 have R21:=ZB (st:=Zen) l21 c21 k21
 have R22:=ZB (st:=Zbl) l22 c22 k22
 have R23:=ZB (st:=ZaI) l23 c23 k23
 have R24:=ZB (st:=Zc4) l24 c24 k24
 have R25:=ZB (st:=ZaY) l25 c25 k25
 have R26:=ZB (st:=ZaZ) l26 c26 k26
 have R27:=ZB (st:=Za0) l27 c27 k27
 have R28:=ZB (st:=Za1) l28 c28 k28
 have R29:=ZB (st:=Zap) l29 c29 k29
 have R30:=ZB (st:=ZS) l30 c30 k30
 have R31:=ZB (st:=Zac) l31 c31 k31
 have R32:=ZB (st:=ZZ) l32 c32 k32
 have R33:=ZB (st:=Z6) l33 c33 k33
 have R34:=ZB (st:=ZT) l34 c34 k34
 have R35:=ZB (st:=Zaq) l35 c35 k35
 have R36:=ZB (st:=Zck) l36 c36 k36
 have R37:=ZB (st:=ZbP) l37 c37 k37
 have R38:=ZB (st:=Zad) l38 c38 k38
 have R39:=ZB (st:=Zbm) l39 c39 k39
 have R40:=ZB (st:=Zhs) l40 c40 k40
 have R41:=ZB (st:=ZbQ) l41 c41 k41
 have R42:=ZB (st:=Zc8) l42 c42 k42
 have R43:=ZB (st:=Zar) l43 c43 k43
 have R44:=ZB (st:=Za3) l44 c44 k44
 have R45:=ZB (st:=Za4) l45 c45 k45
 have R46:=ZB (st:=Zas) l46 c46 k46
 have R47:=ZB (st:=ZaK) l47 c47 k47
 have R48:=ZB (st:=Zae) l48 c48 k48
 have R49:=ZB (st:=Za5) l49 c49 k49
 have R50:=ZB (st:=ZbR) l50 c50 k50
 have R51:=ZB (st:=Zal) l51 c51 k51
 have R52:=ZB (st:=ZW) l52 c52 k52
 have R53:=ZB (st:=ZaL) l53 c53 k53
 have R54:=ZB (st:=Zaf) l54 c54 k54
 have R55:=ZB (st:=ZeX) l55 c55 k55
 refine ⟨PySem.W.fnOf "law" "law" (Zs ZeX) (Zr ZeX) (Zh ZeX) .none kV55 dc55 pm55 an55 cd55 ct55,fun s v=> .of_eq rfl,fun base _ _=> ?_⟩
 have C1:Cal l.prog w K mg base "is_whole" 1 1 F_is_whole:=⟨f1,_,["thing"],Zgl R1 T,PySem.W.mg_of X G a1,k1,rfl,R1.binds (ps:=["thing"]) fun _ _ _ _ _ _=>Zd5 fun _=>rfl⟩
 have C2:Cal l.prog w K mg base "greatest_divisor" 101 2 F_greatest_divisor:=⟨f2,_,["one","other"],ZcB R2 T,PySem.W.mg_of X G a2,k2,rfl,R2.binds (ps:=["one","other"]) fun _ _ _ _ _ _=>Zda fun _ _=>rfl⟩
 have C3:Cal l.prog w K mg base "is_pair" 2 1 F_is_pair:=⟨f3,_,["thing"],Zhg R3 T C1,PySem.W.mg_of X G a3,k3,rfl,R3.binds (ps:=["thing"]) fun _ _ _ _ _ _=>Zd5 fun _=>rfl⟩
 have C4:Cal l.prog w K mg base "crossed" 1 2 F_crossed:=⟨f4,_,["one","other"],Zhi R4 T,PySem.W.mg_of X G a4,k4,rfl,R4.binds (ps:=["one","other"]) fun _ _ _ _ _ _=>Zda fun _ _=>rfl⟩
 have C5:Cal l.prog w K mg base "product" 1 2 F_product:=⟨f5,_,["one","other"],Zhk R5 T,PySem.W.mg_of X G a5,k5,rfl,R5.binds (ps:=["one","other"]) fun _ _ _ _ _ _=>Zda fun _ _=>rfl⟩
 have C6:Cal l.prog w K mg base "common" 102 1 F_common:=⟨f6,_,["pair"],Zi5 R6 T C2,PySem.W.mg_of X G a6,k6,rfl,R6.binds (ps:=["pair"]) fun _ _ _ _ _ _=>Zd5 fun _=>rfl⟩
 have C7:Cal l.prog w K mg base "is_ray" 103 1 F_is_ray:=⟨f7,_,["thing"],Zi7 R7 T C3 C6,PySem.W.mg_of X G a7,k7,rfl,R7.binds (ps:=["thing"]) fun _ _ _ _ _ _=>Zd5 fun _=>rfl⟩
 have C8:Cal l.prog w K mg base "spanned" 2 2 F_spanned:=⟨f8,_,["one","other"],Zhm R8 T C4,PySem.W.mg_of X G a8,k8,rfl,R8.binds (ps:=["one","other"]) fun _ _ _ _ _ _=>Zda fun _ _=>rfl⟩
 have C9:Cal l.prog w K mg base "is_turning" 3 1 F_is_turning:=⟨f9,_,["thing"],ZeG R9 T C3 C8,PySem.W.mg_of X G a9,k9,rfl,R9.binds (ps:=["thing"]) fun _ _ _ _ _ _=>Zd5 fun _=>rfl⟩
 have C10:Cal l.prog w K mg base "turned" 101 2 F_turned:=⟨f10,_,["turning","pair"],Zi9 R10 T,PySem.W.mg_of X G a10,k10,rfl,R10.binds (ps:=["turning","pair"]) fun _ _ _ _ _ _=>Zda fun _ _=>rfl⟩
 have C11:Cal l.prog w K mg base "following" 1 2 F_following:=⟨f11,_,["things","at"],ZfH R11 T,PySem.W.mg_of X G a11,k11,rfl,R11.binds (ps:=["things","at"]) fun _ _ _ _ _ _=>Zda fun _ _=>rfl⟩
 have C12:Cal l.prog w K mg base "met_direction" 1 2 F_met_direction:=⟨f12,_,["ray","behind"],Zdv R12 T,PySem.W.mg_of X G a12,k12,rfl,R12.binds (ps:=["ray","behind"]) fun _ _ _ _ _ _=>Zda fun _ _=>rfl⟩
 have C13:Cal l.prog w K mg base "look_round" 104 1 F_look_round:=⟨f13,_,["thing"],ZeH R13 T C7 C11 C4 C12,PySem.W.mg_of X G a13,k13,rfl,R13.binds (ps:=["thing"]) fun _ _ _ _ _ _=>Zd5 fun _=>rfl⟩
 have C14:Cal l.prog w K mg base "is_round" 1 1 F_is_round:=⟨f14,_,["thing"],Zgn R14 T,PySem.W.mg_of X G a14,k14,rfl,R14.binds (ps:=["thing"]) fun _ _ _ _ _ _=>Zd5 fun _=>rfl⟩
 have C15:Cal l.prog w K mg base "unspanned" 101 1 F_unspanned:=⟨f15,_,["rays"],ZfJ R15 T C11 C4,PySem.W.mg_of X G a15,k15,rfl,R15.binds (ps:=["rays"]) fun _ _ _ _ _ _=>Zd5 fun _=>rfl⟩
 have C16:Cal l.prog w K mg base "ask_smooth" 102 1 F_ask_smooth:=⟨f16,_,["rays"],ZeI R16 T C15,PySem.W.mg_of X G a16,k16,rfl,R16.binds (ps:=["rays"]) fun _ _ _ _ _ _=>Zd5 fun _=>rfl⟩
 have C17:Cal l.prog w K mg base "numbers" 103 1 F_numbers:=⟨f17,_,["rays"],Zhp R17 T C16 C11 C4,PySem.W.mg_of X G a17,k17,rfl,R17.binds (ps:=["rays"]) fun _ _ _ _ _ _=>Zd5 fun _=>rfl⟩
 have C18:Cal l.prog w K mg base "ratio" 102 2 F_ratio:=⟨f18,_,["top","bottom"],Zke R18 T C1 C2,PySem.W.mg_of X G a18,k18,rfl,R18.binds (ps:=["top","bottom"]) fun _ _ _ _ _ _=>Zda fun _ _=>rfl⟩
 have C19:Cal l.prog w K mg base "plus" 103 2 F_plus:=⟨f19,_,["one","other"],Zmv R19 T C18,PySem.W.mg_of X G a19,k19,rfl,R19.binds (ps:=["one","other"]) fun _ _ _ _ _ _=>Zda fun _ _=>rfl⟩
 have C20:Cal l.prog w K mg base "times" 103 2 F_times:=⟨f20,_,["one","other"],Zkg R20 T C18,PySem.W.mg_of X G a20,k20,rfl,R20.binds (ps:=["one","other"]) fun _ _ _ _ _ _=>Zda fun _ _=>rfl⟩
 have C21:Cal l.prog w K mg base "less" 1 2 F_less:=⟨f21,_,["one","other"],Zmx R21 T,PySem.W.mg_of X G a21,k21,rfl,R21.binds (ps:=["one","other"]) fun _ _ _ _ _ _=>Zda fun _ _=>rfl⟩
 have C22:Cal l.prog w K mg base "is_ratio" 102 1 F_is_ratio:=⟨f22,_,["thing"],Zgp R22 T C1 C2,PySem.W.mg_of X G a22,k22,rfl,R22.binds (ps:=["thing"]) fun _ _ _ _ _ _=>Zd5 fun _=>rfl⟩
 have C23:Cal l.prog w K mg base "ask_height" 101 2 F_ask_height:=⟨f23,_,["rays","height"],ZeL R23 T,PySem.W.mg_of X G a23,k23,rfl,R23.binds (ps:=["rays","height"]) fun _ _ _ _ _ _=>Zda fun _ _=>rfl⟩
 have C24:Cal l.prog w K mg base "bends" 104 2 F_bends:=⟨f24,_,["rays","height"],Zkh R24 T C17 C23 C11 C19 C20,PySem.W.mg_of X G a24,k24,rfl,R24.binds (ps:=["rays","height"]) fun _ _ _ _ _ _=>Zda fun _ _=>rfl⟩
 have C25:Cal l.prog w K mg base "ask_place" 101 2 F_ask_place:=⟨f25,_,["rays","at"],ZfL R25 T,PySem.W.mg_of X G a25,k25,rfl,R25.binds (ps:=["rays","at"]) fun _ _ _ _ _ _=>Zda fun _ _=>rfl⟩
 have C26:Cal l.prog w K mg base "taken_out" 104 2 F_taken_out:=⟨f26,_,["rays","at"],ZfM R26 T C17 C25,PySem.W.mg_of X G a26,k26,rfl,R26.binds (ps:=["rays","at"]) fun _ _ _ _ _ _=>Zda fun _ _=>rfl⟩
 have C27:Cal l.prog w K mg base "is_smooth" 102 1 F_is_smooth:=⟨f27,_,["thing"],ZfO R27 T C14 C15,PySem.W.mg_of X G a27,k27,rfl,R27.binds (ps:=["thing"]) fun _ _ _ _ _ _=>Zd5 fun _=>rfl⟩
 have C28:Cal l.prog w K mg base "is_height" 103 2 F_is_height:=⟨f28,_,["thing","rays"],ZfQ R28 T C22,PySem.W.mg_of X G a28,k28,rfl,R28.binds (ps:=["thing","rays"]) fun _ _ _ _ _ _=>Zda fun _ _=>rfl⟩
 have C29:Cal l.prog w K mg base "walk_stands" 103 3 F_walk_stands:=⟨f29,_,["rays","places","last"],Zd7 R29 T C27 C14 C1,PySem.W.mg_of X G a29,k29,rfl,R29.binds (ps:=["rays","places","last"]) fun _ _ _ _ _ _=>ZpW fun _ _ _=>rfl⟩
 have C30:Cal l.prog w K mg base "turning_stands" 102 3 F_turning_stands:=⟨f30,_,["one","other","turning"],Zc6 R30 T C14 C9 C10,PySem.W.mg_of X G a30,k30,rfl,R30.binds (ps:=["one","other","turning"]) fun _ _ _ _ _ _=>ZpW fun _ _ _=>rfl⟩
 have C31:Cal l.prog w K mg base "show_stands" 101 3 F_show_stands:=⟨f31,_,["show","ray","wedge"],Zd9 R31 T C3 C5,PySem.W.mg_of X G a31,k31,rfl,R31.binds (ps:=["show","ray","wedge"]) fun _ _ _ _ _ _=>ZpW fun _ _ _=>rfl⟩
 have C32:Cal l.prog w K mg base "wedge_stands" 104 4 F_wedge_stands:=⟨f32,_,["u","v","rays","shows"],ZdY R32 T C7 C4 C31,PySem.W.mg_of X G a32,k32,rfl,R32.binds (ps:=["u","v","rays","shows"]) fun _ _ _ _ _ _=>ZrS fun _ _ _ _=>rfl⟩
 have C33:Cal l.prog w K mg base "crosses_below" 104 2 F_crosses_below:=⟨f33,_,["rays","stuck"],Zdy R33 T C21 C17,PySem.W.mg_of X G a33,k33,rfl,R33.binds (ps:=["rays","stuck"]) fun _ _ _ _ _ _=>Zda fun _ _=>rfl⟩
 have C34:Cal l.prog w K mg base "parting_stands" 105 4 F_parting_stands:=⟨f34,_,["rays","height","first","stuck"],Zc7 R34 T C27 C28 C19 C24 C21 C20 C33,PySem.W.mg_of X G a34,k34,rfl,R34.binds (ps:=["rays","height","first","stuck"]) fun _ _ _ _ _ _=>ZrS fun _ _ _ _=>rfl⟩
 have C35:Cal l.prog w K mg base "none_stands" 104 3 F_none_stands:=⟨f35,_,["rays","height","weights"],Zea R35 T C27 C28 C1 C20 C19 C21,PySem.W.mg_of X G a35,k35,rfl,R35.binds (ps:=["rays","height","weights"]) fun _ _ _ _ _ _=>ZpW fun _ _ _=>rfl⟩
 have C36:Cal l.prog w K mg base "stands" 106 1 F_stands:=⟨f36,_,["thing"],Zja R36 T C29 C30 C32 C34 C35,PySem.W.mg_of X G a36,k36,rfl,R36.binds (ps:=["thing"]) fun _ _ _ _ _ _=>Zd5 fun _=>rfl⟩
 have C37:Cal l.prog w K mg base "partner" 101 1 F_partner:=⟨f37,_,["ray"],Zhr R37 T,PySem.W.mg_of X G a37,k37,rfl,R37.binds (ps:=["ray"]) fun _ _ _ _ _ _=>Zd5 fun _=>rfl⟩
 have C38:Cal l.prog w K mg base "first_behind" 102 2 F_first_behind:=⟨f38,_,["u","v"],Zd0 R38 T C37 C4,PySem.W.mg_of X G a38,k38,rfl,R38.binds (ps:=["u","v"]) fun _ _ _ _ _ _=>Zda fun _ _=>rfl⟩
 have C39:Cal l.prog w K mg base "expanded" 101 2 F_expanded:=⟨f39,_,["top","bottom"],Zgs R39 T,PySem.W.mg_of X G a39,k39,rfl,R39.binds (ps:=["top","bottom"]) fun _ _ _ _ _ _=>Zda fun _ _=>rfl⟩
 have C40:Cal l.prog w K mg base "row" 103 2 F_row:=⟨f40,_,["u","v"],Zpj R40 T C4 C38 C39,PySem.W.mg_of X G a40,k40,rfl,R40.binds (ps:=["u","v"]) fun _ _ _ _ _ _=>Zda fun _ _=>rfl⟩
 have C41:Cal l.prog w K mg base "between" 104 2 F_between:=⟨f41,_,["u","v"],Zht R41 T C40 C38,PySem.W.mg_of X G a41,k41,rfl,R41.binds (ps:=["u","v"]) fun _ _ _ _ _ _=>Zda fun _ _=>rfl⟩
 have C42:Cal l.prog w K mg base "shows" 105 2 F_shows:=⟨f42,_,["u","v"],Zki R42 T C41,PySem.W.mg_of X G a42,k42,rfl,R42.binds (ps:=["u","v"]) fun _ _ _ _ _ _=>Zda fun _ _=>rfl⟩
 have C43:Cal l.prog w K mg base "_law_cell_at" 1 2 F_law_cell_at:=⟨f43,_,["_law_script","_law_k"],Zeb R43 T,PySem.W.mg_of X G a43,k43,rfl,R43.binds (ps:=["_law_script","_law_k"]) fun _ _ _ _ _ _=>Zda fun _ _=>rfl⟩
 have C44:Cal l.prog w K mg base "_law_cross" 1 2 F_law_cross:=⟨f44,_,["_law_one","_law_other"],ZfT R44 T,PySem.W.mg_of X G a44,k44,rfl,R44.binds (ps:=["_law_one","_law_other"]) fun _ _ _ _ _ _=>Zda fun _ _=>rfl⟩
 have C45:Cal l.prog w K mg base "_law_whole" 1 1 F_law_whole:=⟨f45,_,["_law_x"],ZfV R45 T,PySem.W.mg_of X G a45,k45,rfl,R45.binds (ps:=["_law_x"]) fun _ _ _ _ _ _=>Zd5 fun _=>rfl⟩
 have C46:Cal l.prog w K mg base "_law_is_pair" 2 1 F_law_is_pair:=⟨f46,_,["_law_thing"],Zed R46 T C45,PySem.W.mg_of X G a46,k46,rfl,R46.binds (ps:=["_law_thing"]) fun _ _ _ _ _ _=>Zd5 fun _=>rfl⟩
 have C47:Cal l.prog w K mg base "_law_common" 101 2 F_law_common:=⟨f47,_,["_law_one","_law_other"],ZeP R47 T,PySem.W.mg_of X G a47,k47,rfl,R47.binds (ps:=["_law_one","_law_other"]) fun _ _ _ _ _ _=>Zda fun _ _=>rfl⟩
 have C48:Cal l.prog w K mg base "_law_straight" 102 2 F_law_straight:=⟨f48,_,["_law_x","_law_y"],Zd1 R48 T C47,PySem.W.mg_of X G a48,k48,rfl,R48.binds (ps:=["_law_x","_law_y"]) fun _ _ _ _ _ _=>Zda fun _ _=>rfl⟩
 have C49:Cal l.prog w K mg base "_law_wedge" 103 1 F_law_wedge:=⟨f49,_,["_law_cell"],ZfW R49 T C48 C44,PySem.W.mg_of X G a49,k49,rfl,R49.binds (ps:=["_law_cell"]) fun _ _ _ _ _ _=>Zd5 fun _=>rfl⟩
 have C50:Cal l.prog w K mg base "_law_dot" 1 2 F_law_dot:=⟨f50,_,["_law_one","_law_other"],Zhv R50 T,PySem.W.mg_of X G a50,k50,rfl,R50.binds (ps:=["_law_one","_law_other"]) fun _ _ _ _ _ _=>Zda fun _ _=>rfl⟩
 have C51:Cal l.prog w K mg base "_law_stands" 102 4 F_law_stands:=⟨f51,_,["_law_u","_law_v","_law_rays","_law_some"],ZeQ R51 T C46 C47 C44 C50,PySem.W.mg_of X G a51,k51,rfl,R51.binds (ps:=["_law_u","_law_v","_law_rays","_law_some"]) fun _ _ _ _ _ _=>ZrS fun _ _ _ _=>rfl⟩
 have C52:Cal l.prog w K mg base "_law_other_kind" 101 6 F_law_other_kind:=⟨f52,_,["_law_u","_law_v","_law_rays","_law_some","_law_kind","_law_cell"],Zc9 R52 T,PySem.W.mg_of X G a52,k52,rfl,R52.binds (ps:=["_law_u","_law_v","_law_rays","_law_some","_law_kind","_law_cell"]) fun _ _ _ _ _ _=>Zt7 fun _ _ _ _ _ _=>rfl⟩
 have C53:Cal l.prog w K mg base "_law_spoilt" 102 5 F_law_spoilt:=⟨f53,_,["_law_u","_law_v","_law_rays","_law_some","_law_cell"],ZeR R53 T C52,PySem.W.mg_of X G a53,k53,rfl,R53.binds (ps:=["_law_u","_law_v","_law_rays","_law_some","_law_cell"]) fun _ _ _ _ _ _=>Zt6 fun _ _ _ _ _=>rfl⟩
 have C54_0:Cal l.prog w K mg base "_law_copy" 1 1 F_law_copy_0:=⟨f54,_,["_law_thing"],ZeS R54 T,PySem.W.mg_of X G a54,k54,rfl,R54.binds (ps:=["_law_thing"]) fun _ _ _ _ _ _=>Zd5 fun _=>rfl⟩
 have C54_1:Cal l.prog w K mg base "_law_copy" 2 1 F_law_copy_1:=⟨f54,_,["_law_thing"],ZeT R54 T C54_0,PySem.W.mg_of X G a54,k54,rfl,R54.binds (ps:=["_law_thing"]) fun _ _ _ _ _ _=>Zd5 fun _=>rfl⟩
 have C54_2:Cal l.prog w K mg base "_law_copy" 3 1 F_law_copy_2:=⟨f54,_,["_law_thing"],ZeU R54 T C54_1,PySem.W.mg_of X G a54,k54,rfl,R54.binds (ps:=["_law_thing"]) fun _ _ _ _ _ _=>Zd5 fun _=>rfl⟩
 have C54_3:Cal l.prog w K mg base "_law_copy" 4 1 F_law_copy_3:=⟨f54,_,["_law_thing"],ZeV R54 T C54_2,PySem.W.mg_of X G a54,k54,rfl,R54.binds (ps:=["_law_thing"]) fun _ _ _ _ _ _=>Zd5 fun _=>rfl⟩
 have C54:Cal l.prog w K mg base "_law_copy" 5 1 F_law_copy:=⟨f54,_,["_law_thing"],ZeW R54 T C54_3,PySem.W.mg_of X G a54,k54,rfl,R54.binds (ps:=["_law_thing"]) fun _ _ _ _ _ _=>Zd5 fun _=>rfl⟩
 exact Zpl R55 T C43 C49 C41 C42 C53 C51 C54 C36
end K69
end
section
namespace K69
open PySem PySem.Spec L2 DL
open CB (Bd Wg Fb btw shw dt Ch)
open CV (Kp)
noncomputable def Vw (M:Sto) (d:D):Option Pt->Prop
 |some p=>d=pr p.1 p.2
 |none=>(∃ m a b,d= .ref m/\M[m]?=some (.lst [.int a,.int b]))\/(∃ a,d= .tup [.bl true,.int a])\/(∃ a,d= .tup [.int a,.bl true])\/d= .tup [.bl true,.bl true]
noncomputable def Vws (M:Sto):List D->List (Option Pt)->Prop
 | [],[]=>True
 |d :: ds,o :: os=>Vw M d o/\Vws M ds os
 |_,_=>False
theorem Vw.up {M M':Sto} (k:Kp M M') {d:D}: ∀ {o:Option Pt},Vw M d o->Vw M' d o
 |some p,h=>h
 |none,h=>by
  rcases h with ⟨m,a,b,e,h⟩ | h
  ·exact .inl ⟨m,a,b,e,k.get h⟩
  ·exact .inr h
theorem Vws.up {M M':Sto} (k:Kp M M'): ∀ {ds:List D} {os:List (Option Pt)},Vws M ds os->Vws M' ds os
 | [],[],_=>trivial
 |_ :: _,_ :: _,h=>⟨h.1.up k,Vws.up k h.2⟩
 | [],_ :: _,h=>h.elim
 |_ :: _,[],h=>h.elim
theorem Vws.len {M:Sto}: ∀ {ds:List D} {os:List (Option Pt)},Vws M ds os->ds.length=os.length
 | [],[],_=>rfl
 |_ :: _,_ :: _,h=>by rw[List.length_cons,List.length_cons,Vws.len h.2]
 | [],_ :: _,h=>h.elim
 |_ :: _,[],h=>h.elim
theorem Vws.get {M:Sto}: ∀ {ds:List D} {os:List (Option Pt)} (_:Vws M ds os) (i:Nat) (h:i < ds.length) (h':i < os.length),Vw M ds[i] os[i]
 |_ :: _,_ :: _,h,0,_,_=>h.1
 |_ :: ds,_ :: os,h,i + 1,a,b=>Vws.get (ds:=ds) (os:=os) h.2 i (by simpa using a) (by simpa using b)
 | [],_ :: _,h,_,_,_=>h.elim
 |_ :: _,[],h,_,_,_=>h.elim
 | [],[],_,_,a,_=>absurd a (by simp)
theorem Vws.app {M:Sto}: ∀ {ds es:List D} {os ps:List (Option Pt)},Vws M ds os->Vws M es ps->Vws M (ds ++ es) (os ++ ps)
 | [],_,[],_,_,h=>h
 |_ :: _,_,_ :: _,_,h,h'=>⟨h.1,Vws.app h.2 h'⟩
 | [],_,_ :: _,_,h,_=>h.elim
 |_ :: _,_,[],_,h,_=>h.elim
theorem Vws.prs {M:Sto}: ∀ rs:List Pt,Vws M (DL.prs rs) (rs.map some)
 | []=>trivial
 |_ :: r=>⟨rfl,Vws.prs r⟩
noncomputable def Sm (o:Option Pt):Prop:= ∀ p,o=some p->Bd 5000 p
noncomputable def Ls (M:Sto) (d:D):Option (List (Option Pt))->Prop
 |some L=> ∃ m ds,d= .ref m/\M[m]?=some (.lst ds)/\Vws M ds L
 |none=> ∃ ds L,d= .tup ds/\Vws M ds L/\L.length<=200
theorem Ls.up {M M':Sto} (k:Kp M M') {d:D}: ∀ {o:Option (List (Option Pt))},Ls M d o->Ls M' d o
 |some L,⟨m,ds,e,h,v⟩=>⟨m,ds,e,k.get h,v.up k⟩
 |none,⟨ds,L,e,v,l⟩=>⟨ds,L,e,v.up k,l⟩
section
variable {Q:D->Sto->Prop} {E:Str->Sto->Prop} {M M':Sto} {n m:Nat} {u v w:Pt} {d:D} {o:Option Pt} {N B C:Ro->Sto->Prop} {R:D->Sto->Prop}
theorem Zeo {m:Nat} {xs:List D} (h:M[m]?=some (.lst xs)):Zbq M (.ref m)=some "list":=by simp[Zbq,kd,h]
theorem Zpn {x:Str}:Zbq M (.str x)=some "str":=rfl
theorem Zpo:ZcD "str" "list"=false:=rfl
theorem Zpp:ZcD "str" "tuple"=false:=rfl
theorem Zpq:ZcD "bool" "list"=false:=rfl
theorem Zpr:ZcD "bool" "tuple"=false:=rfl
theorem Zps:ZcD "int" "list"=false:=rfl
theorem Zpt:ZcD "int" "tuple"=false:=rfl
theorem Zd3 (h:Vw M d o) (q:Q (.bl o.isSome) M):wO (F_is_pair [d] M) Q E:=by
 cases o with
 |some p=>
  cases h
  simp![F_is_pair,ZbL,CR.F_is_whole,CR.Zbi]
  exact q
 |none=>
  rcases h with ⟨m,a,b,rfl,h⟩ | ⟨a,rfl⟩ | ⟨a,rfl⟩ | rfl
  ·simp![F_is_pair,ZbL,Zeo h]
   exact q
  ·simp![F_is_pair,ZbL,CR.F_is_whole,CR.Zbi]
   exact q
  ·simp![F_is_pair,ZbL,CR.F_is_whole,CR.Zbi]
   exact q
  ·simp![F_is_pair,ZbL,CR.F_is_whole,CR.Zbi]
   exact q
theorem Zdb (h:Vw M d o) (q:Q (.bl o.isSome) M):wO (F_law_is_pair [d] M) Q E:=Zd3 h q
noncomputable def Zhy (o:Option Pt):Bool:=match o with | some p=>decide (Int.gcd p.1 p.2=1) | none=>false
theorem ZeZ (h:Vw M d o) (q:Q (.bl (Zhy o)) M):wO (F_is_ray [d] M) Q E:=by
 simp![F_is_ray,ZgT]
 refine Zd3 h ?_
 cases o with
 |some p=>
  cases h
  simp![F_common,ZgS,CR.ZrM]
  rw[ZnV]
  simp![Zt]
  have e:decide (((Int.gcd p.1 p.2:Nat):Int)=1)=decide (Int.gcd p.1 p.2=1):=decide_eq_decide.mpr (by omega)
  rw[e]
  exact q
 |none=>
  simp![Zt]
  exact q
theorem Ze0 {a b:Int} (q:Q (.int (Int.gcd a b:Nat)) M):wO (F_law_common [.int a,.int b] M) Q E:=by
 have e:=ZkT (c:=tv (e2 dGt (Zg 1) (eC (.int 0)))) (i:=0) (j:=1) (M:=M) (by decide) gt0 b.natAbs a.natAbs [some (.int (a.natAbs:Nat)),some (.int (b.natAbs:Nat))] rfl rfl
 have e':sWh (tv (e2 dGt (Zg 1) (eC (.int 0)))) Zcb [some (.int (a.natAbs:Nat)),some (.int (b.natAbs:Nat))] M=_:=e
 simp![F_law_common,Zdl]
 rw[e']
 simp![Zt]
 exact q
theorem Zpu {a:Int} {F:List D->Sto->Out D} (q:Q (.int a) M):wO (fnF (Zu F) 1 0 [.int a] M) Q E:=by
 simp![Zu,Zps,Zpt]
 exact q
theorem Zpv {a:Bool} {F:List D->Sto->Out D} (q:Q (.bl a) M):wO (fnF (Zu F) 1 0 [.bl a] M) Q E:=by
 simp![Zu,Zpq,Zpr]
 exact q
theorem Zpw {a:Str} {F:List D->Sto->Out D} (q:Q (.str a) M):wO (fnF (Zu F) 1 0 [.str a] M) Q E:=by
 simp![Zu,Zpn,Zpo,Zpp]
 exact q
theorem Zk2 {src:Src} {xs:List D} {F:List D->Sto->Out D} {ρ:Ro} (S:List D->Sto->Nat->Prop) (hl:xs.length<=1000) (hcnt:xs.length<=cnt src M)
  (hs: ∀ M',Kp M M'-> ∀ i,i<=xs.length->nxt src i M'=some xs[i]?) (h0: ∀ M',S [] M' 0) (hS: ∀ ys M1 M2 i,S ys M1 i->(∀ j o,j≠M.length->M1[j]?=some o->M2[j]?=some o)->S ys M2 i)
  (st: ∀ i (h:i < xs.length) ys M1,Kp M M1->M.length < M1.length->S ys M1 i->wO (F [xs[i]] M1) (fun y M2=>Kp M1 M2/\S (ys ++ [y]) M2 (i + 1)) (fun _ _=>False))
  (q: ∀ ys M',Kp M M'->M'[M.length]?=some (.lst ys)->S ys M' xs.length->ys.length=xs.length->Q (.ref M.length) M'):kCo (gNm 0) (fun _ M=> .ok true M) (Zk F (Zc (Zg 0) aNil)) 1 [] ρ Q src M:=by
 show wO (ZdG src (gNm 0) (fun _ M=> .ok true M) (Zk F (Zc (Zg 0) aNil)) M.length (cnt src M) 0 [none] (M ++ [.lst []])) _ _
 refine ZiS (xs:=xs) (fun i ρ M'=>(∃ x,ρ=[x])/\Kp M M'/\M.length < M'.length/\ ∃ ys,M'[M.length]?=some (.lst ys)/\ys.length=i/\S ys M' i) _ 0 _ _ (by omega) (by omega) ⟨⟨_,rfl⟩,Kp.app,by simp,[],by simp,rfl,h0 _⟩ (fun i ρ M' hi hI=>hs M' hI.2.1 i hi) ?_ ?_
 ·rintro i ρ M1 hi ⟨⟨x,rfl⟩,K,lt,ys,hy,ly,hS1⟩
  rw[show gNm 0 xs[i] [x]=some [some xs[i]] from rfl]
  refine (show ∀ P:Ro->Prop,P [some xs[i]]->wG (some [some xs[i]]) P from fun P h=>h) _ ?_
  refine (show ∀ P:Prop,P->Br true P _ from fun P h=>⟨fun _=>h,fun z=>by cases z⟩) _ ?_
  refine (show wO (F [xs[i]] M1) _ _->wO (Zk F (Zc (Zg 0) aNil) [some xs[i]] M1) _ _ from fun h=>h) ?_
  refine ZcY (st i hi ys M1 K lt hS1) (fun y M2 h=> ?_) (fun _ _ z=>z)
  have hy2:=h.1.get hy
  rw[hy2]
  refine ⟨by omega,⟨_,rfl⟩,⟨by rw[List.length_set];exact (K.trans h.1).1,fun j hj=>by rw[List.getElem?_set_ne (by omega)];exact (K.trans h.1).2 j hj⟩,by rw[List.length_set];have:=h.1.1;omega,ys ++ [y],List.getElem?_set_self (by have:=h.1.1;omega),by simp[ly],?_⟩
  exact hS _ _ _ _ h.2 fun j o hj e=>by rw[List.getElem?_set_ne (Ne.symm hj)];exact e
 ·rintro ρ M1 ⟨-,K,lt,ys,hy,ly,hS1⟩
  exact q ys M1 K hy hS1 ly
section
variable {G:List D->Sto->Out D} {xs:List D} {S:List D->Sto->Nat->Prop}
theorem Zjb (hl:xs.length<=1000) (h0: ∀ M',S [] M' 0) (hS: ∀ ys M1 M2 i,S ys M1 i->(∀ j o,j≠M.length->M1[j]?=some o->M2[j]?=some o)->S ys M2 i)
  (st: ∀ i (h:i < xs.length) ys M1,Kp M M1->M.length < M1.length->S ys M1 i->wO (G [xs[i]] M1) (fun y M2=>Kp M1 M2/\S (ys ++ [y]) M2 (i + 1)) (fun _ _=>False))
  (q: ∀ ys M',Kp M M'->S ys M' xs.length->ys.length=xs.length->Q (.tup ys) M'):wO (fnF (Zu G) 1 0 [.tup xs] M) Q E:=by
 simp![Zu]
 refine Zk2 S hl (by simp[cnt]) (fun M' K i hi=>rfl) h0 hS st fun ys M' K e s l=> ?_
 show wO (bTup [.ref M.length] M') Q E
 rw[CU.ZrN e]
 exact q ys M' K s l
theorem Zk3 (h:M[m]?=some (.lst xs)) (hl:xs.length<=1000) (h0: ∀ M',S [] M' 0) (hS: ∀ ys M1 M2 i,S ys M1 i->(∀ j o,j≠M.length->M1[j]?=some o->M2[j]?=some o)->S ys M2 i)
  (st: ∀ i (h:i < xs.length) ys M1,Kp M M1->M.length < M1.length->S ys M1 i->wO (G [xs[i]] M1) (fun y M2=>Kp M1 M2/\S (ys ++ [y]) M2 (i + 1)) (fun _ _=>False))
  (q: ∀ ys M',Kp M M'->M'[M.length]?=some (.lst ys)->S ys M' xs.length->ys.length=xs.length->Q (.ref M.length) M'):wO (fnF (Zu G) 1 0 [.ref m] M) Q E:=by
 simp![Zu,Zeo h]
 refine Zk2 S hl (by rw[ZiT h];exact Nat.le_refl _) (fun M' K i hi=>by rw[ZkX];exact K.get h) h0 hS st fun ys M' K e s l=> ?_
 exact q ys M' K e s l
end
noncomputable def At (x:D):Prop:=(∃ i,x= .int i)\/ ∃ b,x= .bl b
theorem Zjc {x:D} {F:List D->Sto->Out D} (h:At x) (q:Q x M):wO (fnF (Zu F) 1 0 [x] M) Q E:=by
 rcases h with ⟨i,rfl⟩ | ⟨b,rfl⟩
 ·exact Zpu q
 ·exact Zpv q
theorem ZfY {xs:List D} {i:Nat} (h:i < xs.length):xs.take i ++ [xs[i]]=xs.take (i + 1):=(List.take_succ_eq_append_getElem h).symm
noncomputable def SI (M:Sto) (d d':D):Prop:=(d'=d/\ ∃ xs,d= .tup xs/\ ∀ x∈xs,At x)\/ ∃ m m' a b,d= .ref m/\d'= .ref m'/\M[m]?=some (.lst [.int a,.int b])/\M[m']?=some (.lst [.int a,.int b])
theorem SI.vw {d d':D} (h:SI M d d') (v:Vw M d o):Vw M d' o:=by
 rcases h with ⟨rfl,_⟩ | ⟨m,m',a,b,rfl,rfl,h1,h2⟩
 ·exact v
 ·cases o with
  |some p=>cases v
  |none=>exact .inl ⟨m',a,b,rfl,h2⟩
theorem Zpx {d:D} (v:Vw M d o):(∃ xs,d= .tup xs/\xs.length=2/\ ∀ x∈xs,At x)\/ ∃ m a b,d= .ref m/\M[m]?=some (.lst [.int a,.int b]):=by
 cases o with
 |some p=>
  cases v
  exact .inl ⟨_,rfl,rfl,by intro x hx;simp at hx;rcases hx with rfl | rfl<;>exact .inl ⟨_,rfl⟩⟩
 |none=>
  rcases v with ⟨m,a,b,rfl,h⟩ | ⟨a,rfl⟩ | ⟨a,rfl⟩ | rfl
  ·exact .inr ⟨m,a,b,rfl,h⟩
  ·exact .inl ⟨_,rfl,rfl,by intro x hx;simp at hx;rcases hx with rfl | rfl;exact .inr ⟨_,rfl⟩;exact .inl ⟨_,rfl⟩⟩
  ·exact .inl ⟨_,rfl,rfl,by intro x hx;simp at hx;rcases hx with rfl | rfl;exact .inl ⟨_,rfl⟩;exact .inr ⟨_,rfl⟩⟩
  ·exact .inl ⟨_,rfl,rfl,by intro x hx;simp at hx;exact .inr ⟨_,hx⟩⟩
theorem Zjd {F:List D->Sto->Out D} (v:Vw M d o) (q: ∀ d' M',Kp M M'->SI M' d d'->(∀ m',d'= .ref m'->M.length<=m')->Q d' M'):wO (fnF (Zu (fnF (Zu F) 1 0)) 1 0 [d] M) Q E:=by
 rcases Zpx v with ⟨xs,rfl,hl,ha⟩ | ⟨m,a,b,rfl,h⟩
 ·refine Zjb (S:=fun ys _ i=>ys=xs.take i) (by omega) (fun _=>rfl) (fun _ _ _ _ h _=>h) (fun i hi ys M1 _ _ e=> ?_) fun ys M' K e l=> ?_
  ·subst e
   exact Zjc (ha _ (List.getElem_mem hi)) ⟨Kp.refl,ZfY hi⟩
  ·rw[List.take_length] at e
   subst e
   exact q _ M' K (.inl ⟨rfl,ys,rfl,ha⟩) (fun m z=>by cases z)
 ·refine Zk3 (S:=fun ys _ i=>ys=[D.int a,D.int b].take i) h (by simp) (fun _=>rfl) (fun _ _ _ _ h _=>h) (fun i hi ys M1 _ _ e=> ?_) fun ys M' K hy e l=> ?_
  ·subst e
   refine Zjc ?_ ⟨Kp.refl,ZfY hi⟩
   have:i=0\/i=1:=by simp at hi;omega
   rcases this with rfl | rfl<;>exact .inl ⟨_,rfl⟩
  ·subst e
   exact q _ M' K (.inr ⟨m,M.length,a,b,rfl,rfl,K.get h,hy⟩) (fun m z=>by cases z;exact Nat.le_refl _)
noncomputable def nb (b:Nat) (d:D):Prop:= ∀ m,d= .ref m->m≠b
theorem SI.up {b:Nat} {d d':D} (h:SI M d d') (n1:nb b d) (n2:nb b d') (k: ∀ (j:Nat) (o:SO),j≠b->M[j]?=some o->M'[j]?=some o):SI M' d d':=by
 rcases h with h | ⟨m,m',a,b,e1,e2,h1,h2⟩
 ·exact .inl h
 ·exact .inr ⟨m,m',a,b,e1,e2,k _ _ (n1 m e1) h1,k _ _ (n2 m' e2) h2⟩
theorem SI.kp {d d':D} (h:SI M d d') (k:Kp M M'):SI M' d d':=by
 rcases h with h | ⟨m,m',a,b,e1,e2,h1,h2⟩
 ·exact .inl h
 ·exact .inr ⟨m,m',a,b,e1,e2,k.get h1,k.get h2⟩
theorem SI.eq {d d':D} {k:Nat} (h:SI M d d'):eqF (k + 3) M d' d=some true:=by
 have at': ∀ x,At x-> ∀ k,eqF (k + 1) M x x=some true:=by
  rintro x (⟨i,rfl⟩ | ⟨b,rfl⟩) k
  ·rw[Zj6];simp
  ·rw[Zr8];simp
 rcases h with ⟨rfl,xs,rfl,ha⟩ | ⟨m,m',a,b,rfl,rfl,h1,h2⟩
 ·show eqL (eqF (k + 2) M) xs xs=some true
  exact CO.ZeE fun x hx=>at' x (ha x hx) _
 ·rw[Zme h2 h1,if_pos rfl]
  exact CO.ZeE fun x hx=>at' x (by simp at hx;rcases hx with rfl | rfl<;>exact .inl ⟨_,rfl⟩) _
theorem Zpy {d:D} (v:Vw M d o): ∀ m,d= .ref m->m < M.length:=by
 intro m e
 rcases Zpx v with ⟨xs,rfl,_⟩ | ⟨m',a,b,rfl,h⟩
 ·cases e
 ·cases e
  exact Zag h
theorem Vws.of: ∀ {ds:List D} {os:List (Option Pt)},ds.length=os.length->(∀ i (h:i < ds.length) (h':i < os.length),Vw M ds[i] os[i])->Vws M ds os
 | [],[],_,_=>trivial
 |d :: ds,o :: os,l,h=>⟨h 0 (by simp) (by simp),Vws.of (by simpa using l) fun i a b=>h (i + 1) (by simpa using a) (by simpa using b)⟩
 | [],_ :: _,l,_=>by simp at l
 |_ :: _,[],l,_=>by simp at l
structure Rw (M:Sto) (ds ds':List D):Prop where
 len:ds'.length=ds.length
 at': ∀ j (h:j < ds.length) (h':j < ds'.length),SI M ds[j] ds'[j]
theorem Rw.vws {ds ds':List D} {L:List (Option Pt)} (r:Rw M ds ds') (v:Vws M ds L):Vws M ds' L:=
 Vws.of (by rw[r.len,v.len]) fun i h h'=>(r.at' i (by rw[<- r.len];exact h) h).vw (v.get i _ h')
theorem Rw.kp {ds ds':List D} (r:Rw M ds ds') (k:Kp M M'):Rw M' ds ds':=⟨r.len,fun j h h'=>(r.at' j h h').kp k⟩
theorem Rw.eql {ds ds':List D} {k:Nat} (r:Rw M ds ds'):eqL (eqF (k + 3) M) ds' ds=some true:=by
 have: ∀ (xs ys:List D),xs.length=ys.length->(∀ j (h:j < ys.length) (h':j < xs.length),eqF (k + 3) M xs[j] ys[j]=some true)->eqL (eqF (k + 3) M) xs ys=some true:=by
  intro xs
  induction xs with
  |nil=>intro ys l _;cases ys with | nil=>rfl | cons y r=>simp at l
  |cons x r ih=>
   intro ys l h
   cases ys with
   |nil=>simp at l
   |cons y s=>
    have h0:eqF (k + 3) M x y=some true:=h 0 (by simp) (by simp)
    rw[eqL,h0,ih s (by simpa using l) fun j a b=>h (j + 1) (by simpa using a) (by simpa using b)]
    rfl
 exact this ds' ds r.len fun j h h'=>(r.at' j h h').eq
section
variable {F:List D->Sto->Out D} {ds:List D} {L:List (Option Pt)}
noncomputable def RS (b:Nat) (ds:List D) (ys:List D) (M:Sto) (i:Nat):Prop:=ys.length=i/\ ∀ j (h:j < ds.length) (h':j < ys.length),SI M ds[j] ys[j]/\nb b ds[j]/\ ∀ m,ys[j]= .ref m->b < m
theorem Zpz (v:Vws M ds L) (i:Nat) (h:i < ds.length) (ys:List D) (M1:Sto) (K:Kp M M1) (lt:M.length < M1.length) (s:RS M.length ds ys M1 i):
  wO (fnF (Zu (fnF (Zu F) 1 0)) 1 0 [ds[i]] M1) (fun y M2=>Kp M1 M2/\RS M.length ds (ys ++ [y]) M2 (i + 1)) (fun _ _=>False):=by
 have vi:=v.get i h (by rw[<- v.len];exact h)
 refine Zjd (vi.up K) fun d' M2 K2 si ge=>⟨K2,by simp[s.1],fun j hj hj'=> ?_⟩
 by_cases c:j < ys.length
 ·rw[List.getElem_append_left c]
  obtain ⟨a1,a2,a3⟩:=s.2 j hj c
  exact ⟨a1.kp K2,a2,a3⟩
 ·have e:j=i:=by simp at hj';have:=s.1;omega
  subst e
  have:(ys ++ [d'])[j]=d':=by
   rw[List.getElem_append_right (by omega)]
   simp
  rw[this]
  exact ⟨si,fun m z=>by have:=Zpy vi m z;omega,fun m z=>by have:=ge m z;omega⟩
theorem ZpA (ys:List D) (M1 M2:Sto) (i b:Nat) (s:RS b ds ys M1 i) (k: ∀ (j:Nat) (o:SO),j≠b->M1[j]?=some o->M2[j]?=some o):RS b ds ys M2 i:=
 ⟨s.1,fun j h h'=>⟨(s.2 j h h').1.up (s.2 j h h').2.1 (fun m z=>by have:=(s.2 j h h').2.2 m z;omega) k,(s.2 j h h').2⟩⟩
noncomputable def Yg (b:Nat) (ds:List D):Prop:= ∀ x∈ds,∀ m,x= .ref m->b < m
theorem ZpB {ys:List D} {i b:Nat} (l:ys.length=ds.length) (s:RS b ds ys M i):Yg b ys:=fun x hx m e=>by
 obtain ⟨j,hj,rfl⟩:=List.getElem_of_mem hx
 exact (s.2 j (by omega) hj).2.2 m e
theorem ZpC (h:M[m]?=some (.lst ds)) (v:Vws M ds L) (hl:ds.length<=1000) (q: ∀ ds' M',Kp M M'->M'[M.length]?=some (.lst ds')->Rw M' ds ds'->Yg M.length ds'->Q (.ref M.length) M'):wO (fnF (Zu (fnF (Zu (fnF (Zu F) 1 0)) 1 0)) 1 0 [.ref m] M) Q E:=
 Zk3 (S:=fun ys M' i=>RS M.length ds ys M' i) h hl (fun _=>⟨rfl,fun j _ h'=>by simp at h'⟩) (fun ys M1 M2 i s k=>ZpA ys M1 M2 i _ s k) (fun i hi ys M1 K lt s=>Zpz v i hi ys M1 K lt s) fun ys M' K hy s l=>q ys M' K hy ⟨l,fun j a b=>(s.2 j a b).1⟩ (ZpB l s)
theorem Zmy (v:Vws M ds L) (hl:ds.length<=1000) (q: ∀ ds' M',Kp M M'->Rw M' ds ds'->Yg M.length ds'->Q (.tup ds') M'):wO (fnF (Zu (fnF (Zu (fnF (Zu F) 1 0)) 1 0)) 1 0 [.tup ds] M) Q E:=
 Zjb (S:=fun ys M' i=>RS M.length ds ys M' i) hl (fun _=>⟨rfl,fun j _ h'=>by simp at h'⟩) (fun ys M1 M2 i s k=>ZpA ys M1 M2 i _ s k) (fun i hi ys M1 K lt s=>Zpz v i hi ys M1 K lt s) fun ys M' K s l=>q ys M' K ⟨l,fun j a b=>(s.2 j a b).1⟩ (ZpB l s)
end
noncomputable def RwB (b:Nat) (M:Sto) (ds ds':List D):Prop:=Rw M ds ds'/\(∀ x∈ds,nb b x)/\ ∀ x∈ds',nb b x
theorem RwB.up {b:Nat} {ds ds':List D} (r:RwB b M ds ds') (k: ∀ (j:Nat) (o:SO),j≠b->M[j]?=some o->M'[j]?=some o):RwB b M' ds ds':=
 ⟨⟨r.1.len,fun j h h'=>(r.1.at' j h h').up (r.2.1 _ (List.getElem_mem h)) (r.2.2 _ (List.getElem_mem h')) k⟩,r.2⟩
noncomputable def SLb (b:Nat) (M:Sto) (d d':D):Prop:=(∃ m m' ds ds',d= .ref m/\d'= .ref m'/\m≠b/\m'≠b/\M[m]?=some (.lst ds)/\M[m']?=some (.lst ds')/\RwB b M ds ds')\/ ∃ ds ds',d= .tup ds/\d'= .tup ds'/\RwB b M ds ds'
theorem SLb.up {b:Nat} {d d':D} (r:SLb b M d d') (k: ∀ (j:Nat) (o:SO),j≠b->M[j]?=some o->M'[j]?=some o):SLb b M' d d':=by
 rcases r with ⟨m,m',ds,ds',e1,e2,n1,n2,h1,h2,r⟩ | ⟨ds,ds',e1,e2,r⟩
 ·exact .inl ⟨m,m',ds,ds',e1,e2,n1,n2,k _ _ n1 h1,k _ _ n2 h2,r.up k⟩
 ·exact .inr ⟨ds,ds',e1,e2,r.up k⟩
theorem SLb.ls {b:Nat} {d d':D} (r:SLb b M d d'): ∀ {o:Option (List (Option Pt))},Ls M d o->Ls M d' o
 |some L,⟨m,ds,e,h,v⟩=>by
  rcases r with ⟨m1,m',es,es',e1,e2,n1,n2,h1,h2,r⟩ | ⟨es,es',e1,e2,r⟩
  ·rw[e] at e1
   cases e1
   rw[h] at h1
   cases h1
   exact ⟨m',es',e2,h2,r.1.vws v⟩
  ·rw[e] at e1
   cases e1
 |none,⟨ds,L,e,v,l⟩=>by
  rcases r with ⟨m1,m',es,es',e1,e2,n1,n2,h1,h2,r⟩ | ⟨es,es',e1,e2,r⟩
  ·rw[e] at e1
   cases e1
  ·rw[e] at e1
   cases e1
   exact ⟨es',L,e2,r.1.vws v,l⟩
theorem SLb.eq {b k:Nat} {d d':D} (r:SLb b M d d'):eqF (k + 4) M d' d=some true:=by
 rcases r with ⟨m,m',ds,ds',rfl,rfl,n1,n2,h1,h2,r⟩ | ⟨ds,ds',rfl,rfl,r⟩
 ·rw[Zme h2 h1,if_pos r.1.len]
  exact r.1.eql
 ·show eqL (eqF (k + 3) M) ds' ds=some true
  exact r.1.eql
structure Pp (M:Sto) (du dv dR dS:D) (a b:Option Pt) (R S:Option (List (Option Pt))):Prop where
 u:Vw M du a
 v:Vw M dv b
 r:Ls M dR R
 s:Ls M dS S
noncomputable def lnO (o:Option (List (Option Pt))):Nat:=match o with | some L=>L.length | none=>0
theorem ZgW {F:List D->Sto->Out D} {b:Nat} {R:Option (List (Option Pt))} (h:Ls M d R) (hl:lnO R<=1000) (hb:b < M.length) (old: ∀ m,d= .ref m->m≠b) (olds: ∀ ds,(d= .tup ds\/ ∃ m,d= .ref m/\M[m]?=some (.lst ds))-> ∀ x∈ds,nb b x)
  (q: ∀ d' M',Kp M M'->SLb b M' d d'->Q d' M'):wO (fnF (Zu (fnF (Zu (fnF (Zu F) 1 0)) 1 0)) 1 0 [d] M) Q E:=by
 cases R with
 |some L=>
  obtain ⟨m,ds,rfl,h,v⟩:=h
  refine ZpC h v (by rw[v.len];exact hl) fun ds' M' K hy r yg=> ?_
  exact q _ M' K (.inl ⟨m,M.length,ds,ds',rfl,rfl,old m rfl,by omega,K.get h,hy,r,olds ds (.inr ⟨m,rfl,h⟩),fun x hx m e=>by have:=yg x hx m e;omega⟩)
 |none=>
  obtain ⟨ds,L,rfl,v,l⟩:=h
  refine Zmy v (by rw[v.len];omega) fun ds' M' K r yg=> ?_
  exact q _ M' K (.inr ⟨ds,ds',rfl,rfl,r,olds ds (.inl rfl),fun x hx m e=>by have:=yg x hx m e;omega⟩)
theorem Zcx {ys:List D} {y:D} {j:Nat} (h:j < ys.length):(ys ++ [y]).getD j .non=ys.getD j .non:=by
 rw[List.getD_eq_getElem?_getD,List.getD_eq_getElem?_getD,List.getElem?_append_left h]
theorem ZfZ {ys:List D} {y:D} {j:Nat} (h:ys.length=j):(ys ++ [y]).getD j .non=y:=by
 subst h
 simp
theorem Zmz {d:D} {b:Nat} (v:Vw M d o) (hb:M.length<=b):nb b d:=fun m e=>by have:=Zpy v m e;omega
theorem Zk4 {ds:List D} {L:List (Option Pt)} {b:Nat} (v:Vws M ds L) (hb:M.length<=b): ∀ x∈ds,nb b x:=fun x hx=>by
 obtain ⟨j,hj,rfl⟩:=List.getElem_of_mem hx
 exact Zmz (v.get j hj (by rw[<- v.len];exact hj)) hb
theorem Zkj {b:Nat} {R:Option (List (Option Pt))} (h:Ls M d R) (hb:M.length<=b):(∀ m,d= .ref m->m≠b)/\ ∀ M',Kp M M'-> ∀ ds,(d= .tup ds\/ ∃ m,d= .ref m/\M'[m]?=some (.lst ds))-> ∀ x∈ds,nb b x:=by
 cases R with
 |some L=>
  obtain ⟨m,ds,rfl,h,v⟩:=h
  refine ⟨fun m' e=>by cases e;have:=Zag h;omega,fun M' K ds' hd=> ?_⟩
  rcases hd with e | ⟨m',e,h'⟩
  ·cases e
  ·cases e
   rw[K.get h] at h'
   cases h'
   exact Zk4 v hb
 |none=>
  obtain ⟨ds,L,rfl,v,l⟩:=h
  refine ⟨fun m e=>(by cases e),fun M' K ds' hd=> ?_⟩
  rcases hd with e | ⟨m',e,h'⟩
  ·cases e
   exact Zk4 v hb
  ·cases e
structure SP5 (b:Nat) (w:Str) (du dv dR dS:D) (ys:List D) (M:Sto) (i:Nat):Prop where
 len:ys.length=i
 e0:0 < i->ys.getD 0 .non= .str w
 e1:1 < i->SI M du (ys.getD 1 .non)/\nb b du/\nb b (ys.getD 1 .non)
 e2:2 < i->SI M dv (ys.getD 2 .non)/\nb b dv/\nb b (ys.getD 2 .non)
 e3:3 < i->SLb b M dR (ys.getD 3 .non)
 e4:4 < i->SLb b M dS (ys.getD 4 .non)
theorem SP5.up {b i:Nat} {w:Str} {du dv dR dS:D} {ys:List D} (s:SP5 b w du dv dR dS ys M i) (k: ∀ (j:Nat) (o:SO),j≠b->M[j]?=some o->M'[j]?=some o):SP5 b w du dv dR dS ys M' i:=
 ⟨s.len,s.e0,fun h=>⟨(s.e1 h).1.up (s.e1 h).2.1 (s.e1 h).2.2 k,(s.e1 h).2⟩,fun h=>⟨(s.e2 h).1.up (s.e2 h).2.1 (s.e2 h).2.2 k,(s.e2 h).2⟩,fun h=>(s.e3 h).up k,fun h=>(s.e4 h).up k⟩
theorem ZpD {wd:Str} {du dv dR dS:D} {a b:Option Pt} {R S:Option (List (Option Pt))} (p:Pp M du dv dR dS a b R S) (lR:lnO R<=1000) (lS:lnO S<=1000)
  (q: ∀ du' dv' dR' dS' M',Kp M M'->Pp M' du' dv' dR' dS' a b R S->(∀ M2,Kp M' M2->eqF 12 M2 (.tup [.str wd,du',dv',dR',dS']) (.tup [.str wd,du,dv,dR,dS])=some true)->Q (.tup [.str wd,du',dv',dR',dS']) M'):wO (F_law_copy [.tup [.str wd,du,dv,dR,dS]] M) Q E:=by
 show wO (fnF (Zu (fnF (Zu (fnF (Zu (fnF (Zu F_law_copy_0) 1 0)) 1 0)) 1 0)) 1 0 [.tup [.str wd,du,dv,dR,dS]] M) Q E
 have kk: ∀ {A B:Sto} (K:Kp A B) (c:Nat) (j:Nat) (o:SO),j≠c->A[j]?=some o->B[j]?=some o:=fun K c j o _ h=>K.get h
 refine Zjb (S:=fun ys M' i=>SP5 M.length wd du dv dR dS ys M' i) (by simp) (fun _=>⟨rfl,fun h=>by omega,fun h=>by omega,fun h=>by omega,fun h=>by omega,fun h=>by omega⟩) (fun ys M1 M2 i s k=>s.up k) (fun i hi ys M1 K lt s=> ?_) fun ys M' K s l=> ?_
 ·have up: ∀ {M2:Sto} (K2:Kp M1 M2),SP5 M.length wd du dv dR dS ys M2 i:=fun K2=>s.up (kk K2 _)
  have sl:=s.len
  have:i=0\/i=1\/i=2\/i=3\/i=4:=by simp at hi;omega
  rcases this with rfl | rfl | rfl | rfl | rfl
  ·refine Zpw ⟨Kp.refl,by simp[sl],fun _=>ZfZ sl,fun h=>by omega,fun h=>by omega,fun h=>by omega,fun h=>by omega⟩
  ·refine Zjd (p.u.up K) fun d' M2 K2 si ge=>⟨K2,by simp[sl],fun _=>by rw[Zcx (by omega)];exact s.e0 (by omega),fun _=> ?_,fun h=>by omega,fun h=>by omega,fun h=>by omega⟩
   rw[ZfZ sl]
   exact ⟨si,Zmz p.u (Nat.le_refl _),fun m e=>by have:=ge m e;omega⟩
  ·refine Zjd (p.v.up K) fun d' M2 K2 si ge=>⟨K2,by simp[sl],fun _=>by rw[Zcx (by omega)];exact s.e0 (by omega),fun _=>by rw[Zcx (by omega)];exact (up K2).e1 (by omega),fun _=> ?_,fun h=>by omega,fun h=>by omega⟩
   rw[ZfZ sl]
   exact ⟨si,Zmz p.v (Nat.le_refl _),fun m e=>by have:=ge m e;omega⟩
  ·refine ZgW (b:=M.length) (p.r.up K) lR lt (Zkj p.r (Nat.le_refl _)).1 ((Zkj p.r (Nat.le_refl _)).2 M1 K) fun d' M2 K2 sb=>⟨K2,by simp[sl],fun _=>by rw[Zcx (by omega)];exact s.e0 (by omega),fun _=>by rw[Zcx (by omega)];exact (up K2).e1 (by omega),fun _=>by rw[Zcx (by omega)];exact (up K2).e2 (by omega),fun _=> ?_,fun h=>by omega⟩
   rw[ZfZ sl]
   exact sb
  ·refine ZgW (b:=M.length) (p.s.up K) lS lt (Zkj p.s (Nat.le_refl _)).1 ((Zkj p.s (Nat.le_refl _)).2 M1 K) fun d' M2 K2 sb=>⟨K2,by simp[sl],fun _=>by rw[Zcx (by omega)];exact s.e0 (by omega),fun _=>by rw[Zcx (by omega)];exact (up K2).e1 (by omega),fun _=>by rw[Zcx (by omega)];exact (up K2).e2 (by omega),fun _=>by rw[Zcx (by omega)];exact (up K2).e3 (by omega),fun _=> ?_⟩
   rw[ZfZ sl]
   exact sb
 ·match ys,s,l with
  | [y0,y1,y2,y3,y4],s,_=>
   have h0:y0= .str wd:=s.e0 (by simp)
   have h1:SI M' du y1:=(s.e1 (by simp)).1
   have h2:SI M' dv y2:=(s.e2 (by simp)).1
   have h3:SLb M.length M' dR y3:=s.e3 (by simp)
   have h4:SLb M.length M' dS y4:=s.e4 (by simp)
   subst h0
   refine q y1 y2 y3 y4 M' K ⟨h1.vw (p.u.up K),h2.vw (p.v.up K),h3.ls (p.r.up K),h4.ls (p.s.up K)⟩ fun M2 K2=> ?_
   show eqL (eqF 11 M2) [.str wd,y1,y2,y3,y4] [.str wd,du,dv,dR,dS]=some true
   simp only[eqL,Zpa,(h1.kp K2).eq (k:=8),(h2.kp K2).eq (k:=8),(h3.up (kk K2 _)).eq (k:=7),(h4.up (kk K2 _)).eq (k:=7)]
   simp
noncomputable def Zkk (a b:Option Pt) (R S:Option (List (Option Pt))):Prop:= ∃ (u v:Pt) (rs ss:List Pt),a=some u/\b=some v/\R=some (rs.map some)/\S=some (ss.map some)/\rs.length=ss.length/\Int.gcd u.1 u.2=1/\Int.gcd v.1 v.2=1/\0 < X u v/\
 (∀ i (h:i + 1 < (u :: (rs ++ [v])).length),X (u :: (rs ++ [v]))[i] (u :: (rs ++ [v]))[i + 1]=1)/\ ∀ i (h:i < rs.length) (h':i < ss.length),dt ss[i] rs[i]=1/\ ∀ w∈u :: (rs ++ [v]),1<=dt ss[i] w
theorem ZcS: ∀ {L:List (Option Pt)},L.all Option.isSome=true-> ∃ rs:List Pt,L=rs.map some
 | [],_=>⟨[],rfl⟩
 |none :: _,h=>by simp at h
 |some p :: r,h=>by
  obtain ⟨rs,e⟩:=ZcS (L:=r) (by simpa using h)
  exact ⟨p :: rs,by rw[e];rfl⟩
theorem Ze1: ∀ {ds:List D} {rs:List Pt},Vws M ds (rs.map some)->ds=prs rs
 | [],[],_=>rfl
 |d :: ds,r :: rs,h=>by
  have e:d=pr r.1 r.2:=h.1
  rw[e,Ze1 (ds:=ds) (rs:=rs) h.2]
  rfl
 | [],_ :: _,h=>h.elim
 |_ :: _,[],h=>h.elim
theorem ZcT {f:Nat->Bool} {N:Nat}:Zbd ((List.range N).map fun i=>D.bl (f i))=some ((List.range N).map f):=by
 have: ∀ L:List Nat,Zbd (L.map fun i=>D.bl (f i))=some (L.map f):=by
  intro L
  induction L with
  |nil=>rfl
  |cons x r ih=>rw[List.map_cons,Zbd,ih];rfl
 exact this _
theorem Zd4 {α:Type} (L:List α) (f:α->Bool) (d:α):((List.range L.length).map fun i=>f (L.getD i d)).all id=L.all f:=by
 have e:(List.range L.length).map (fun i=>f (L.getD i d))=L.map f:=by
  apply List.ext_getElem
  ·simp
  ·intro i h1 h2
   simp at h1 h2
   simp[List.getD_eq_getElem?_getD,h1]
 rw[e]
 simp[List.all_map]
theorem Zk5 {G:List D->Sto->Out D} {f:Option Pt->Bool} {ds:List D} {L:List (Option Pt)} {ρ:Ro} (hG: ∀ {d o M} {Q:D->Sto->Prop} {E:Str->Sto->Prop},Vw M d o->Q (.bl (f o)) M->wO (G [d] M) Q E) (h:M[m]?=some (.lst ds)) (v:Vws M ds L) (hl:L.length<=1000)
  (q:Q (.ref M.length) (M ++ [.lst ((List.range L.length).map fun i=>D.bl (f (L.getD i none)))])):kCo (gNm 0) (fun _ M=> .ok true M) (Zk G (Zc (Zg 0) aNil)) 1 [] ρ Q (.sto m) M:=by
 have hv:=v.len
 refine Zo5 (fun ρ=> ∃ x,ρ=[x]) (fun (i:Nat)=>D.bl (f (L.getD i none))) h (by omega) ⟨_,rfl⟩ ?_ (by rw[hv];exact q)
 rintro i hi ρ K ⟨x,rfl⟩
 simp![Zt]
 refine ⟨⟨_,rfl⟩,hG (o:=L.getD i none) ?_ ⟨rfl,rfl⟩⟩
 have:L.getD i none=L[i]'(by omega):=by simp[List.getD_eq_getElem?_getD,show i < L.length by omega]
 rw[this]
 exact (v.get i hi (by omega)).up Kp.app
theorem gN1 {b:Option Pt} {R S:Option (List (Option Pt))}: ¬ Zkk none b R S:=fun ⟨_,_,_,_,e,_⟩=>nomatch e
theorem gN2 {a:Option Pt} {R S:Option (List (Option Pt))}: ¬ Zkk a none R S:=fun ⟨_,_,_,_,_,e,_⟩=>nomatch e
theorem gN3 {a b:Option Pt} {S:Option (List (Option Pt))}: ¬ Zkk a b none S:=fun ⟨_,_,_,_,_,_,e,_⟩=>nomatch e
theorem gN4 {a b:Option Pt} {R:Option (List (Option Pt))}: ¬ Zkk a b R none:=fun ⟨_,_,_,_,_,_,_,e,_⟩=>nomatch e
noncomputable def CHN (l:List Pt):Prop:= ∀ i (h:i + 1 < l.length),X l[i] l[i + 1]=1
noncomputable def SHW (l rs ss:List Pt):Prop:= ∀ i (h:i < rs.length) (h':i < ss.length),dt ss[i] rs[i]=1/\ ∀ w∈l,1<=dt ss[i] w
theorem Zdo {a b:List Pt} (h:a.map some=b.map some):a=b:=by
 have:=congrArg (List.filterMap id) h
 simpa [List.filterMap_map] using this
theorem Ze2 {rs ss:List Pt}:Zkk (some u) (some v) (some (rs.map some)) (some (ss.map some)) ↔ (rs.length=ss.length/\Int.gcd u.1 u.2=1/\Int.gcd v.1 v.2=1/\0 < X u v/\CHN (u :: (rs ++ [v]))/\SHW (u :: (rs ++ [v])) rs ss):=by
 constructor
 ·rintro ⟨u',v',rs',ss',e1,e2,e3,e4,h⟩
  cases e1
  cases e2
  have:=Zdo (Option.some.inj e3)
  have:=Zdo (Option.some.inj e4)
  subst rs' ss'
  exact h
 ·intro h
  exact ⟨u,v,rs,ss,rfl,rfl,rfl,rfl,h⟩
theorem tf {P:Prop} (h:P->False):(true=false ↔ P):=⟨fun z=>(by cases z),fun p=>(h p).elim⟩
theorem ZmA {p r:Pt} (h:Bd 5000 p):wO (F_law_dot [pr p.1 p.2,pr r.1 r.2] M) Q E=Q (.int (dt p r)) M:=by
 unfold Bd at h
 simp![F_law_dot,ZfX]
 rfl
theorem Zk6 {p r:Pt} (h:Bd 5000 p):wO (F_product [pr p.1 p.2,pr r.1 r.2] M) Q E=Q (.int (dt p r)) M:=ZmA h
theorem ff {P:Prop} (h: ¬ P):(false=true ↔ P):=⟨fun z=>(by cases z),fun p=>absurd p h⟩
theorem Zf0 {du dv dR dS:D} {a b:Option Pt} {R S:Option (List (Option Pt))} (p:Pp M du dv dR dS a b R S) (sa:Sm a) (sb:Sm b) (sR: ∀ L,R=some L->L.length<=100/\ ∀ o∈L,Sm o) (sS: ∀ L,S=some L->L.length<=100/\ ∀ o∈L,Sm o)
  (q: ∀ x M',(x=true ↔ Zkk a b R S)->Kp M M'->Q (.bl x) M'):wO (F_law_stands [du,dv,dR,dS] M) Q E:=by
 simp![F_law_stands,Zdm]
 refine Zdb p.u ?_
 cases a with
 |none=>
  simp![Zt]
  exact q false M (ff gN1) Kp.refl
 |some u=>
 simp![Zt]
 refine Zdb p.v ?_
 cases b with
 |none=>
  simp![Zt]
  exact q false M (ff gN2) Kp.refl
 |some v=>
 simp![Zt]
 cases R with
 |none=>
  obtain ⟨ds,L,rfl,_,_⟩:=p.r
  simp![Zt]
  exact q false M (ff gN3) Kp.refl
 |some LR=>
 obtain ⟨mR,dsR,rfl,hR,vR⟩:=p.r
 simp![Zeo hR]
 cases S with
 |none=>
  obtain ⟨ds,L,rfl,_,_⟩:=p.s
  simp![Zt]
  exact q false M (ff gN4) Kp.refl
 |some LS=>
 obtain ⟨mS,dsS,rfl,hS,vS⟩:=p.s
 have e1:du=pr u.1 u.2:=p.u
 have e2:dv=pr v.1 v.2:=p.v
 subst e1 e2
 obtain ⟨lR,bR⟩:=sR LR rfl
 obtain ⟨lS,bS⟩:=sS LS rfl
 have bu:=sa u rfl
 have bv:=sb v rfl
 have kR:=vR.len
 have kS:=vS.len
 simp![Zeo hS,hR,hS]
 refine Zmk (fun x M'=>M'=M/\(x=false ↔ (LR.length=LS.length/\Int.gcd u.1 u.2=1/\Int.gcd v.1 v.2=1))) ?_ ?_
 ·refine Zq7 (fun z=> ?_) (fun z=> ?_)
  ·simp![Zt]
   exact tf fun h=>absurd h.1 (by omega)
  ·simp![Zt]
   refine Ze0 ?_
   simp![Zt]
   refine Zq7 (fun z2=> ?_) (fun z2=> ?_)
   ·simp![Zt]
    exact tf fun h=>absurd h.2.1 (by omega)
   ·simp![Zt]
    refine Ze0 ?_
    simp![Zt]
    rw[Bool.not_eq_false',decide_eq_true_eq]
    omega
 rintro x M1 ⟨e,hx⟩
 rw[e]
 clear e M1
 simp![Zt]
 refine Zml (fun z=> ?_) (fun z=> ?_)
 ·simp![Zt]
  subst z
  refine q false _ (ff ?_) Kp.refl
  rintro ⟨u',v',rs,ss,e1,e2,e3,e4,l,g1,g2,_⟩
  cases e1
  cases e2
  cases e3
  cases e4
  have:=hx.mpr ⟨by simpa using l,g1,g2⟩
  cases this
 obtain ⟨l1,g1,g2⟩:=hx.mp z
 have cw: ∀ {M:Sto} {Q:D->Sto->Prop} {E:Str->Sto->Prop} {p r:Pt},Bd 5000 p->wO (CC.F_law_cross [pr p.1 p.2,pr r.1 r.2] M) Q E=Q (.int (X p r)) M:=fun h=>CC.Zgg (by unfold Bd at h;omega) (by unfold Bd at h;omega)
 simp![cw bu]
 have LA:Vws M (dsR ++ dsS) (LR ++ LS):=vR.app vS
 refine Zmk (fun x M'=>Kp M M'/\(x=false ↔ (0 < X u v/\(LR ++ LS).all Option.isSome=true))) ?_ ?_
 ·refine brO (fun z3=> ?_) (fun z3=> ?_)
  ·simp![Zt]
   exact ⟨Kp.refl,tf fun h=>absurd h.1 (by omega)⟩
  ·simp![hR,hS]
   refine ⟨by omega,?_⟩
   have K1:Kp M (M ++ [SO.lst (dsR ++ dsS)]):=Kp.app
   have t1:(M ++ [SO.lst (dsR ++ dsS)])[M.length]?=some (.lst (dsR ++ dsS)):=by rw[Zhd];rfl
   generalize M ++ [SO.lst (dsR ++ dsS)]=M1 at *
   generalize M.length=o1 at *
   refine Zk5 (f:=Option.isSome) (fun v q=>Zdb v q) t1 (LA.up K1) (by rw[List.length_append];omega) ?_
   simp![ZcT]
   have ra:=Zd4 (LR ++ LS) Option.isSome none
   rw[List.length_append] at ra
   rw[ra]
   exact ⟨K1.trans Kp.app,by rw[Bool.not_eq_false'];exact ⟨fun h=>⟨by omega,h⟩,fun h=>h.2⟩⟩
 rintro x M1 ⟨K1,hx⟩
 simp![Zt]
 refine Zml (fun z=> ?_) (fun z=> ?_)
 ·simp![Zt]
  subst z
  refine q false _ (ff ?_) K1
  rintro ⟨u',v',rs,ss,e1,e2,e3,e4,l,g1,g2,xp,_⟩
  cases e1
  cases e2
  cases e3
  cases e4
  have:=hx.mpr ⟨xp,by simp⟩
  cases this
 obtain ⟨xp,al⟩:=hx.mp z
 rw[List.all_append,Bool.and_eq_true] at al
 obtain ⟨rs,rfl⟩:=ZcS al.1
 obtain ⟨ss,rfl⟩:=ZcS al.2
 have er:=Ze1 vR
 have es:=Ze1 vS
 subst er es
 have hR1:=K1.get hR
 have hS1:=K1.get hS
 rw[List.length_map] at lR lS
 rw[List.length_map,List.length_map] at l1
 have nR: ∀ p∈rs,Bd 5000 p:=fun p hp=>bR _ (List.mem_map.mpr ⟨p,hp,rfl⟩) p rfl
 have nS: ∀ p∈ss,Bd 5000 p:=fun p hp=>bS _ (List.mem_map.mpr ⟨p,hp,rfl⟩) p rfl
 have lmR:=Zag hR1
 have lmS:=Zag hS1
 simp![hR1]
 refine ⟨by omega,by omega,by omega,?_⟩
 rw[show (((rs.length + 1 + 1:Nat):Int) - 1).toNat=rs.length + 1 by omega]
 generalize hM2:M1 ++ [SO.lst [pr u.1 u.2],SO.lst (prs ((u.1,u.2) :: rs)),SO.lst [pr v.1 v.2],SO.lst (prs ((u.1,u.2) :: (rs ++ [(v.1,v.2)])))]=M2
 have K2:Kp M1 M2:=hM2 ▸ Kp.app
 have c2:M2[M1.length + 3]?=some (.lst (prs (u :: (rs ++ [v])))):=by rw[<- hM2,ZdN];rfl
 have hR2:=K2.get hR1
 have hS2:=K2.get hS1
 clear hM2
 have lc:(u :: (rs ++ [v])).length=rs.length + 2:=by simp
 have bc: ∀ p∈u :: (rs ++ [v]),Bd 5000 p:=by
  intro p hp
  simp at hp
  rcases hp with rfl | hp | rfl
  ·exact bu
  ·exact nR p hp
  ·exact bv
 have gi:=Ze2 (u:=u) (v:=v) (rs:=rs) (ss:=ss)
 generalize hcn:u :: (rs ++ [v])=cn at *
 have cne:cn≠[]:=by intro z;rw[z] at lc;simp at lc
 generalize M1.length + 3=oc at *
 have chn:CHN cn ↔ ∀ j:Nat,j < rs.length + 1->X (cy cn j) (cy cn (j + 1))=1:=by
  unfold CHN
  constructor
  ·intro h j hj
   have:=h j (by omega)
   rw[ZaQ (by omega),show ((j:Int) + 1)=((j + 1:Nat):Int) by omega,ZaQ (by omega)]
   exact this
  ·intro h j hj
   have:=h j (by omega)
   rw[ZaQ (by omega),show ((j:Int) + 1)=((j + 1:Nat):Int) by omega,ZaQ (by omega)] at this
   exact this
 refine ZgQ (fun i ρ M'=>M'=M2/\(∃ y,ρ=[some (pr u.1 u.2),some (pr v.1 v.2),some (.ref mR),some (.ref mS),some (.ref oc),y])/\ ∀ j:Nat,j < i->X (cy cn j) (cy cn (j + 1))=1) ⟨rfl,⟨_,rfl⟩,fun j hj=>by omega⟩ ?_ ?_
 ·rintro k ρ M' hk ⟨e,⟨y,rfl⟩,hj⟩
  rw[e]
  clear e M'
  rw[show (0:Int) + (k:Int)=k by omega]
  have b1:=bc _ (Zdi (i:=(k:Int)) cne)
  simp![Zcd,c2,Zdh,cw b1]
  refine Zsd (fun z4=> ?_) (fun z4=> ?_)
  ·simp![Zt]
   refine q false _ (ff ?_) (K1.trans K2)
   rw[gi]
   rintro ⟨_,_,_,_,c,_⟩
   exact z4 (chn.mp c k hk)
  ·simp![Zt]
   refine ⟨⟨_,rfl⟩,fun j hj'=> ?_⟩
   by_cases c:j < k
   ·exact hj j c
   ·have:j=k:=by omega
    subst this
    exact z4
 rintro ρ M' ⟨e,⟨y,rfl⟩,hj⟩
 rw[e]
 clear e M'
 have C1:=chn.mpr hj
 simp![hR2]
 refine ⟨by omega,?_⟩
 rw[show ((rs.length:Int)).toNat=rs.length by omega]
 have shn:SHW cn rs ss ↔ ∀ j:Nat,j < rs.length->dt (cy ss j) (cy rs j)=1/\ ∀ w∈cn,1<=dt (cy ss j) w:=by
  unfold SHW
  constructor
  ·intro h j hj
   rw[ZaQ hj,ZaQ (show j < ss.length by omega)]
   exact h j hj (by omega)
  ·intro h j hj hj'
   have:=h j hj
   rw[ZaQ hj,ZaQ hj'] at this
   exact this
 refine ZgQ (fun i ρ M'=>Kp M2 M'/\(∃ y,ρ=[some (pr u.1 u.2),some (pr v.1 v.2),some (.ref mR),some (.ref mS),some (.ref oc),y])/\ ∀ j:Nat,j < i->dt (cy ss j) (cy rs j)=1/\ ∀ w∈cn,1<=dt (cy ss j) w) ⟨Kp.refl,⟨_,rfl⟩,fun j hj=>by omega⟩ ?_ ?_
 ·rintro k ρ M3 hk ⟨K3,⟨y,rfl⟩,hj⟩
  rw[show (0:Int) + (k:Int)=k by omega]
  have hR3:=K3.get hR2
  have hS3:=K3.get hS2
  have c3:=K3.get c2
  have lc3:=Zag c3
  have rne:rs≠[]:=by intro z;rw[z] at hk;simp at hk
  have sne:ss≠[]:=by intro z;rw[z] at l1;simp at l1;exact rne l1
  have b1:=nS _ (Zdi (i:=(k:Int)) sne)
  simp![Zce,hR3,hS3,Zdh,ZmA b1]
  refine Zmk (fun x M'=>Kp M3 M'/\(x=false ↔ (dt (cy ss k) (cy rs k)=1/\ ∀ w∈cn,1<=dt (cy ss k) w))) ?_ ?_
  ·refine Zq7 (fun z5=> ?_) (fun z5=> ?_)
   ·simp![Zt]
    exact ⟨Kp.refl,tf fun h=>z5 h.1⟩
   ·simp![Zt]
    refine Zo5 (fun ρ=> ∃ x,ρ=[x,some (.ref mS),some (.int k)]) (fun (i:Nat)=> .int (dt (cy ss k) (cy cn i))) c3 (by rw[ZP];omega) ⟨_,rfl⟩ ?_ ?_
    ·rintro i hi ρ L ⟨x,rfl⟩
     rw[CC.ZcZ hi]
     have hS4:(M3 ++ L)[mS]?=some (.lst (prs ss)):=by rw[Zd6 (Zag hS3)];exact hS3
     simp![hS4,Zdh,ZmA b1]
     exact ⟨_,rfl⟩
    ·rw[ZP,Zmj]
     generalize hB:((List.range cn.length).map fun (i:Nat)=>dt (cy ss k) (cy cn i))=Bs
     obtain ⟨mn,hmn⟩: ∃ mn,Bs.min?=some mn:=by
      cases e:Bs.min? with
      |some v=>exact ⟨v,rfl⟩
      |none=>
       rw[List.min?_eq_none_iff] at e
       have h0:Bs.length=0:=by rw[e];rfl
       rw[<- hB,List.length_map,List.length_range] at h0
       omega
     simp![CC.ZiW,hmn]
     refine ⟨Kp.app,?_⟩
     rw[decide_eq_false_iff_not]
     constructor
     ·intro h
      refine ⟨z5,fun w hw=> ?_⟩
      obtain ⟨t,ht,rfl⟩:=List.getElem_of_mem hw
      have:=(List.le_min?_iff hmn).mp (Int.le_refl mn) (dt (cy ss k) (cy cn t)) (by rw[<- hB];exact List.mem_map.mpr ⟨t,List.mem_range.mpr ht,rfl⟩)
      rw[ZaQ ht] at this
      omega
     ·intro h
      have hm:=List.min?_mem hmn
      rw[<- hB] at hm
      obtain ⟨t,ht,e⟩:=List.mem_map.mp hm
      have:=h.2 (cy cn t) (Zdi cne)
      omega
  rintro x M4 ⟨K4,hx⟩
  simp![Zt]
  refine Zml (fun z6=> ?_) (fun z6=> ?_)
  ·simp![Zt]
   subst z6
   refine q false _ (ff ?_) (((K1.trans K2).trans K3).trans K4)
   rw[gi]
   rintro ⟨_,_,_,_,_,c⟩
   have:=hx.mpr (shn.mp c k hk)
   cases this
  ·simp![Zt]
   refine ⟨K3.trans K4,⟨_,rfl⟩,fun j hj'=> ?_⟩
   by_cases c:j < k
   ·exact hj j c
   ·have:j=k:=by omega
    subst this
    exact hx.mp z6
 ·rintro ρ M3 ⟨K3,⟨y,rfl⟩,hj2⟩
  simp![Zt]
  refine q true _ ?_ ((K1.trans K2).trans K3)
  rw[gi]
  exact ⟨fun _=>⟨l1,g1,g2,xp,C1,shn.mpr hj2⟩,fun _=>rfl⟩
end
section
variable {Q:D->Sto->Prop} {E:Str->Sto->Prop} {M M':Sto} {n m:Nat} {u v w:Pt} {d:D} {o:Option Pt} {N B C:Ro->Sto->Prop} {R:D->Sto->Prop}
theorem Pp.up {du dv dR dS:D} {a b:Option Pt} {R S:Option (List (Option Pt))} (p:Pp M du dv dR dS a b R S) (k:Kp M M'):Pp M' du dv dR dS a b R S:=⟨p.u.up k,p.v.up k,p.r.up k,p.s.up k⟩
theorem Zk7 {src:Src} {xs:List D} {tg:Tg} {f:Ev} {k:Nat} {fr:List Nat} {ρ:Ro} (J:Ro->Prop) (F:Nat->D) (hl:xs.length<=1000) (hcnt:xs.length<=cnt src M) (h0:J (roB k fr ρ)) (hs: ∀ M',Kp M M'-> ∀ i,i<=xs.length->nxt src i M'=some xs[i]?)
  (st: ∀ (i:Nat) (h:i < xs.length) ρ M1,J ρ->Kp M M1->wG (tg xs[i] ρ) fun r=>J r/\wO (f r M1) (fun y M2=>y=F i/\Kp M1 M2) (fun _ _=>False))
  (q: ∀ M',Kp M M'->M'[M.length]?=some (.lst ((List.range xs.length).map F))->Q (.ref M.length) M'):kCo tg (fun _ M=> .ok true M) f k fr ρ Q src M:=by
 show wO (ZdG src tg (fun _ M=> .ok true M) f M.length (cnt src M) 0 (roB k fr ρ) (M ++ [.lst []])) _ _
 refine ZiS (xs:=xs) (fun i ρ M'=>J ρ/\Kp M M'/\M.length < M'.length/\M'[M.length]?=some (.lst ((List.range i).map F))) _ 0 _ _ (by omega) (by omega) ⟨h0,Kp.app,by simp,by simp⟩ (fun i ρ M' hi hI=>hs M' hI.2.1 i hi) ?_ ?_
 ·rintro i ρ M1 hi ⟨j,K,lt,hy⟩
  have s:=st i hi ρ M1 j K
  cases e:tg xs[i] ρ with
  |none=>rw[e] at s;exact s.elim
  |some r=>
   rw[e] at s
   refine (show ∀ P:Ro->Prop,P r->wG (some r) P from fun P h=>h) _ ?_
   refine (show ∀ P:Prop,P->Br true P _ from fun P h=>⟨fun _=>h,fun z=>by cases z⟩) _ ?_
   refine ZcY s.2 (fun y M2 h=> ?_) (fun _ _ z=>z)
   obtain ⟨rfl,K2⟩:=h
   have hy2:=K2.get hy
   rw[hy2]
   have l2:=K2.1
   refine ⟨by simp;omega,s.1,(K.trans K2).set (Nat.le_refl _),by rw[List.length_set];omega,?_⟩
   rw[List.getElem?_set_self (by omega),List.range_succ,List.map_append]
   rfl
 ·rintro ρ M1 ⟨-,K,lt,hy⟩
  exact q M1 K hy
noncomputable def shB (cn:List Pt) (r:Pt) (o:Option Pt):Bool:=match o with | some s=>decide (dt s r=1/\ ∀ w∈cn,1<=dt s w) | none=>false
theorem ZmB {cn:List Pt} {f:Pt->Bool}:((List.range cn.length).map fun (i:Nat)=>f (cy cn i)).all id=cn.all f:=by
 have:=Zd4 cn f (0,0)
 rw[<- this]
 congr 1
 apply List.map_congr_left
 intro i hi
 rw[List.mem_range] at hi
 rw[ZaQ hi]
 simp[List.getD_eq_getElem?_getD,hi]
theorem ZpE {cn:List Pt} {r:Pt} {mc:Nat} (v:Vw M d o) (so:Sm o) (hc:M[mc]?=some (.lst (prs cn))) (hl:cn.length<=200) (q: ∀ M',Kp M M'->Q (.bl (shB cn r o)) M'):wO (F_show_stands [d,pr r.1 r.2,.ref mc] M) Q E:=by
 simp![F_show_stands,ZcQ]
 refine Zd3 v ?_
 cases o with
 |none=>
  simp![Zt]
  exact q M Kp.refl
 |some s=>
  have e:d=pr s.1 s.2:=v
  subst e
  have b1:=so s rfl
  simp![Zk6 b1]
  refine brO (fun z=> ?_) (fun z=> ?_)
  ·simp![Zt]
   refine Zo5 (fun ρ=> ∃ x,ρ=[x,some (pr s.1 s.2)]) (fun (i:Nat)=> .bl (decide (1<=dt s (cy cn i)))) hc (by rw[ZP];omega) ⟨_,rfl⟩ ?_ ?_
   ·rintro i hi ρ L ⟨x,rfl⟩
    rw[CC.ZcZ hi]
    simp![Zk6 b1]
    exact ⟨_,rfl⟩
   ·rw[ZP]
    simp![ZcT]
    have e:((List.range cn.length).map fun (i:Nat)=>decide (1<=dt s (cy cn i))).all id=shB cn r (some s):=by
     rw[ZmB (f:=fun w=>decide (1<=dt s w))]
     show _=decide _
     rw[Bool.eq_iff_iff,List.all_eq_true,decide_eq_true_eq]
     simp only[decide_eq_true_eq,z,true_and]
    rw[e]
    exact q _ Kp.app
  ·simp![Zt]
   have e:shB cn r (some s)=false:=decide_eq_false fun h=>z h.1
   rw[<- e]
   exact q _ Kp.refl
theorem Zje {a:Option Pt} (h:Zhy a=true): ∃ u,a=some u/\Int.gcd u.1 u.2=1:=by
 cases a with
 |none=>cases h
 |some u=>exact ⟨u,rfl,of_decide_eq_true h⟩
theorem ZpF {cn rs:List Pt} {LS:List (Option Pt)} {N:Nat} (hN:rs.length=N) (l:N=LS.length):((List.range N).map fun (i:Nat)=>shB cn (cy rs i) (LS.getD i none)).all id=true ↔ ∃ ss,LS=ss.map some/\SHW cn rs ss:=by
 subst hN
 constructor
 ·intro h
  rw[List.all_eq_true] at h
  have h': ∀ i < rs.length,shB cn (cy rs i) (LS.getD i none)=true:=fun i hi=>h _ (List.mem_map.mpr ⟨i,List.mem_range.mpr hi,rfl⟩)
  obtain ⟨ss,rfl⟩:=ZcS (show LS.all Option.isSome=true by
   rw[List.all_eq_true]
   intro o ho
   obtain ⟨i,hi,rfl⟩:=List.getElem_of_mem ho
   have:=h' i (by omega)
   rw[show LS.getD i none=LS[i] by simp[List.getD_eq_getElem?_getD,hi]] at this
   cases e:LS[i] with
   |none=>rw[e] at this;cases this
   |some p=>rfl)
  refine ⟨ss,rfl,fun i hi hs=> ?_⟩
  have:=h' i hi
  rw[show (ss.map some).getD i none=some ss[i] by simp[List.getD_eq_getElem?_getD,hs],ZaQ hi] at this
  exact of_decide_eq_true this
 ·rintro ⟨ss,rfl,h⟩
  rw[List.length_map] at l
  rw[List.all_eq_true]
  intro b hb
  obtain ⟨i,hi,rfl⟩:=List.mem_map.mp hb
  rw[List.mem_range] at hi
  have hs:i < ss.length:=by omega
  show shB cn (cy rs i) _=true
  rw[show (ss.map some).getD i none=some ss[i] by simp[List.getD_eq_getElem?_getD,hs],ZaQ hi]
  exact decide_eq_true (h i hi hs)
theorem Zee {du dv dR dS:D} {a b:Option Pt} {R S:Option (List (Option Pt))} (p:Pp M du dv dR dS a b R S) (sa:Sm a) (sb:Sm b) (sR: ∀ L,R=some L->L.length<=100/\ ∀ o∈L,Sm o) (sS: ∀ L,S=some L->L.length<=100/\ ∀ o∈L,Sm o)
  (q: ∀ x M',(x=true ↔ Zkk a b R S)->Kp M M'->Q (.bl x) M'):wO (F_wedge_stands [du,dv,dR,dS] M) Q E:=by
 simp![F_wedge_stands,Zcu]
 refine ZeZ p.u ?_
 cases ra:Zhy a with
 |false=>
  simp![Zt]
  refine q false M (ff ?_) Kp.refl
  rintro ⟨u',v',rs,ss,rfl,rfl,e3,e4,l,g1,g2,_⟩
  rw[show Zhy (some u')=true from decide_eq_true g1] at ra
  cases ra
 |true=>
 simp![Zt]
 refine ZeZ p.v ?_
 cases rb:Zhy b with
 |false=>
  simp![Zt]
  refine q false M (ff ?_) Kp.refl
  rintro ⟨u',v',rs,ss,rfl,rfl,e3,e4,l,g1,g2,_⟩
  rw[show Zhy (some v')=true from decide_eq_true g2] at rb
  cases rb
 |true=>
 obtain ⟨u,rfl,g1⟩:=Zje ra
 obtain ⟨v,rfl,g2⟩:=Zje rb
 have e1:du=pr u.1 u.2:=p.u
 have e2:dv=pr v.1 v.2:=p.v
 subst e1 e2
 have bu:=sa u rfl
 have bv:=sb v rfl
 have cw: ∀ {M:Sto} {Q:D->Sto->Prop} {E:Str->Sto->Prop} {p r:Pt},Bd 5000 p->wO (CC.F_crossed [pr p.1 p.2,pr r.1 r.2] M) Q E=Q (.int (X p r)) M:=fun h=>CC.Zgg (by unfold Bd at h;omega) (by unfold Bd at h;omega)
 simp![cw bu]
 refine brS (fun z=> ?_) (fun z=> ?_)
 ·simp![Zt]
  refine q false M (ff ?_) Kp.refl
  rintro ⟨u',v',rs,ss,e1,e2,e3,e4,l,_,_,xp,_⟩
  cases e1
  cases e2
  omega
 have xp:0 < X u v:=by omega
 simp![Zt]
 cases R with
 |none=>
  obtain ⟨ds,L,rfl,_,_⟩:=p.r
  simp![Zt]
  exact q false M (ff gN3) Kp.refl
 |some LR=>
 obtain ⟨mR,dsR,rfl,hR,vR⟩:=p.r
 simp![Zeo hR]
 cases S with
 |none=>
  obtain ⟨ds,L,rfl,_,_⟩:=p.s
  simp![Zt]
  exact q false M (ff gN4) Kp.refl
 |some LS=>
 obtain ⟨mS,dsS,rfl,hS,vS⟩:=p.s
 obtain ⟨lR,bR⟩:=sR LR rfl
 obtain ⟨lS,bS⟩:=sS LS rfl
 have kR:=vR.len
 have kS:=vS.len
 simp![Zeo hS,hR,hS]
 refine Zsd (fun z=> ?_) (fun z=> ?_)
 ·simp![Zt]
  refine q false M (ff ?_) Kp.refl
  rintro ⟨u',v',rs,ss,e1,e2,e3,e4,l,_⟩
  cases e3
  cases e4
  simp at kR kS
  omega
 have l1:LR.length=LS.length:=by omega
 simp![Zt]
 refine Zk5 (f:=Zhy) (fun v q=>ZeZ v q) hR vR (by omega) ?_
 simp![ZcT,Zd4 LR Zhy none]
 cases al:LR.all Zhy with
 |false=>
  simp![Zt]
  refine q false _ (ff ?_) Kp.app
  rintro ⟨u',v',rs,ss,e1,e2,e3,e4,l,_,_,xp,ch,_⟩
  cases e3
  have:(rs.map some).all Zhy=true:=by
   rw[List.all_eq_true]
   intro o ho
   obtain ⟨p,hp,rfl⟩:=List.mem_map.mp ho
   obtain ⟨i,hi,rfl⟩:=List.getElem_of_mem hp
   have c:=ch (i + 1) (by simp;omega)
   rw[List.getElem_cons_succ,List.getElem_append_left hi] at c
   exact decide_eq_true (ZrQ c).1
  rw[this] at al
  cases al
 |true=>
 obtain ⟨rs,rfl⟩:=ZcS (show LR.all Option.isSome=true by
  rw[List.all_eq_true] at al ⊢
  intro o ho
  obtain ⟨p,rfl,_⟩:=Zje (al o ho)
  rfl)
 have er:=Ze1 vR
 subst er
 rw[List.length_map] at lR l1
 have nR: ∀ p∈rs,Bd 5000 p:=fun p hp=>bR _ (List.mem_map.mpr ⟨p,hp,rfl⟩) p rfl
 have K1:Kp M (M ++ [SO.lst ((List.range (rs.map some).length).map fun i=>D.bl (Zhy ((rs.map some).getD i none)))]):=Kp.app
 generalize M ++ [SO.lst ((List.range (rs.map some).length).map fun i=>D.bl (Zhy ((rs.map some).getD i none)))]=M1 at *
 have hR1:=K1.get hR
 have hS1:=K1.get hS
 have lmR:=Zag hR1
 simp![hR1]
 refine ⟨by omega,by omega,?_⟩
 generalize hM2:M1 ++ [SO.lst [pr u.1 u.2],SO.lst (prs ((u.1,u.2) :: rs)),SO.lst [pr v.1 v.2],SO.lst (prs ((u.1,u.2) :: (rs ++ [(v.1,v.2)]))),SO.lst (prs (List.drop 1 ((u.1,u.2) :: (rs ++ [(v.1,v.2)]))))]=M2
 have K2:Kp M1 M2:=hM2 ▸ Kp.app
 have c2:M2[M1.length + 3]?=some (.lst (prs (u :: (rs ++ [v])))):=by rw[<- hM2,ZdN];rfl
 have d2:M2[M1.length + 4]?=some (.lst (prs ((u :: (rs ++ [v])).drop 1))):=by rw[<- hM2,ZdN];rfl
 have hR2:=K2.get hR1
 have hS2:=K2.get hS1
 clear hM2
 have lc:(u :: (rs ++ [v])).length=rs.length + 2:=by simp
 have bc: ∀ p∈u :: (rs ++ [v]),Bd 5000 p:=by
  intro p hp
  simp at hp
  rcases hp with rfl | hp | rfl
  ·exact bu
  ·exact nR p hp
  ·exact bv
 have gi:Zkk (some u) (some v) (some (rs.map some)) (some LS) ↔ CHN (u :: (rs ++ [v]))/\ ∃ ss,LS=ss.map some/\SHW (u :: (rs ++ [v])) rs ss:=by
  constructor
  ·intro h
   obtain ⟨u',v',rs',ss,e1,e2,e3,e4,_⟩:=id h
   cases e4
   rw[Ze2] at h
   exact ⟨h.2.2.2.2.1,ss,rfl,h.2.2.2.2.2⟩
  ·rintro ⟨h1,ss,rfl,h2⟩
   rw[Ze2]
   rw[List.length_map] at l1
   exact ⟨l1,g1,g2,xp,h1,h2⟩
 generalize hcn:u :: (rs ++ [v])=cn at *
 have cne:cn≠[]:=by intro z;rw[z] at lc;simp at lc
 generalize M1.length + 3=oc at *
 generalize M1.length + 4=od at *
 have chn:CHN cn ↔ ∀ j:Nat,j < rs.length + 1->X (cy cn j) (cy cn (j + 1))=1:=by
  unfold CHN
  constructor
  ·intro h j hj
   have:=h j (by omega)
   rw[ZaQ (by omega),show ((j:Int) + 1)=((j + 1:Nat):Int) by omega,ZaQ (by omega)]
   exact this
  ·intro h j hj
   have:=h j (by omega)
   rw[ZaQ (by omega),show ((j:Int) + 1)=((j + 1:Nat):Int) by omega,ZaQ (by omega)] at this
   exact this
 have hz:(List.zipWith (fun a b=>D.tup [a,b]) (prs cn) (prs (cn.drop 1))).length=rs.length + 1:=by simp[ZP];omega
 refine ZsR (xs:=List.zipWith (fun a b=>D.tup [a,b]) (prs cn) (prs (cn.drop 1))) (fun ρ=> ∃ x y,ρ=[x,y]) (fun (i:Nat)=> .bl (decide (X (cy cn i) (cy cn (i + 1))=1))) (by omega) (by rw[Zgf c2,hz,ZP];omega) ⟨_,_,rfl⟩ (fun L i hi=> ?_) ?_ ?_
 ·rw[ZiU (by rw[Zd6 (Zag c2)];exact c2) (by rw[Zd6 (Zag d2)];exact d2)]
 ·rintro i hi ρ L ⟨x,y,rfl⟩
  rw[hz] at hi
  rw[List.getElem_zipWith,CC.ZcZ,CC.ZcZ]
  have e:cy (cn.drop 1) i=cy cn (i + 1):=by
   rw[ZaQ (by rw[List.length_drop];omega),show ((i:Int) + 1)=((i + 1:Nat):Int) by omega,ZaQ (by omega),List.getElem_drop]
   congr 1
   omega
  rw[e]
  have b1:=bc _ (Zdi (i:=(i:Int)) cne)
  simp![cw b1]
  exact ⟨_,_,rfl⟩
 rw[hz]
 simp![ZcT]
 have mem:((List.range (rs.length + 1)).map fun (i:Nat)=>decide (X (cy cn i) (cy cn (i + 1))=1)).all id=true ↔ CHN cn:=by
  rw[chn,List.all_eq_true]
  constructor
  ·intro h j hj
   exact of_decide_eq_true (h _ (List.mem_map.mpr ⟨j,List.mem_range.mpr hj,rfl⟩))
  ·intro h b hb
   obtain ⟨j,hj,rfl⟩:=List.mem_map.mp hb
   exact decide_eq_true (h j (List.mem_range.mp hj))
 cases al2:((List.range (rs.length + 1)).map fun (i:Nat)=>decide (X (cy cn i) (cy cn (i + 1))=1)).all id with
 |false=>
  simp![Zt]
  refine q false _ (ff ?_) ((K1.trans K2).trans Kp.app)
  rw[gi]
  rintro ⟨c,_⟩
  rw[mem.mpr c] at al2
  cases al2
 |true=>
 have C1:=mem.mp al2
 simp![Zt]
 generalize hM3:M2 ++ [SO.lst ((List.range (rs.length + 1)).map fun (i:Nat)=>D.bl (decide (X (cy cn i) (cy cn (i + 1))=1)))]=M3
 have K3:Kp M2 M3:=hM3 ▸ Kp.app
 clear hM3
 have hR3:=K3.get hR2
 have hS3:=K3.get hS2
 have c3:=K3.get c2
 have hz2:(List.zipWith (fun a b=>D.tup [a,b]) (prs rs) dsS).length=rs.length:=by simp[ZP];omega
 have vS3:=vS.up ((K1.trans K2).trans K3)
 refine Zk7 (xs:=List.zipWith (fun a b=>D.tup [a,b]) (prs rs) dsS) (fun ρ=> ∃ x y,ρ=[x,y,some (.ref oc)]) (fun (i:Nat)=> .bl (shB cn (cy rs i) (LS.getD i none))) (by omega) (by rw[Zgf hR3,hz2,ZP];omega) ⟨_,_,rfl⟩ (fun M' K i hi=> ?_) ?_ ?_
 ·rw[ZiU (K.get hR3) (K.get hS3)]
 ·rintro i hi ρ M4 ⟨x,y,rfl⟩ K4
  rw[hz2] at hi
  rw[List.getElem_zipWith,CC.ZcZ]
  have eg:LS.getD i none=LS[i]'(by omega):=by simp[List.getD_eq_getElem?_getD,show i < LS.length by omega]
  simp![Zt]
  refine ⟨⟨_,_,rfl⟩,ZpE (o:=LS.getD i none) ?_ ?_ (K4.get c3) (by omega) fun M' K'=>⟨rfl,K'⟩⟩
  ·rw[eg]
   exact (vS3.get i (by omega) (by omega)).up K4
  ·rw[eg]
   exact bS _ (List.getElem_mem _)
 ·intro M' K' e
  rw[hz2] at e
  simp![e,ZcT]
  refine q _ _ ?_ (((K1.trans K2).trans K3).trans K')
  rw[ZpF rfl l1,gi]
  exact ⟨fun h=>⟨C1,h⟩,fun h=>h.2⟩
theorem Zkl {du dv dR dS:D} {a b:Option Pt} {R S:Option (List (Option Pt))} (p:Pp M du dv dR dS a b R S) (sa:Sm a) (sb:Sm b) (sR: ∀ L,R=some L->L.length<=100/\ ∀ o∈L,Sm o) (sS: ∀ L,S=some L->L.length<=100/\ ∀ o∈L,Sm o)
  (q: ∀ x M',(x=true ↔ Zkk a b R S)->Kp M M'->Q (.bl x) M'):wO (F_stands [.tup [.str (PySem.Str.ofString "wedge"),du,dv,dR,dS]] M) Q E:=by
 have s5:slR (.tup [.str (PySem.Str.ofString "wedge"),du,dv,dR,dS]) (some 1) none M= .ok (.tup [du,dv,dR,dS]) M:=rfl
 have w1:(PySem.Str.ofString "wedge" == PySem.Str.ofString "walk")=false:=by decide +kernel
 have w2:(PySem.Str.ofString "wedge" == PySem.Str.ofString "turning")=false:=by decide +kernel
 simp![F_stands,ZgU,s5,Zpa,w1,w2,beq_self_eq_true]
 exact Zee p sa sb sR sS q
noncomputable def OkP (M:Sto) (d:D):Prop:= ∃ a,Vw M d a/\Sm a
noncomputable def OkL (M:Sto) (d:D):Prop:= ∃ R,Ls M d R/\ ∀ L,R=some L->L.length<=100/\ ∀ o∈L,Sm o
theorem OkP.up {d:D} (h:OkP M d) (k:Kp M M'):OkP M' d:=let ⟨a,v,s⟩:=h;⟨a,v.up k,s⟩
theorem okp {p:Pt} (h:Bd 5000 p):OkP M (pr p.1 p.2):=⟨some p,rfl,fun q e=>by cases e;exact h⟩
theorem ZpX {x y:Int} (h:Bd 5000 (x,y)):OkP M (pr x y):=okp h
theorem Zkm {a b:Int} (h:M[m]?=some (.lst [.int a,.int b])):OkP M (.ref m):=⟨none,.inl ⟨m,a,b,rfl,h⟩,fun q e=>nomatch e⟩
theorem Zjf: ∀ (ds:List D),(∀ d∈ds,OkP M d)-> ∃ L,Vws M ds L/\ ∀ o∈L,Sm o
 | [],_=>⟨[],trivial,fun o ho=>by simp at ho⟩
 |d :: ds,h=>by
  obtain ⟨a,v,s⟩:=h d (by simp)
  obtain ⟨L,vs,ss⟩:=Zjf ds fun x hx=>h x (by simp[hx])
  exact ⟨a :: L,⟨v,vs⟩,fun o ho=>by
   rcases List.mem_cons.mp ho with rfl | ho
   ·exact s
   ·exact ss o ho⟩
theorem okl {ds:List D} (h:M[m]?=some (.lst ds)) (hl:ds.length<=100) (ho: ∀ d∈ds,OkP M d):OkL M (.ref m):=by
 obtain ⟨L,v,s⟩:=Zjf ds ho
 exact ⟨some L,⟨m,ds,rfl,h,v⟩,fun L' e=>by cases e;exact ⟨by rw[<- v.len];exact hl,s⟩⟩
theorem okt {ds:List D} (hl:ds.length<=100) (ho: ∀ d∈ds,OkP M d):OkL M (.tup ds):=by
 obtain ⟨L,v,s⟩:=Zjf ds ho
 exact ⟨none,⟨ds,L,rfl,v,by rw[<- v.len];omega⟩,fun L' e=>nomatch e⟩
theorem oks {rs:List Pt} (h: ∀ p∈rs,Bd 5000 p): ∀ d∈prs rs,OkP M d:=fun d hd=>by
 obtain ⟨p,hp,rfl⟩:=List.mem_map.mp hd
 exact okp (h p hp)
theorem Zkn {rs:List Pt} (h:M[m]?=some (.lst (prs rs))) (hl:rs.length<=100) (hb: ∀ p∈rs,Bd 5000 p):OkL M (.ref m):=okl h (by rw[ZP];exact hl) (oks hb)
noncomputable def Ok4 (Q:D->Sto->Prop) (M:Sto):Prop:= ∀ du dv dR dS M',Kp M M'->OkP M' du->OkP M' dv->OkL M' dR->OkL M' dS->Q (.tup [du,dv,dR,dS]) M'
theorem Zko {rs:List Pt} (h1:M[n]?=some (.lst (prs rs))) (h2:M[m]?=some (.lst [])):eqF 12 M (.ref n) (.ref m)=some (decide (rs=[])):=ZqV h1 (ss:=[]) h2
theorem ZmC {rs:List Pt} {x:Pt} {i j:Nat} (h:x∈rs.take i ++ rs.drop j):x∈rs:=by
 rcases List.mem_append.mp h with h | h
 ·exact List.mem_of_mem_take h
 ·exact List.mem_of_mem_drop h
structure Dr (M:Sto) (mr ms:Nat) (u v:Pt) (ws ss:List Pt):Prop where
 r:M[mr]?=some (.lst (prs ws))
 s:M[ms]?=some (.lst (prs ss))
 lw:ws.length<=60
 ls:ss.length=ws.length
 bu:Bd 400 u
 bv:Bd 400 v
 bw: ∀ p∈ws,Bd 400 p
 bs: ∀ p∈ss,Bd 1000 p
theorem Dr.up {mr ms:Nat} {ws ss:List Pt} (h:Dr M mr ms u v ws ss) (k:Kp M M'):Dr M' mr ms u v ws ss:=⟨k.get h.r,k.get h.s,h.lw,h.ls,h.bu,h.bv,h.bw,h.bs⟩
theorem Zbz {a b:Int} {p:Pt} (h:Bd a p) (hab:a<=b):Bd b p:=by unfold Bd at *;omega
theorem Zjg {rs:List Pt} {i j:Nat} (h:M[m]?=some (.lst (prs (rs.take i) ++ d :: prs (rs.drop j)))) (hl:(rs.take i).length + 1 + (rs.drop j).length<=100) (hb: ∀ p∈rs,Bd 5000 p) (hd:OkP M d):OkL M (.ref m):=by
 refine okl h (by rw[List.length_append,List.length_cons,ZP,ZP];omega) fun x hx=> ?_
 rcases List.mem_append.mp hx with hx | hx
 ·exact oks (fun p hp=>hb p (List.mem_of_mem_take hp)) x hx
 ·rcases List.mem_cons.mp hx with rfl | hx
  ·exact hd
  ·exact oks (fun p hp=>hb p (List.mem_of_mem_drop hp)) x hx
noncomputable def tru (x:Int):D:=if x=1 then .bl true else .int x
theorem ZrT {a b:Int} (h:Bd 5000 (a,b)):OkP M (.tup [tru a,tru b]):=by
 unfold tru
 by_cases c1:a=1
 ·by_cases c2:b=1
  ·rw[if_pos c1,if_pos c2]
   exact ⟨none,.inr (.inr (.inr rfl)),fun q e=>nomatch e⟩
  ·rw[if_pos c1,if_neg c2]
   exact ⟨none,.inr (.inl ⟨b,rfl⟩),fun q e=>nomatch e⟩
 ·by_cases c2:b=1
  ·rw[if_neg c1,if_pos c2]
   exact ⟨none,.inr (.inr (.inl ⟨a,rfl⟩)),fun q e=>nomatch e⟩
  ·rw[if_neg c1,if_neg c2]
   exact ZpX h
theorem ZpG {x:Int} {ρ:Ro} (q: ∀ M',Kp M M'->Q (tru x) M'):wO (e2 dIx (Zcn (Zc (Zg 0) (Zc (eC (.bl true)) aNil))) (Zk bInt (Zc (e2 dEq (Zg 0) (eC (.int 1))) aNil)) [some (.int x)] M) Q E:=by
 have q1:=q _ (Kp.app (L:=[SO.lst [.int x,.bl true]]))
 unfold tru at q1
 by_cases c:x=1
 ·rw[if_pos c] at q1
  subst c
  simp![Zj6]
  exact q1
 ·rw[if_neg c] at q1
  simp![Zj6]
  exact q1
theorem ZmD {mr ms:Nat} {ws ss:List Pt} {k z:Int} (h:Dr M mr ms u v ws ss) (hz:0<=z) (q:Ok4 Q M):wO (F_law_other_kind [pr u.1 u.2,pr v.1 v.2,.ref mr,.ref ms,.int k,.int z] M) Q E:=by
 have wF6: ∀ {bd:Sv} {k:Nat} {a b c d e f:D},wO (fnF bd 6 k [a,b,c,d,e,f] M) Q E=wS (bd (some a :: some b :: some c :: some d :: some e :: some f :: List.replicate k none) M) (Zmg Q) Q (fun _ _=>False) (fun _ _=>False) E:=wF rfl
 have ou: ∀ {M:Sto},OkP M (pr u.1 u.2):=okp (Zbz h.bu (by decide))
 have ov: ∀ {M:Sto},OkP M (pr v.1 v.2):=okp (Zbz h.bv (by decide))
 have oR: ∀ {M':Sto},Kp M M'->OkL M' (.ref mr):=fun K=>Zkn (K.get h.r) (by have:=h.lw;omega) fun p hp=>Zbz (h.bw p hp) (by decide)
 have oS: ∀ {M':Sto},Kp M M'->OkL M' (.ref ms):=fun K=>Zkn (K.get h.s) (by have:=h.lw;have:=h.ls;omega) fun p hp=>Zbz (h.bs p hp) (by decide)
 have hr:=h.r
 have hs:=h.s
 have lr:=Zag hr
 have ls:=Zag hs
 have lw:=h.lw
 have lss:=h.ls
 simp![F_law_other_kind,Zb0,wF6]
 refine brS (fun zk=> ?_) (fun zk=> ?_)
 ·simp![Zt]
  exact q _ _ _ _ _ Kp.app (Zkm (a:=u.1) (b:=u.2) (by simp)) ov (oR Kp.app) (oS Kp.app)
 simp![Zt]
 refine brS (fun zk=> ?_) (fun zk=> ?_)
 ·simp![Zt]
  exact q _ _ _ _ _ Kp.app ou (Zkm (a:=v.1) (b:=v.2) (by simp)) (oR Kp.app) (oS Kp.app)
 have i0:0<=z % max 1 (ws.length:Int):=Int.emod_nonneg _ (by omega)
 have i1:ws≠[]->z % max 1 (ws.length:Int) < ws.length:=fun ne=>by
  have:=Int.emod_lt_of_pos z (show (0:Int) < max 1 (ws.length:Int) by omega)
  have:=List.length_pos_iff.mpr ne
  omega
 simp![hr]
 generalize z % max 1 (ws.length:Int)=i at *
 have e0:eqF 12 (M ++ [SO.lst []]) (.ref mr) (.ref M.length)=some (decide (ws=[])):=Zko (by rw[Zd6 lr];exact hr) (by simp)
 refine Zmk (fun x M'=>Kp M M'/\(x=true->ws≠[])) ?_ ?_
 ·refine brO (fun z=> ?_) (fun z=> ?_)
  ·simp![e0]
   exact ⟨Kp.app,fun h=>by simpa using h⟩
  ·simp![Zt]
   exact ⟨Kp.refl,fun h=>by cases h⟩
 rintro x M1 ⟨K1,hx⟩
 simp![Zt]
 have hr1:=K1.get hr
 have lr1:=Zag hr1
 refine Zml (fun zk=> ?_) (fun zk=> ?_)
 ·have j1:=i1 (hx zk)
  simp![hr1,Zdh]
  refine ⟨by simp only[List.length_take];omega,by simp only[List.length_take,List.length_drop];omega,?_⟩
  refine q _ _ _ _ _ (K1.trans Kp.app) ou ov ?_ (oS (K1.trans Kp.app))
  exact Zjg (rs:=ws) (by rw[ZdN];rfl) (by simp only[List.length_take,List.length_drop];omega) (fun p hp=>Zbz (h.bw p hp) (by decide)) (Zkm (a:=(cy ws i).1) (b:=(cy ws i).2) (by rw[ZdN];rfl))
 simp![Zt]
 have e1:eqF 12 (M1 ++ [SO.lst []]) (.ref mr) (.ref M1.length)=some (decide (ws=[])):=Zko (by rw[Zd6 lr1];exact hr1) (by simp)
 refine Zmk (fun x M'=>Kp M1 M'/\(x=true->ws≠[])) ?_ ?_
 ·refine brO (fun z=> ?_) (fun z=> ?_)
  ·simp![e1]
   exact ⟨Kp.app,fun h=>by simpa using h⟩
  ·simp![Zt]
   exact ⟨Kp.refl,fun h=>by cases h⟩
 rintro x2 M2 ⟨K2,hx2⟩
 simp![Zt]
 have hr2:=K2.get hr1
 have lr2:=Zag hr2
 have K02:=K1.trans K2
 refine Zml (fun zk=> ?_) (fun zk=> ?_)
 ·have j1:=i1 (hx2 zk)
  have bb:Bd 5000 (cy ws i):=Zbz (h.bw _ (Zdi (hx2 zk))) (by decide)
  simp![hr2,Zdh]
  refine Zk7 (xs:=[.int (cy ws i).1,.int (cy ws i).2]) (fun ρ=> ∃ x,ρ=[x]) (fun (j:Nat)=>if j=0 then tru (cy ws i).1 else tru (cy ws i).2) (by simp) (by simp[cnt]) ⟨_,rfl⟩ (fun M' K j hj=>rfl) ?_ fun M3 K3 e=> ?_
  ·rintro j hj ρ M3 ⟨x,rfl⟩ K3
   have:j=0\/j=1:=by simp at hj;omega
   rcases this with rfl | rfl
   ·simp![Zt]
    exact ⟨⟨_,rfl⟩,ZpG (ρ:=[]) fun M' K'=>⟨rfl,K'⟩⟩
   ·simp![Zt]
    exact ⟨⟨_,rfl⟩,ZpG (ρ:=[]) fun M' K'=>⟨rfl,K'⟩⟩
  ·have e':M3[M2.length]?=some (.lst [tru (cy ws i).1,tru (cy ws i).2]):=e
   have hr3:=K3.get hr2
   have lr3:=Zag hr3
   simp![CU.ZrN e',hr3]
   refine ⟨by simp only[List.length_take];omega,by simp only[List.length_take,List.length_drop];omega,?_⟩
   refine q _ _ _ _ _ ((K02.trans K3).trans Kp.app) ou ov ?_ (oS ((K02.trans K3).trans Kp.app))
   exact Zjg (rs:=ws) (by rw[ZdN];rfl) (by simp only[List.length_take,List.length_drop];omega) (fun p hp=>Zbz (h.bw p hp) (by decide)) (ZrT bb)
 have hs2:=K02.get hs
 have ls2:=Zag hs2
 simp![Zt]
 have e2:eqF 12 (M2 ++ [SO.lst []]) (.ref ms) (.ref M2.length)=some (decide (ss=[])):=Zko (by rw[Zd6 ls2];exact hs2) (by simp)
 refine Zmk (fun x M'=>Kp M2 M'/\(x=true->ss≠[])) ?_ ?_
 ·refine brO (fun z=> ?_) (fun z=> ?_)
  ·simp![e2]
   exact ⟨Kp.app,fun h=>by simpa using h⟩
  ·simp![Zt]
   exact ⟨Kp.refl,fun h=>by cases h⟩
 rintro x3 M3 ⟨K3,hx3⟩
 simp![Zt]
 have hs3:=K3.get hs2
 have ls3:=Zag hs3
 have K03:=K02.trans K3
 refine Zml (fun zk=> ?_) (fun zk=> ?_)
 ·have j1:i < ss.length:=by
   have:=i1 (fun e=>hx3 zk (by rw[<- List.length_eq_zero_iff,lss,e];rfl))
   omega
  simp![hs3,Zdh]
  refine ⟨by simp only[List.length_take];omega,by simp only[List.length_take,List.length_drop];omega,?_⟩
  refine q _ _ _ _ _ (K03.trans Kp.app) ou ov (oR (K03.trans Kp.app)) ?_
  exact Zjg (rs:=ss) (by rw[ZdN];rfl) (by simp only[List.length_take,List.length_drop];omega) (fun p hp=>Zbz (h.bs p hp) (by decide)) (Zkm (a:=(cy ss i).1) (b:=(cy ss i).2) (by rw[ZdN];rfl))
 ·simp![Zt]
  exact q _ _ _ _ _ K03 ou ov (oR K03) (oS K03)
theorem Zk8 {rs:List Pt} {i j:Nat} (h:M[m]?=some (.lst (prs (rs.take i ++ rs.drop j)))) (hl:(rs.take i).length + (rs.drop j).length<=100) (hb: ∀ p∈rs,Bd 5000 p):OkL M (.ref m):=
 Zkn h (by rw[List.length_append];exact hl) fun p hp=>hb p (ZmC hp)
theorem Zjh {rs:List Pt} {i j:Nat} {a b:Int} (h:M[m]?=some (.lst (prs (rs.take i ++ (a,b) :: rs.drop j)))) (hl:(rs.take i).length + 1 + (rs.drop j).length<=100) (hb: ∀ p∈rs,Bd 5000 p) (hd:Bd 5000 (a,b)):OkL M (.ref m):=by
 refine Zkn h (by simp only[List.length_append,List.length_cons];omega) fun p hp=> ?_
 rcases List.mem_append.mp hp with hp | hp
 ·exact hb p (List.mem_of_mem_take hp)
 ·rcases List.mem_cons.mp hp with rfl | hp
  ·exact hd
  ·exact hb p (List.mem_of_mem_drop hp)
theorem Zkp {mr ms:Nat} {ws ss:List Pt} {z:Int} (h:Dr M mr ms u v ws ss) (hz:0<=z) (q:Ok4 Q M):wO (F_law_spoilt [pr u.1 u.2,pr v.1 v.2,.ref mr,.ref ms,.int z] M) Q E:=by
 have wF5: ∀ {bd:Sv} {k:Nat} {a b c d e:D},wO (fnF bd 5 k [a,b,c,d,e] M) Q E=wS (bd (some a :: some b :: some c :: some d :: some e :: List.replicate k none) M) (Zmg Q) Q (fun _ _=>False) (fun _ _=>False) E:=wF rfl
 have ou: ∀ {M:Sto},OkP M (pr u.1 u.2):=okp (Zbz h.bu (by decide))
 have ov: ∀ {M:Sto},OkP M (pr v.1 v.2):=okp (Zbz h.bv (by decide))
 have oR: ∀ {M':Sto},Kp M M'->OkL M' (.ref mr):=fun K=>Zkn (K.get h.r) (by have:=h.lw;omega) fun p hp=>Zbz (h.bw p hp) (by decide)
 have oS: ∀ {M':Sto},Kp M M'->OkL M' (.ref ms):=fun K=>Zkn (K.get h.s) (by have:=h.lw;have:=h.ls;omega) fun p hp=>Zbz (h.bs p hp) (by decide)
 have bw5: ∀ p∈ws,Bd 5000 p:=fun p hp=>Zbz (h.bw p hp) (by decide)
 have bs5: ∀ p∈ss,Bd 5000 p:=fun p hp=>Zbz (h.bs p hp) (by decide)
 have hr:=h.r
 have hs:=h.s
 have lr:=Zag hr
 have ls:=Zag hs
 have lw:=h.lw
 have lss:=h.ls
 have z8:0<=z / 18:=Int.ediv_nonneg hz (by decide)
 have i0:0<=z / 18 % ((ws.length:Int) + 1):=Int.emod_nonneg _ (by omega)
 have i1:z / 18 % ((ws.length:Int) + 1) < ws.length + 1:=Int.emod_lt_of_pos _ (by omega)
 simp![F_law_spoilt,Zdn,wF5,hr]
 generalize z / 18 % ((ws.length:Int) + 1)=i at *
 generalize z / 18=y at *
 generalize z % 18=kd at *
 refine brS (fun zk=> ?_) (fun zk=> ?_)
 ·simp![hs,hr]
  refine ⟨by simp only[List.length_take,List.length_drop];omega,by simp only[List.length_take,List.length_drop];omega,?_⟩
  refine q _ _ _ _ _ Kp.app ou ov (Zk8 (rs:=ws) (by rw[ZdN];rfl) (by simp only[List.length_take,List.length_drop];omega) bw5) (Zk8 (rs:=ss) (by rw[ZdN];rfl) (by simp only[List.length_take,List.length_drop];omega) bs5)
 simp![Zt]
 refine brS (fun zk=> ?_) (fun zk=> ?_)
 ·simp![hr,hs]
  refine ⟨by omega,by omega,?_⟩
  generalize hcn:(u.1,u.2) :: (ws ++ [(v.1,v.2)])=cn
  have lc:cn.length=ws.length + 2:=by rw[<- hcn];simp
  have cne:cn≠[]:=by intro z;rw[z] at lc;simp at lc
  have bc: ∀ p∈cn,Bd 400 p:=by
   intro p hp
   rw[<- hcn] at hp
   simp at hp
   rcases hp with rfl | hp | rfl
   ·exact h.bu
   ·exact h.bw p hp
   ·exact h.bv
  have b1:=bc _ (Zdi (i:=i) cne)
  have b2:=bc _ (Zdi (i:=i + 1) cne)
  have bb:Bd 5000 ((cy cn i).1 + (cy cn (i + 1)).1,(cy cn i).2 + (cy cn (i + 1)).2):=by unfold Bd at *;simp only;omega
  simp![Zdh,hr,hs]
  refine ⟨?_,?_,?_,?_,?_⟩
  rotate_left 4
  ·exact q _ _ _ _ _ Kp.app ou ov (Zjh (rs:=ws) (by rw[ZdN];rfl) (by simp only[List.length_take,List.length_drop];omega) bw5 bb) (Zjh (rs:=ss) (a:=1) (b:=1) (by rw[ZdN];rfl) (by simp only[List.length_take,List.length_drop];omega) bs5 (by unfold Bd;decide))
  all_goals (simp only[List.length_take,List.length_drop];omega)
 simp![Zt]
 have e0:eqF 12 (M ++ [SO.lst []]) (.ref ms) (.ref M.length)=some (decide (ss=[])):=Zko (by rw[Zd6 ls];exact hs) (by simp)
 refine Zmk (fun x M'=>Kp M M'/\(x=true->ss≠[])) ?_ ?_
 ·refine brO (fun z=> ?_) (fun z=> ?_)
  ·simp![e0]
   exact ⟨Kp.app,fun h=>by simpa using h⟩
  ·simp![Zt]
   exact ⟨Kp.refl,fun h=>by cases h⟩
 rintro x M1 ⟨K1,hx⟩
 simp![Zt]
 have hr1:=K1.get hr
 have lr1:=Zag hr1
 have hs1:=K1.get hs
 have ls1:=Zag hs1
 refine Zml (fun zk=> ?_) (fun zk=> ?_)
 ·have sp:=List.length_pos_iff.mpr (hx zk)
  have t0:0<=i % (ss.length:Int):=Int.emod_nonneg _ (by omega)
  have t1:i % (ss.length:Int) < ss.length:=Int.emod_lt_of_pos _ (by omega)
  have bb:=h.bs _ (Zdi (i:=i % (ss.length:Int)) (hx zk))
  simp![hs1,Zdh]
  generalize i % (ss.length:Int)=t at *
  generalize cy ss t=p at *
  have r1:0<=y / 100 % 3/\y / 100 % 3 < 3:=by omega
  have r2:0<=y / 300 % 3/\y / 300 % 3 < 3:=by omega
  refine ⟨by simp only[List.length_take];omega,by simp only[List.length_take,List.length_drop];omega,?_⟩
  exact q _ _ _ _ _ (K1.trans Kp.app) ou ov (oR (K1.trans Kp.app)) (Zjh (rs:=ss) (by rw[ZdN];rfl) (by simp only[List.length_take,List.length_drop];omega) bs5 (by unfold Bd at *;simp only;omega))
 simp![Zt]
 refine brS (fun zk=> ?_) (fun zk=> ?_)
 ·simp![ZrI,hs1,ZpV]
  refine q _ _ _ _ _ (K1.trans Kp.app) ou ov (oR (K1.trans Kp.app)) (okl (ds:=(prs ss).reverse) (by simp) (by rw[List.length_reverse,ZP];omega) fun d hd=>oks bs5 d (List.mem_reverse.mp hd))
 simp![Zt]
 refine brS (fun zk=> ?_) (fun zk=> ?_)
 ·simp![hs1]
  refine q _ _ _ _ _ (K1.trans Kp.app) ou ov (oR (K1.trans Kp.app)) (Zkn (rs:=ss.drop 1) (by simp) (by rw[List.length_drop];omega) fun p hp=>bs5 p (List.mem_of_mem_drop hp))
 simp![Zt]
 refine brS (fun zk=> ?_) (fun zk=> ?_)
 ·simp![CU.ZrN hr1]
  exact q _ _ _ _ _ K1 ou ov (okt (by rw[ZP];omega) (oks bw5)) (oS K1)
 simp![Zt]
 refine brS (fun zk=> ?_) (fun zk=> ?_)
 ·simp![Zt]
  exact q _ _ _ _ _ K1 ov ou (oR K1) (oS K1)
 simp![Zt]
 refine brS (fun zk=> ?_) (fun zk=> ?_)
 ·simp![Zt]
  have bv:=h.bv
  exact q _ _ _ _ _ K1 ou (ZpX (by unfold Bd at *;simp only;omega)) (oR K1) (oS K1)
 simp![Zt]
 refine brS (fun zk=> ?_) (fun zk=> ?_)
 ·simp![hs1]
  refine Zo5 (fun ρ=> ∃ x,ρ=[x]) (fun (i:Nat)=> .tup [.int (cy ss i).1,.bl true]) hs1 (by rw[ZP];omega) ⟨_,rfl⟩ ?_ ?_
  ·rintro j hj ρ L ⟨x,rfl⟩
   rw[CC.ZcZ hj]
   simp![Zt]
   exact ⟨_,rfl⟩
  ·rw[ZP]
   simp![Zt]
   refine q _ _ _ _ _ (K1.trans Kp.app) ou ov (oR (K1.trans Kp.app)) (okl (ds:=(List.range ss.length).map fun (i:Nat)=>D.tup [.int (cy ss i).1,.bl true]) (by simp) (by simp;omega) fun d hd=> ?_)
   obtain ⟨j,_,rfl⟩:=List.mem_map.mp hd
   exact ⟨none,.inr (.inr (.inl ⟨_,rfl⟩)),fun q e=>nomatch e⟩
 simp![Zt]
 refine brS (fun zk=> ?_) (fun zk=> ?_)
 ·simp![Zt]
  generalize hM2:M1 ++ [SO.lst [D.tup [D.int 0,D.int 1],D.tup [D.int (-1),D.int (-1)],D.tup [D.int 1,D.int 0],D.tup [D.int 0,D.int 1],D.tup [D.int (-1),D.int (-1)]],SO.lst [D.tup [D.int 1,D.int 0]],SO.lst [D.tup [D.int 0,D.int 1],D.tup [D.int (-1),D.int (-1)],D.tup [D.int 1,D.int 0],D.tup [D.int 0,D.int 1],D.tup [D.int (-1),D.int (-1)],D.tup [D.int 1,D.int 0]]]=M2
  have K2:Kp M1 M2:=hM2 ▸ Kp.app
  have a0:M2[M1.length]?=some (.lst (prs [(0,1),(-1,-1),(1,0),(0,1),(-1,-1)])):=by rw[<- hM2,Zhd];rfl
  have a1:M2[M1.length + 2]?=some (.lst (prs [(0,1),(-1,-1),(1,0),(0,1),(-1,-1),(1,0)])):=by rw[<- hM2,ZdN];rfl
  clear hM2
  have la1:=Zag a1
  generalize M1.length + 2=o2 at *
  generalize M1.length=o1 at *
  refine Zo5 (fun ρ=> ∃ x,ρ=[x]) (fun (i:Nat)=>pr 1 0) a0 (by decide) ⟨_,rfl⟩ ?_ ?_
  ·rintro j hj ρ L ⟨x,rfl⟩
   simp![Zt]
   exact ⟨_,rfl⟩
  ·rw[show (List.range (prs [(0,1),(-1,-1),(1,0),(0,1),(-1,-1)]).length).map (fun (_:Nat)=>pr 1 0)=prs [(1,0),(1,0),(1,0),(1,0),(1,0)] from rfl]
   simp![Zt]
   have bd6: ∀ p∈([(0,1),(-1,-1),(1,0),(0,1),(-1,-1),(1,0)]:List Pt),Bd 5000 p:=by unfold Bd;decide
   have bd7: ∀ p∈([(1,0),(1,0),(1,0),(1,0),(1,0),(1,0)]:List Pt),Bd 5000 p:=by unfold Bd;decide
   have K3:Kp M2 (M2 ++ [SO.lst (prs [(1,0),(1,0),(1,0),(1,0),(1,0)]),SO.lst [D.tup [D.int 1,D.int 0]],SO.lst (prs [(1,0),(1,0),(1,0),(1,0),(1,0),(1,0)])]):=Kp.app
   exact q _ _ _ _ _ ((K1.trans K2).trans Kp.app) (ZpX (by unfold Bd;decide)) (ZpX (by unfold Bd;decide)) (Zkn (K3.get a1) (by decide) bd6) (Zkn (rs:=[(1,0),(1,0),(1,0),(1,0),(1,0),(1,0)]) (by rw[ZdN];rfl) (by decide) bd7)
 simp![Zt]
 exact ZmD (h.up K1) z8 fun du dv dR dS M' K a b c d=>q _ _ _ _ _ (K1.trans K) a b c d
theorem Zhw {x y:Int} (hx: -200<=x/\x<=200) (hy: -200<=y/\y<=200) (q: ∀ w:Pt,Int.gcd w.1 w.2=1->Bd 200 w->Q (pr w.1 w.2) M):wO (F_law_straight [.int x,.int y] M) Q E:=by
 simp![F_law_straight,Zcv]
 refine Ze0 ?_
 simp![Zt]
 refine brS (fun z=> ?_) (fun z=> ?_)
 ·simp![Zt]
  exact q (1,0) rfl (by unfold Bd;decide)
 ·have g0:0 < Int.gcd x y:=by omega
  have g1:Int.gcd x y<=200:=by
   by_cases c:x=0
   ·have:y≠0:=fun e=>by rw[c,e] at g0;simp at g0
    have:=Nat.le_of_dvd (by omega) (Int.gcd_dvd_natAbs_right x y)
    omega
   ·have:=Nat.le_of_dvd (by omega) (Int.gcd_dvd_natAbs_left x y)
    omega
  have b1:=Int.natAbs_ediv_le_natAbs x (Int.gcd x y)
  have b2:=Int.natAbs_ediv_le_natAbs y (Int.gcd x y)
  simp![Zt]
  refine q (x / (Int.gcd x y:Nat),y / (Int.gcd x y:Nat)) (Int.gcd_ediv_gcd_ediv_gcd g0) ⟨by simp only;omega,by simp only;omega⟩
theorem Zkq {z:Int} (hz:0<=z) (q: ∀ u v M',Wg u v->Bd 200 u->Bd 200 v->Kp M M'->Q (.tup [pr u.1 u.2,pr v.1 v.2]) M'):wO (F_law_wedge [.int z] M) Q E:=by
 simp![F_law_wedge,Zd2]
 obtain ⟨f,hf,f0,f1⟩: ∃ f:Int,atI [D.int 30,D.int 30,D.int 30,D.int 30,D.int 30,D.int 30,D.int 30,D.int 200] (z % 8)=some (.int f)/\1<=f/\f<=200:=by
  have:z % 8=0\/z % 8=1\/z % 8=2\/z % 8=3\/z % 8=4\/z % 8=5\/z % 8=6\/z % 8=7:=by omega
  rcases this with h | h | h | h | h | h | h | h<;>rw[h]
  ·exact ⟨30,rfl,by decide,by decide⟩
  ·exact ⟨30,rfl,by decide,by decide⟩
  ·exact ⟨30,rfl,by decide,by decide⟩
  ·exact ⟨30,rfl,by decide,by decide⟩
  ·exact ⟨30,rfl,by decide,by decide⟩
  ·exact ⟨30,rfl,by decide,by decide⟩
  ·exact ⟨30,rfl,by decide,by decide⟩
  ·exact ⟨200,rfl,by decide,by decide⟩
 simp![hf]
 generalize hM1:M ++ [SO.lst [D.int 30,D.int 30,D.int 30,D.int 30,D.int 30,D.int 30,D.int 30,D.int 200],SO.lst []]=M1
 have K1:Kp M M1:=hM1 ▸ Kp.app
 have t1:M1[M.length + 1]?=some (.lst (prs [])):=by rw[<- hM1,ZdN];rfl
 have lo:M.length<=M.length + 1:=Nat.le_succ _
 clear hM1
 generalize M.length + 1=o at *
 refine ZgQ (fun i ρ M'=>Kp M M'/\(∃ z x3 x4 x5,0<=z/\ρ=[some (.int z),some (.int f),some (.ref o),x3,x4,x5])/\ ∃ ps:List Pt,M'[o]?=some (.lst (prs ps))/\ps.length=i/\ ∀ p∈ps,Int.gcd p.1 p.2=1/\Bd 200 p) ⟨K1,⟨_,_,_,_,Int.ediv_nonneg hz (by decide),rfl⟩,[],t1,rfl,fun p hp=>by simp at hp⟩ ?_ ?_
 ·rintro i ρ M2 hi ⟨K2,⟨z,x3,x4,x5,z0,rfl⟩,ps,t2,pl,pg⟩
  have lt2:=Zag t2
  have r1:0<=z % (2 * f + 1)/\z % (2 * f + 1) < 2 * f + 1:=⟨Int.emod_nonneg _ (by omega),Int.emod_lt_of_pos _ (by omega)⟩
  have r2:0<=z / (2 * f + 1) % (2 * f + 1)/\z / (2 * f + 1) % (2 * f + 1) < 2 * f + 1:=⟨Int.emod_nonneg _ (by omega),Int.emod_lt_of_pos _ (by omega)⟩
  have z1:0<=z / (2 * f + 1) / (2 * f + 1):=Int.ediv_nonneg (Int.ediv_nonneg z0 (by omega)) (by omega)
  simp![Zcw,t2]
  refine Zhw (by omega) (by omega) fun w gw bw=> ?_
  simp![t2]
  refine ⟨by omega,K2.set lo,⟨_,_,_,_,z1,rfl⟩,ps ++ [w],?_,by simp[pl],fun p hp=> ?_⟩
  ·rfl
  ·rcases List.mem_append.mp hp with hp | hp
   ·exact pg p hp
   ·rw[List.mem_singleton.mp hp]
    exact ⟨gw,bw⟩
 ·rintro ρ M2 ⟨K2,⟨z,x3,x4,x5,z0,rfl⟩,ps,t2,pl,pg⟩
  match ps,pl with
  | [a,b],_=>
  obtain ⟨ga,ba⟩:=pg a (by simp)
  obtain ⟨gb,bb⟩:=pg b (by simp)
  have cw: ∀ {M:Sto} {Q:D->Sto->Prop} {E:Str->Sto->Prop} {p r:Pt},Bd 200 p->wO (CC.F_law_cross [pr p.1 p.2,pr r.1 r.2] M) Q E=Q (.int (X p r)) M:=fun h=>CC.Zgg (by unfold Bd at h;omega) (by unfold Bd at h;omega)
  have t3:M2[o]?=some (.lst [pr a.1 a.2,pr b.1 b.2]):=t2
  have xs:X b a=0 - X a b:=Zo9 b a
  simp![t3,cw ba]
  refine brS (fun zk=> ?_) (fun zk=> ?_)
  ·simp![t3]
   exact q b a M2 ⟨gb,ga,Zbz bb (by decide),Zbz ba (by decide),by omega⟩ bb ba K2
  simp![t3,cw ba]
  refine brS (fun zk=> ?_) (fun zk=> ?_)
  ·simp![Zt]
   exact q (1,0) (0,1) M2 ⟨rfl,rfl,by unfold Bd;decide,by unfold Bd;decide,by decide⟩ (by unfold Bd;decide) (by unfold Bd;decide) K2
  ·simp![t3]
   exact q a b M2 ⟨ga,gb,Zbz ba (by decide),Zbz bb (by decide),by omega⟩ ba bb K2
theorem ZpH: ∀ (l:List Pt) {B:Int},(∀ p∈l,Bd B p)-> ∀ p∈shw l,Bd (2 * B) p:=by
 intro l B h p hp
 obtain ⟨i,hi,rfl⟩:=List.getElem_of_mem hp
 rw[CB.ZdT] at hi
 have e:=CB.Zgj l i (by omega)
 rw[List.getElem?_eq_getElem (by rw[CB.ZdT];omega)] at e
 rw[Option.some.inj e]
 have a:=h _ (List.getElem_mem (show i < l.length by omega))
 have b:=h _ (List.getElem_mem (show i + 1 < l.length by omega))
 unfold Bd at *
 simp only
 omega
theorem ZpI {ns:List Int} {k:Nat} {x2 x3 x4 x5 x6 x7 x8 x9 x10 x11:Option D} (hk:k < 1000) (hN: ∀ x2 x3 x4 x5 x6 x7 x8 x9 x10 x11 M',N [some (.rol (ns.map D.int)),some (.int k),x2,x3,x4,x5,x6,x7,x8,x9,x10,x11] M'):
  wS (ZeY [some (.rol (ns.map D.int)),some (.int k),x2,x3,x4,x5,x6,x7,x8,x9,x10,x11] M) N R B C E:=by
 simp![ZeY]
 refine CC.ZfD fun c c0=> ?_
 simp![Zt]
 refine Zkq c0 fun u v M1 hw bu bv K1=> ?_
 obtain ⟨w,hf⟩:=CB.Zpc hw
 have xl:=(CB.ZsT bu bv).2
 simp![Zt]
 refine CB.ZdS hw hf (by omega) ?_
 have r1:(M1 ++ [SO.lst (nts (hj (X u v) (X w v))),SO.lst (prs (btw u w (hj (X u v) (X w v))))])[M1.length + 1]?=some (.lst (prs (btw u w (hj (X u v) (X w v))))):=by rw[ZdN];rfl
 generalize M1 ++ [SO.lst (nts (hj (X u v) (X w v))),SO.lst (prs (btw u w (hj (X u v) (X w v))))]=M2 at *
 generalize M1.length + 1=o at *
 simp![r1]
 refine ZtQ (fun ρ M'=> ∃ (u v w:Pt) (o:Nat),Wg u v/\Fb u v w/\Bd 200 u/\Bd 200 v/\(btw u w (hj (X u v) (X w v))).length<=60/\M'[o]?=some (.lst (prs (btw u w (hj (X u v) (X w v)))))/\ρ=[some (.rol (ns.map D.int)),some (.int k),some (pr u.1 u.2),some (pr v.1 v.2),some (.ref o),x5,x6,x7,x8,x9,x10,x11]) ?_ ?_
 ·refine brS (fun zk=> ?_) (fun zk=> ?_)
  ·have hw2:Wg (1,0) (-3,4):=⟨by decide,by decide,by unfold Bd;decide,by unfold Bd;decide,by decide⟩
   obtain ⟨w2,hf2⟩:=CB.Zpc hw2
   simp![Zt]
   refine CB.ZdS (u:=(1,0)) (v:=(-3,4)) hw2 hf2 (by decide) ?_
   simp![Zt]
   refine ⟨(1,0),(-3,4),w2,M2.length + 1,hw2,hf2,by unfold Bd;decide,by unfold Bd;decide,?_,by rw[ZdN];rfl,rfl⟩
   rw[CB.Zgi]
   have h1:=ZiY _ (X (1,0) (-3,4)) (X w2 (-3,4)) rfl
   have h2:=hf2.hi
   have h3:X (1,0) (-3,4)=4:=by decide
   omega
  ·simp![Zt]
   exact ⟨u,v,w,o,hw,hf,bu,bv,by omega,r1,rfl⟩
 rintro _ M3 ⟨u,v,w,o,hw,hf,bu,bv,wl,r3,rfl⟩
 have xl:=(CB.ZsT bu bv).2
 simp![Zt]
 refine CB.Zms hw hf xl fun m M4 lm s4 l4 k4=> ?_
 have K4:Kp M3 M4:=⟨l4,k4⟩
 have r4:=K4.get r3
 have bw:=CB.Zpe hw hf bu bv
 have sl:=CB.ZdT (btw u w (hj (X u v) (X w v)) ++ [v])
 have bs:=ZpH (btw u w (hj (X u v) (X w v)) ++ [v]) (B:=400) fun p hp=>by
  rcases List.mem_append.mp hp with hp | hp
  ·exact bw p hp
  ·rw[List.mem_singleton.mp hp]
   exact Zbz bv (by decide)
 have dr:Dr M4 o m u v (btw u w (hj (X u v) (X w v))) (shw (btw u w (hj (X u v) (X w v)) ++ [v])):=⟨r4,s4,wl,by rw[sl];simp,Zbz bu (by decide),Zbz bv (by decide),bw,fun p hp=>Zbz (bs p hp) (by decide)⟩
 clear sl bs
 simp![Zt]
 rw[show ((k:Int) + 1)=((k + 1:Nat):Int) by omega]
 refine CC.ZfD fun c2 c20=> ?_
 simp![Zt]
 refine Zkp dr c20 fun du dv dR dS M5 K5 ⟨a,va,sa⟩ ⟨b,vb,sb⟩ ⟨Rr,lR,sR⟩ ⟨Sr,lS,sS⟩=> ?_
 have pp:Pp M5 du dv dR dS a b Rr Sr:=⟨va,vb,lR,lS⟩
 simp![Zt]
 refine Zf0 pp sa sb sR sS fun x M6 hx K6=> ?_
 have pp6:=pp.up K6
 have l1:lnO Rr<=1000:=by
  cases Rr with
  |none=>show 0<=1000;omega
  |some L=>have:=(sR L rfl).1;show L.length<=1000;omega
 have l2:lnO Sr<=1000:=by
  cases Sr with
  |none=>show 0<=1000;omega
  |some L=>have:=(sS L rfl).1;show L.length<=1000;omega
 simp![Zt]
 refine ZpD pp6 l1 l2 fun du' dv' dR' dS' M7 K7 p7 eq7=> ?_
 simp![Zt]
 generalize hth:D.tup [.str (PySem.Str.ofString "wedge"),du,dv,dR,dS]=th at *
 refine ZgQ (fun i ρ M'=>Kp M7 M'/\ ∃ x6 x10 x11,ρ=[some (.rol (ns.map D.int)),some (.int k),some (pr u.1 u.2),some (pr v.1 v.2),some (.ref o),some (.ref m),x6,some (.bl x),some th,some (.tup [.str (PySem.Str.ofString "wedge"),du',dv',dR',dS']),x10,x11]) ⟨Kp.refl,_,_,_,rfl⟩ ?_ ?_
 ·rintro i ρ M8 hi ⟨K8,x6,x10,x11,rfl⟩
  simp![ZgV]
  refine Zkl (p7.up K8) sa sb sR sS fun y M9 hy K9=> ?_
  have e:y=x:=by rw[Bool.eq_iff_iff,hx,hy]
  subst e
  have eq9:=eq7 M9 (K8.trans K9)
  simp![eq9,beq_self_eq_true]
  exact ⟨K8.trans K9,_,_,_,rfl⟩
 ·rintro ρ M8 ⟨K8,x6,x10,x11,rfl⟩
  exact hN _ _ _ _ _ _ _ _ _ _ _
theorem Zt8 {fs:Av} {ρ:Ro} {QS:Src->Sto->Prop} (h:wO (fs ρ M) (fun ds M1=> ∃ i j c,ds=[.int i,.int j,.int c]/\(-(2 ^ 62)<=i/\i < 2 ^ 62/\ -(2 ^ 62)<=j/\j < 2 ^ 62/\1<=c/\c<=1000)/\QS (.pur (Ziz i c (stN i j c))) M1) E):wO (iR3 fs ρ M) QS E:=by
 unfold iR3
 rw[ZH]
 refine ZcY h (fun ds M1 k=> ?_) (fun _ _ z=>z)
 obtain ⟨i,j,c,rfl,b,q⟩:=k
 show wO (if _ then _ else _) QS E
 rw[if_pos b]
 exact q
theorem law_true (ns:List Int) (h:ns.length<=63): ∃ M',Zgt [.rol (ns.map D.int)] []= .ok (.bl true) M':=by
 have w:wO (Zgt [.rol (ns.map D.int)] []) (fun d _=>d= .bl true) (fun _ _=>False):=by
  simp![Zgt,Zpk]
  refine Zt8 ?_
  simp![Zt]
  refine ⟨_,_,_,rfl,by omega,?_⟩
  show wS (Zgb _ _ _ _ _ _ _) _ _ _ _ _
  refine ZkV (fun _ ρ _=> ∃ x1 x2 x3 x4 x5 x6 x7 x8 x9 x10 x11,ρ=[some (.rol (ns.map D.int)),x1,x2,x3,x4,x5,x6,x7,x8,x9,x10,x11]) (xs:=Ziz 0 2 (stN 0 (max 2 (min (ns.length:Int) 16)) 2)) _ 0 _ _ (by simp) (by simp[cnt]) ⟨_,_,_,_,_,_,_,_,_,_,_,rfl⟩ (fun i ρ M hi hI=>rfl) ?_ ?_
  ·rintro i ρ M hi ⟨x1,x2,x3,x4,x5,x6,x7,x8,x9,x10,x11,rfl⟩
   have e:(Ziz 0 2 (stN 0 (max 2 (min (ns.length:Int) 16)) 2))[i]= .int ((2 * i:Nat):Int):=by simp[Ziz];omega
   rw[e]
   have hi':2 * i < 1000:=by
    rw[ZgL] at hi
    unfold stN at hi
    split at hi<;>omega
   simp![Zt]
   exact ZpI hi' fun _ _ _ _ _ _ _ _ _ _ _=>⟨_,_,_,_,_,_,_,_,_,_,_,rfl⟩
  ·rintro ρ M ⟨x1,x2,x3,x4,x5,x6,x7,x8,x9,x10,x11,rfl⟩
   simp![Zt]
 obtain ⟨d,M',e,rfl⟩:=ZiP w
 exact ⟨M',e⟩
end
end K69
end
namespace K69
open PySem PySem.Spec L2 DL
noncomputable abbrev zz1 (P:Params) (s:String) (n:Nat) (v:Value):DictEntry:={ hash:=PyData.keyHash P (Str.ofString s),key:=Value.str (Str.ofString s) n,val:=v }
noncomputable abbrev zz2 (x:Array Value):Obj:={ cls:=Value.type "code",data:=Data.fields x }
noncomputable abbrev zz3 (s:String) (n:Nat):Value:=Value.str (Str.ofString s) n
noncomputable abbrev zz4 (n:Int):Value:=Value.int n 0
noncomputable def fO (n:Str) (st:Stmt) (cd:Nat) (m:Str) (t:Nat):Obj:=⟨.type "function",none,.func (PySem.W.fnOf n n (Zs st) (Zr st) (Zh st) .none .none .none (.str m t) none (.ref cd) .none),#[]⟩
noncomputable def ZaU (p:Program) (i:Nat):Stmt:=p.main.body.getD i (.Pass ⟨0,0,0,0⟩)
noncomputable def Kf (p:Program) (P:Params):PySem.W.Frag:=[(3,{ cls:=Value.type "dict",data:=Data.dict #[zz1 P "__name__" 165 (zz3 "law_rayround_k69_papers_of_wedges" 695),zz1 P "__doc__" 166 (Value.none),zz1 P "__package__" 167 (Value.none),zz1 P "__loader__" 168 (Value.builtin "__main__.__loader__#opaque"),zz1 P "__spec__" 169 (Value.none),zz1 P "__annotations__" 170 (Value.ref 6),zz1 P "__builtins__" 171 (Value.ref 4),zz1 P "__file__" 173 (zz3 "/claim/cut.py" 172),zz1 P "__cached__" 174 (Value.none),zz1 P "RayError" 206 (Value.ref 24),zz1 P "NoRatio" 222 (Value.ref 37),zz1 P "NoRound" 249 (Value.ref 56),zz1 P "NotSmooth" 265 (Value.ref 68),zz1 P "NoWedge" 281 (Value.ref 80),zz1 P "NoPlace" 297 (Value.ref 92),zz1 P "NoMinus" 313 (Value.ref 104),zz1 P "NoHeight" 329 (Value.ref 116),zz1 P "is_whole" 338 (Value.ref 125),zz1 P "greatest_divisor" 348 (Value.ref 132),zz1 P "is_pair" 357 (Value.ref 139),zz1 P "crossed" 365 (Value.ref 146),zz1 P "product" 373 (Value.ref 153),zz1 P "common" 380 (Value.ref 160),zz1 P "is_ray" 387 (Value.ref 167),zz1 P "spanned" 395 (Value.ref 174),zz1 P "is_turning" 402 (Value.ref 181),zz1 P "turned" 416 (Value.ref 188),zz1 P "following" 426 (Value.ref 195),zz1 P "met_direction" 434 (Value.ref 202),zz1 P "look_round" 440 (Value.ref 207),zz1 P "is_round" 447 (Value.ref 214),zz1 P "unspanned" 456 (Value.ref 221),zz1 P "ask_smooth" 464 (Value.ref 228),zz1 P "numbers" 472 (Value.ref 233),zz1 P "ratio" 483 (Value.ref 240),zz1 P "plus" 491 (Value.ref 247),zz1 P "times" 499 (Value.ref 254),zz1 P "less" 507 (Value.ref 261),zz1 P "is_ratio" 514 (Value.ref 268),zz1 P "ask_height" 524 (Value.ref 275),zz1 P "bends" 537 (Value.ref 282),zz1 P "ask_place" 547 (Value.ref 289),zz1 P "taken_out" 556 (Value.ref 296),zz1 P "is_smooth" 565 (Value.ref 303),zz1 P "is_height" 571 (Value.ref 308),zz1 P "walk_stands" 582 (Value.ref 315),zz1 P "turning_stands" 588 (Value.ref 320),zz1 P "show_stands" 594 (Value.ref 325),zz1 P "wedge_stands" 600 (Value.ref 330),zz1 P "crosses_below" 606 (Value.ref 335),zz1 P "parting_stands" 612 (Value.ref 340),zz1 P "none_stands" 618 (Value.ref 345),zz1 P "stands" 627 (Value.ref 352),zz1 P "partner" 641 (Value.ref 359),zz1 P "first_behind" 651 (Value.ref 366),zz1 P "expanded" 661 (Value.ref 373),zz1 P "row" 669 (Value.ref 380),zz1 P "between" 682 (Value.ref 387),zz1 P "shows" 694 (Value.ref 394),zz1 P "_law_cell_at" 706 (Value.ref 401),zz1 P "_law_cross" 714 (Value.ref 408),zz1 P "_law_whole" 721 (Value.ref 415),zz1 P "_law_is_pair" 728 (Value.ref 422),zz1 P "_law_common" 736 (Value.ref 429),zz1 P "_law_straight" 745 (Value.ref 436),zz1 P "_law_wedge" 757 (Value.ref 443),zz1 P "_law_dot" 765 (Value.ref 450),zz1 P "_law_stands" 771 (Value.ref 455),zz1 P "_law_other_kind" 777 (Value.ref 460),zz1 P "_law_spoilt" 783 (Value.ref 465),zz1 P "_law_copy" 789 (Value.ref 470),zz1 P "law" 807 (Value.ref 477)] 72 }),
 (125,fO "is_whole" (ZaU p 10) 124 "rayround.wholes" 330),
 (124,zz2 #[zz3 "is_whole" 332,zz3 "is_whole" 333,zz3 "/claim/cut.py" 334,zz4 23,zz4 1,zz4 0,zz4 0,zz4 3,Value.ref 119,Value.bool true,zz4 181,Value.ref 120,Value.none,Value.ref 121,Value.ref 122,Value.ref 123,zz4 336,zz4 23,zz3 "/claim/cut.py" 337]),
 (132,fO "greatest_divisor" (ZaU p 11) 131 "rayround.wholes" 330),
 (131,zz2 #[zz3 "greatest_divisor" 339,zz3 "greatest_divisor" 340,zz3 "/claim/cut.py" 341,zz4 25,zz4 2,zz4 0,zz4 0,zz4 3,Value.ref 126,Value.bool true,zz4 181,Value.ref 127,Value.none,Value.ref 128,Value.ref 129,Value.ref 130,zz4 346,zz4 25,zz3 "/claim/cut.py" 347]),
 (139,fO "is_pair" (ZaU p 13) 138 "rayround.pairs" 349),
 (138,zz2 #[zz3 "is_pair" 351,zz3 "is_pair" 352,zz3 "/claim/cut.py" 353,zz4 31,zz4 1,zz4 0,zz4 0,zz4 3,Value.ref 133,Value.bool true,zz4 181,Value.ref 134,Value.none,Value.ref 135,Value.ref 136,Value.ref 137,zz4 355,zz4 31,zz3 "/claim/cut.py" 356]),
 (146,fO "crossed" (ZaU p 14) 145 "rayround.pairs" 349),
 (145,zz2 #[zz3 "crossed" 358,zz3 "crossed" 359,zz3 "/claim/cut.py" 360,zz4 33,zz4 2,zz4 0,zz4 0,zz4 3,Value.ref 140,Value.bool true,zz4 181,Value.ref 141,Value.none,Value.ref 142,Value.ref 143,Value.ref 144,zz4 363,zz4 33,zz3 "/claim/cut.py" 364]),
 (153,fO "product" (ZaU p 15) 152 "rayround.pairs" 349),
 (152,zz2 #[zz3 "product" 366,zz3 "product" 367,zz3 "/claim/cut.py" 368,zz4 35,zz4 2,zz4 0,zz4 0,zz4 3,Value.ref 147,Value.bool true,zz4 181,Value.ref 148,Value.none,Value.ref 149,Value.ref 150,Value.ref 151,zz4 371,zz4 35,zz3 "/claim/cut.py" 372]),
 (160,fO "common" (ZaU p 16) 159 "rayround.pairs" 349),
 (159,zz2 #[zz3 "common" 374,zz3 "common" 375,zz3 "/claim/cut.py" 376,zz4 37,zz4 1,zz4 0,zz4 0,zz4 3,Value.ref 154,Value.bool true,zz4 181,Value.ref 155,Value.none,Value.ref 156,Value.ref 157,Value.ref 158,zz4 378,zz4 37,zz3 "/claim/cut.py" 379]),
 (167,fO "is_ray" (ZaU p 17) 166 "rayround.pairs" 349),
 (166,zz2 #[zz3 "is_ray" 381,zz3 "is_ray" 382,zz3 "/claim/cut.py" 383,zz4 39,zz4 1,zz4 0,zz4 0,zz4 3,Value.ref 161,Value.bool true,zz4 181,Value.ref 162,Value.none,Value.ref 163,Value.ref 164,Value.ref 165,zz4 385,zz4 39,zz3 "/claim/cut.py" 386]),
 (174,fO "spanned" (ZaU p 18) 173 "rayround.pairs" 349),
 (173,zz2 #[zz3 "spanned" 388,zz3 "spanned" 389,zz3 "/claim/cut.py" 390,zz4 41,zz4 2,zz4 0,zz4 0,zz4 3,Value.ref 168,Value.bool true,zz4 181,Value.ref 169,Value.none,Value.ref 170,Value.ref 171,Value.ref 172,zz4 393,zz4 41,zz3 "/claim/cut.py" 394]),
 (181,fO "is_turning" (ZaU p 19) 180 "rayround.pairs" 349),
 (180,zz2 #[zz3 "is_turning" 396,zz3 "is_turning" 397,zz3 "/claim/cut.py" 398,zz4 43,zz4 1,zz4 0,zz4 0,zz4 3,Value.ref 175,Value.bool true,zz4 181,Value.ref 176,Value.none,Value.ref 177,Value.ref 178,Value.ref 179,zz4 400,zz4 43,zz3 "/claim/cut.py" 401]),
 (188,fO "turned" (ZaU p 20) 187 "rayround.pairs" 349),
 (187,zz2 #[zz3 "turned" 403,zz3 "turned" 404,zz3 "/claim/cut.py" 405,zz4 47,zz4 2,zz4 0,zz4 0,zz4 3,Value.ref 182,Value.bool true,zz4 181,Value.ref 183,Value.none,Value.ref 184,Value.ref 185,Value.ref 186,zz4 414,zz4 47,zz3 "/claim/cut.py" 415]),
 (195,fO "following" (ZaU p 22) 194 "rayround.rounds" 417),
 (194,zz2 #[zz3 "following" 419,zz3 "following" 420,zz3 "/claim/cut.py" 421,zz4 52,zz4 2,zz4 0,zz4 0,zz4 3,Value.ref 189,Value.bool true,zz4 181,Value.ref 190,Value.none,Value.ref 191,Value.ref 192,Value.ref 193,zz4 424,zz4 52,zz3 "/claim/cut.py" 425]),
 (202,fO "met_direction" (ZaU p 23) 201 "rayround.rounds" 417),
 (201,zz2 #[zz3 "met_direction" 427,zz3 "met_direction" 428,zz3 "/claim/cut.py" 429,zz4 54,zz4 2,zz4 0,zz4 0,zz4 3,Value.ref 196,Value.bool true,zz4 181,Value.ref 197,Value.none,Value.ref 198,Value.ref 199,Value.ref 200,zz4 432,zz4 54,zz3 "/claim/cut.py" 433]),
 (207,fO "look_round" (ZaU p 24) 206 "rayround.rounds" 417),
 (206,zz2 #[zz3 "look_round" 435,zz3 "look_round" 436,zz3 "/claim/cut.py" 437,zz4 56,zz4 1,zz4 0,zz4 0,zz4 3,Value.ref 203,Value.bool true,zz4 181,Value.ref 204,Value.none,Value.none,Value.none,Value.ref 205,zz4 438,zz4 56,zz3 "/claim/cut.py" 439]),
 (214,fO "is_round" (ZaU p 25) 213 "rayround.rounds" 417),
 (213,zz2 #[zz3 "is_round" 441,zz3 "is_round" 442,zz3 "/claim/cut.py" 443,zz4 67,zz4 1,zz4 0,zz4 0,zz4 3,Value.ref 208,Value.bool true,zz4 181,Value.ref 209,Value.none,Value.ref 210,Value.ref 211,Value.ref 212,zz4 445,zz4 67,zz3 "/claim/cut.py" 446]),
 (221,fO "unspanned" (ZaU p 26) 220 "rayround.rounds" 417),
 (220,zz2 #[zz3 "unspanned" 448,zz3 "unspanned" 449,zz3 "/claim/cut.py" 450,zz4 73,zz4 1,zz4 0,zz4 0,zz4 3,Value.ref 215,Value.bool true,zz4 181,Value.ref 216,Value.none,Value.ref 217,Value.ref 218,Value.ref 219,zz4 454,zz4 73,zz3 "/claim/cut.py" 455]),
 (228,fO "ask_smooth" (ZaU p 27) 227 "rayround.rounds" 417),
 (227,zz2 #[zz3 "ask_smooth" 457,zz3 "ask_smooth" 458,zz3 "/claim/cut.py" 459,zz4 78,zz4 1,zz4 0,zz4 0,zz4 3,Value.ref 222,Value.bool true,zz4 181,Value.ref 223,Value.none,Value.ref 224,Value.ref 225,Value.ref 226,zz4 462,zz4 78,zz3 "/claim/cut.py" 463]),
 (233,fO "numbers" (ZaU p 29) 232 "rayround.numbers" 465),
 (232,zz2 #[zz3 "numbers" 467,zz3 "numbers" 468,zz3 "/claim/cut.py" 469,zz4 83,zz4 1,zz4 0,zz4 0,zz4 3,Value.ref 229,Value.bool true,zz4 181,Value.ref 230,Value.none,Value.none,Value.none,Value.ref 231,zz4 470,zz4 83,zz3 "/claim/cut.py" 471]),
 (240,fO "ratio" (ZaU p 31) 239 "rayround.ratios" 473),
 (239,zz2 #[zz3 "ratio" 475,zz3 "ratio" 476,zz3 "/claim/cut.py" 477,zz4 87,zz4 2,zz4 0,zz4 0,zz4 3,Value.ref 234,Value.bool true,zz4 181,Value.ref 235,Value.none,Value.ref 236,Value.ref 237,Value.ref 238,zz4 481,zz4 87,zz3 "/claim/cut.py" 482]),
 (247,fO "plus" (ZaU p 32) 246 "rayround.ratios" 473),
 (246,zz2 #[zz3 "plus" 484,zz3 "plus" 485,zz3 "/claim/cut.py" 486,zz4 96,zz4 2,zz4 0,zz4 0,zz4 3,Value.ref 241,Value.bool true,zz4 181,Value.ref 242,Value.none,Value.ref 243,Value.ref 244,Value.ref 245,zz4 489,zz4 96,zz3 "/claim/cut.py" 490]),
 (254,fO "times" (ZaU p 33) 253 "rayround.ratios" 473),
 (253,zz2 #[zz3 "times" 492,zz3 "times" 493,zz3 "/claim/cut.py" 494,zz4 98,zz4 2,zz4 0,zz4 0,zz4 3,Value.ref 248,Value.bool true,zz4 181,Value.ref 249,Value.none,Value.ref 250,Value.ref 251,Value.ref 252,zz4 497,zz4 98,zz3 "/claim/cut.py" 498]),
 (261,fO "less" (ZaU p 34) 260 "rayround.ratios" 473),
 (260,zz2 #[zz3 "less" 500,zz3 "less" 501,zz3 "/claim/cut.py" 502,zz4 100,zz4 2,zz4 0,zz4 0,zz4 3,Value.ref 255,Value.bool true,zz4 181,Value.ref 256,Value.none,Value.ref 257,Value.ref 258,Value.ref 259,zz4 505,zz4 100,zz3 "/claim/cut.py" 506]),
 (268,fO "is_ratio" (ZaU p 35) 267 "rayround.ratios" 473),
 (267,zz2 #[zz3 "is_ratio" 508,zz3 "is_ratio" 509,zz3 "/claim/cut.py" 510,zz4 102,zz4 1,zz4 0,zz4 0,zz4 3,Value.ref 262,Value.bool true,zz4 181,Value.ref 263,Value.none,Value.ref 264,Value.ref 265,Value.ref 266,zz4 512,zz4 102,zz3 "/claim/cut.py" 513]),
 (275,fO "ask_height" (ZaU p 37) 274 "rayround.heights" 515),
 (274,zz2 #[zz3 "ask_height" 517,zz3 "ask_height" 518,zz3 "/claim/cut.py" 519,zz4 107,zz4 2,zz4 0,zz4 0,zz4 3,Value.ref 269,Value.bool true,zz4 181,Value.ref 270,Value.none,Value.ref 271,Value.ref 272,Value.ref 273,zz4 522,zz4 107,zz3 "/claim/cut.py" 523]),
 (282,fO "bends" (ZaU p 38) 281 "rayround.heights" 515),
 (281,zz2 #[zz3 "bends" 525,zz3 "bends" 526,zz3 "/claim/cut.py" 527,zz4 110,zz4 2,zz4 0,zz4 0,zz4 3,Value.ref 276,Value.bool true,zz4 181,Value.ref 277,Value.none,Value.ref 278,Value.ref 279,Value.ref 280,zz4 535,zz4 110,zz3 "/claim/cut.py" 536]),
 (289,fO "ask_place" (ZaU p 40) 288 "rayround.walks" 538),
 (288,zz2 #[zz3 "ask_place" 540,zz3 "ask_place" 541,zz3 "/claim/cut.py" 542,zz4 119,zz4 2,zz4 0,zz4 0,zz4 3,Value.ref 283,Value.bool true,zz4 181,Value.ref 284,Value.none,Value.ref 285,Value.ref 286,Value.ref 287,zz4 545,zz4 119,zz3 "/claim/cut.py" 546]),
 (296,fO "taken_out" (ZaU p 41) 295 "rayround.walks" 538),
 (295,zz2 #[zz3 "taken_out" 548,zz3 "taken_out" 549,zz3 "/claim/cut.py" 550,zz4 122,zz4 2,zz4 0,zz4 0,zz4 3,Value.ref 290,Value.bool true,zz4 181,Value.ref 291,Value.none,Value.ref 292,Value.ref 293,Value.ref 294,zz4 554,zz4 122,zz3 "/claim/cut.py" 555]),
 (303,fO "is_smooth" (ZaU p 43) 302 "rayround.papers" 557),
 (302,zz2 #[zz3 "is_smooth" 559,zz3 "is_smooth" 560,zz3 "/claim/cut.py" 561,zz4 129,zz4 1,zz4 0,zz4 0,zz4 3,Value.ref 297,Value.bool true,zz4 181,Value.ref 298,Value.none,Value.ref 299,Value.ref 300,Value.ref 301,zz4 563,zz4 129,zz3 "/claim/cut.py" 564]),
 (308,fO "is_height" (ZaU p 44) 307 "rayround.papers" 557),
 (307,zz2 #[zz3 "is_height" 566,zz3 "is_height" 567,zz3 "/claim/cut.py" 568,zz4 131,zz4 2,zz4 0,zz4 0,zz4 3,Value.ref 304,Value.bool true,zz4 181,Value.ref 305,Value.none,Value.none,Value.none,Value.ref 306,zz4 569,zz4 131,zz3 "/claim/cut.py" 570]),
 (315,fO "walk_stands" (ZaU p 45) 314 "rayround.papers" 557),
 (314,zz2 #[zz3 "walk_stands" 572,zz3 "walk_stands" 573,zz3 "/claim/cut.py" 574,zz4 133,zz4 3,zz4 0,zz4 0,zz4 3,Value.ref 309,Value.bool true,zz4 181,Value.ref 310,Value.none,Value.ref 311,Value.ref 312,Value.ref 313,zz4 580,zz4 133,zz3 "/claim/cut.py" 581]),
 (320,fO "turning_stands" (ZaU p 46) 319 "rayround.papers" 557),
 (319,zz2 #[zz3 "turning_stands" 583,zz3 "turning_stands" 584,zz3 "/claim/cut.py" 585,zz4 145,zz4 3,zz4 0,zz4 0,zz4 3,Value.ref 316,Value.bool true,zz4 181,Value.ref 317,Value.none,Value.none,Value.none,Value.ref 318,zz4 586,zz4 145,zz3 "/claim/cut.py" 587]),
 (325,fO "show_stands" (ZaU p 47) 324 "rayround.papers" 557),
 (324,zz2 #[zz3 "show_stands" 589,zz3 "show_stands" 590,zz3 "/claim/cut.py" 591,zz4 149,zz4 3,zz4 0,zz4 0,zz4 3,Value.ref 321,Value.bool true,zz4 181,Value.ref 322,Value.none,Value.none,Value.none,Value.ref 323,zz4 592,zz4 149,zz3 "/claim/cut.py" 593]),
 (330,fO "wedge_stands" (ZaU p 48) 329 "rayround.papers" 557),
 (329,zz2 #[zz3 "wedge_stands" 595,zz3 "wedge_stands" 596,zz3 "/claim/cut.py" 597,zz4 151,zz4 4,zz4 0,zz4 0,zz4 3,Value.ref 326,Value.bool true,zz4 181,Value.ref 327,Value.none,Value.none,Value.none,Value.ref 328,zz4 598,zz4 151,zz3 "/claim/cut.py" 599]),
 (335,fO "crosses_below" (ZaU p 49) 334 "rayround.papers" 557),
 (334,zz2 #[zz3 "crosses_below" 601,zz3 "crosses_below" 602,zz3 "/claim/cut.py" 603,zz4 162,zz4 2,zz4 0,zz4 0,zz4 3,Value.ref 331,Value.bool true,zz4 181,Value.ref 332,Value.none,Value.none,Value.none,Value.ref 333,zz4 604,zz4 162,zz3 "/claim/cut.py" 605]),
 (340,fO "parting_stands" (ZaU p 50) 339 "rayround.papers" 557),
 (339,zz2 #[zz3 "parting_stands" 607,zz3 "parting_stands" 608,zz3 "/claim/cut.py" 609,zz4 174,zz4 4,zz4 0,zz4 0,zz4 3,Value.ref 336,Value.bool true,zz4 181,Value.ref 337,Value.none,Value.none,Value.none,Value.ref 338,zz4 610,zz4 174,zz3 "/claim/cut.py" 611]),
 (345,fO "none_stands" (ZaU p 51) 344 "rayround.papers" 557),
 (344,zz2 #[zz3 "none_stands" 613,zz3 "none_stands" 614,zz3 "/claim/cut.py" 615,zz4 183,zz4 3,zz4 0,zz4 0,zz4 3,Value.ref 341,Value.bool true,zz4 181,Value.ref 342,Value.none,Value.none,Value.none,Value.ref 343,zz4 616,zz4 183,zz3 "/claim/cut.py" 617]),
 (352,fO "stands" (ZaU p 52) 351 "rayround.papers" 557),
 (351,zz2 #[zz3 "stands" 619,zz3 "stands" 620,zz3 "/claim/cut.py" 621,zz4 196,zz4 1,zz4 0,zz4 0,zz4 3,Value.ref 346,Value.bool true,zz4 181,Value.ref 347,Value.none,Value.ref 348,Value.ref 349,Value.ref 350,zz4 625,zz4 196,zz3 "/claim/cut.py" 626]),
 (359,fO "partner" (ZaU p 54) 358 "rayround.wedges" 628),
 (358,zz2 #[zz3 "partner" 630,zz3 "partner" 631,zz3 "/claim/cut.py" 632,zz4 212,zz4 1,zz4 0,zz4 0,zz4 3,Value.ref 353,Value.bool true,zz4 181,Value.ref 354,Value.none,Value.ref 355,Value.ref 356,Value.ref 357,zz4 639,zz4 212,zz3 "/claim/cut.py" 640]),
 (366,fO "first_behind" (ZaU p 55) 365 "rayround.wedges" 628),
 (365,zz2 #[zz3 "first_behind" 642,zz3 "first_behind" 643,zz3 "/claim/cut.py" 644,zz4 220,zz4 2,zz4 0,zz4 0,zz4 3,Value.ref 360,Value.bool true,zz4 181,Value.ref 361,Value.none,Value.ref 362,Value.ref 363,Value.ref 364,zz4 649,zz4 220,zz3 "/claim/cut.py" 650]),
 (373,fO "expanded" (ZaU p 56) 372 "rayround.wedges" 628),
 (372,zz2 #[zz3 "expanded" 652,zz3 "expanded" 653,zz3 "/claim/cut.py" 654,zz4 224,zz4 2,zz4 0,zz4 0,zz4 3,Value.ref 367,Value.bool true,zz4 181,Value.ref 368,Value.none,Value.ref 369,Value.ref 370,Value.ref 371,zz4 659,zz4 224,zz3 "/claim/cut.py" 660]),
 (380,fO "row" (ZaU p 57) 379 "rayround.wedges" 628),
 (379,zz2 #[zz3 "row" 662,zz3 "row" 663,zz3 "/claim/cut.py" 664,zz4 231,zz4 2,zz4 0,zz4 0,zz4 3,Value.ref 374,Value.bool true,zz4 181,Value.ref 375,Value.none,Value.ref 376,Value.ref 377,Value.ref 378,zz4 667,zz4 231,zz3 "/claim/cut.py" 668]),
 (387,fO "between" (ZaU p 58) 386 "rayround.wedges" 628),
 (386,zz2 #[zz3 "between" 670,zz3 "between" 671,zz3 "/claim/cut.py" 672,zz4 235,zz4 2,zz4 0,zz4 0,zz4 3,Value.ref 381,Value.bool true,zz4 181,Value.ref 382,Value.none,Value.ref 383,Value.ref 384,Value.ref 385,zz4 680,zz4 235,zz3 "/claim/cut.py" 681]),
 (394,fO "shows" (ZaU p 59) 393 "rayround.wedges" 628),
 (393,zz2 #[zz3 "shows" 683,zz3 "shows" 684,zz3 "/claim/cut.py" 685,zz4 243,zz4 2,zz4 0,zz4 0,zz4 3,Value.ref 388,Value.bool true,zz4 181,Value.ref 389,Value.none,Value.ref 390,Value.ref 391,Value.ref 392,zz4 692,zz4 243,zz3 "/claim/cut.py" 693]),
 (401,fO "_law_cell_at" (ZaU p 61) 400 "law_rayround_k69_papers_of_wedges" 695),
 (400,zz2 #[zz3 "_law_cell_at" 697,zz3 "_law_cell_at" 698,zz3 "/claim/cut.py" 699,zz4 250,zz4 2,zz4 0,zz4 0,zz4 3,Value.ref 395,Value.bool true,zz4 181,Value.ref 396,Value.none,Value.ref 397,Value.ref 398,Value.ref 399,zz4 704,zz4 250,zz3 "/claim/cut.py" 705]),
 (408,fO "_law_cross" (ZaU p 62) 407 "law_rayround_k69_papers_of_wedges" 695),
 (407,zz2 #[zz3 "_law_cross" 707,zz3 "_law_cross" 708,zz3 "/claim/cut.py" 709,zz4 258,zz4 2,zz4 0,zz4 0,zz4 3,Value.ref 402,Value.bool true,zz4 181,Value.ref 403,Value.none,Value.ref 404,Value.ref 405,Value.ref 406,zz4 712,zz4 258,zz3 "/claim/cut.py" 713]),
 (415,fO "_law_whole" (ZaU p 63) 414 "law_rayround_k69_papers_of_wedges" 695),
 (414,zz2 #[zz3 "_law_whole" 715,zz3 "_law_whole" 716,zz3 "/claim/cut.py" 717,zz4 260,zz4 1,zz4 0,zz4 0,zz4 3,Value.ref 409,Value.bool true,zz4 181,Value.ref 410,Value.none,Value.ref 411,Value.ref 412,Value.ref 413,zz4 719,zz4 260,zz3 "/claim/cut.py" 720]),
 (422,fO "_law_is_pair" (ZaU p 64) 421 "law_rayround_k69_papers_of_wedges" 695),
 (421,zz2 #[zz3 "_law_is_pair" 722,zz3 "_law_is_pair" 723,zz3 "/claim/cut.py" 724,zz4 262,zz4 1,zz4 0,zz4 0,zz4 3,Value.ref 416,Value.bool true,zz4 181,Value.ref 417,Value.none,Value.ref 418,Value.ref 419,Value.ref 420,zz4 726,zz4 262,zz3 "/claim/cut.py" 727]),
 (429,fO "_law_common" (ZaU p 65) 428 "law_rayround_k69_papers_of_wedges" 695),
 (428,zz2 #[zz3 "_law_common" 729,zz3 "_law_common" 730,zz3 "/claim/cut.py" 731,zz4 264,zz4 2,zz4 0,zz4 0,zz4 3,Value.ref 423,Value.bool true,zz4 181,Value.ref 424,Value.none,Value.ref 425,Value.ref 426,Value.ref 427,zz4 734,zz4 264,zz3 "/claim/cut.py" 735]),
 (436,fO "_law_straight" (ZaU p 66) 435 "law_rayround_k69_papers_of_wedges" 695),
 (435,zz2 #[zz3 "_law_straight" 737,zz3 "_law_straight" 738,zz3 "/claim/cut.py" 739,zz4 270,zz4 2,zz4 0,zz4 0,zz4 3,Value.ref 430,Value.bool true,zz4 181,Value.ref 431,Value.none,Value.ref 432,Value.ref 433,Value.ref 434,zz4 743,zz4 270,zz3 "/claim/cut.py" 744]),
 (443,fO "_law_wedge" (ZaU p 67) 442 "law_rayround_k69_papers_of_wedges" 695),
 (442,zz2 #[zz3 "_law_wedge" 746,zz3 "_law_wedge" 747,zz3 "/claim/cut.py" 748,zz4 275,zz4 1,zz4 0,zz4 0,zz4 3,Value.ref 437,Value.bool true,zz4 181,Value.ref 438,Value.none,Value.ref 439,Value.ref 440,Value.ref 441,zz4 755,zz4 275,zz3 "/claim/cut.py" 756]),
 (450,fO "_law_dot" (ZaU p 68) 449 "law_rayround_k69_papers_of_wedges" 695),
 (449,zz2 #[zz3 "_law_dot" 758,zz3 "_law_dot" 759,zz3 "/claim/cut.py" 760,zz4 289,zz4 2,zz4 0,zz4 0,zz4 3,Value.ref 444,Value.bool true,zz4 181,Value.ref 445,Value.none,Value.ref 446,Value.ref 447,Value.ref 448,zz4 763,zz4 289,zz3 "/claim/cut.py" 764]),
 (455,fO "_law_stands" (ZaU p 69) 454 "law_rayround_k69_papers_of_wedges" 695),
 (454,zz2 #[zz3 "_law_stands" 766,zz3 "_law_stands" 767,zz3 "/claim/cut.py" 768,zz4 291,zz4 4,zz4 0,zz4 0,zz4 3,Value.ref 451,Value.bool true,zz4 181,Value.ref 452,Value.none,Value.none,Value.none,Value.ref 453,zz4 769,zz4 291,zz3 "/claim/cut.py" 770]),
 (460,fO "_law_other_kind" (ZaU p 70) 459 "law_rayround_k69_papers_of_wedges" 695),
 (459,zz2 #[zz3 "_law_other_kind" 772,zz3 "_law_other_kind" 773,zz3 "/claim/cut.py" 774,zz4 306,zz4 6,zz4 0,zz4 0,zz4 3,Value.ref 456,Value.bool true,zz4 181,Value.ref 457,Value.none,Value.none,Value.none,Value.ref 458,zz4 775,zz4 306,zz3 "/claim/cut.py" 776]),
 (465,fO "_law_spoilt" (ZaU p 71) 464 "law_rayround_k69_papers_of_wedges" 695),
 (464,zz2 #[zz3 "_law_spoilt" 778,zz3 "_law_spoilt" 779,zz3 "/claim/cut.py" 780,zz4 320,zz4 5,zz4 0,zz4 0,zz4 3,Value.ref 461,Value.bool true,zz4 181,Value.ref 462,Value.none,Value.none,Value.none,Value.ref 463,zz4 781,zz4 320,zz3 "/claim/cut.py" 782]),
 (470,fO "_law_copy" (ZaU p 72) 469 "law_rayround_k69_papers_of_wedges" 695),
 (469,zz2 #[zz3 "_law_copy" 784,zz3 "_law_copy" 785,zz3 "/claim/cut.py" 786,zz4 355,zz4 1,zz4 0,zz4 0,zz4 3,Value.ref 466,Value.bool true,zz4 181,Value.ref 467,Value.none,Value.none,Value.none,Value.ref 468,zz4 787,zz4 355,zz3 "/claim/cut.py" 788]),
 (477,fO "law" (ZaU p 73) 476 "law_rayround_k69_papers_of_wedges" 695),
 (476,zz2 #[zz3 "law" 790,zz3 "law" 791,zz3 "/claim/cut.py" 792,zz4 361,zz4 1,zz4 0,zz4 0,zz4 3,Value.ref 471,Value.bool true,zz4 181,Value.ref 472,Value.none,Value.ref 473,Value.ref 474,Value.ref 475,zz4 805,zz4 361,zz3 "/claim/cut.py" 806]),
 (23,{ cls:=Value.type "dict",data:=Data.dict #[zz1 P "__module__" 196 (zz3 "rayround.errors" 187),zz1 P "__firstlineno__" 200 (Value.int 2 199),zz1 P "__static_attributes__" 201 (Value.ref 22),zz1 P "__weakref__" 203 (Value.ref 25),zz1 P "__doc__" 204 (Value.none)] 3 }),
 (24,{ cls:=Value.type "type",data:=Data.cls { name:=Str.ofString "RayError",bases:=[Value.type "ValueError"],mro:=[Value.ref 24,Value.type "ValueError",Value.type "Exception",Value.type "BaseException",Value.type "object"],ns:=23,qualname:=Str.ofString "RayError",subclasses:=[Value.ref 37,Value.ref 56,Value.ref 68,Value.ref 80,Value.ref 92,Value.ref 104,Value.ref 116] },slots:= #[some (Value.ref 15),none,some (zz3 "RayError" 189),some (zz3 "RayError" 197),some (Value.builtin "ValueError.__new__"),some (Value.bool true)] }),
 (36,{ cls:=Value.type "dict",data:=Data.dict #[zz1 P "__module__" 214 (zz3 "rayround.errors" 187),zz1 P "__firstlineno__" 218 (Value.int 4 217),zz1 P "__static_attributes__" 219 (Value.ref 35),zz1 P "__doc__" 220 (Value.none)] 2 }),
 (37,{ cls:=Value.type "type",data:=Data.cls { name:=Str.ofString "NoRatio",bases:=[Value.ref 24],mro:=[Value.ref 37,Value.ref 24,Value.type "ValueError",Value.type "Exception",Value.type "BaseException",Value.type "object"],ns:=36,qualname:=Str.ofString "NoRatio" },slots:= #[some (Value.ref 28),none,some (zz3 "NoRatio" 207),some (zz3 "NoRatio" 215),some (Value.builtin "ValueError.__new__"),some (Value.bool true)] }),
 (55,{ cls:=Value.type "dict",data:=Data.dict #[zz1 P "__module__" 230 (zz3 "rayround.errors" 187),zz1 P "__firstlineno__" 234 (Value.int 6 233),zz1 P "__init__" 243 (Value.ref 53),zz1 P "__static_attributes__" 246 (Value.ref 54),zz1 P "__doc__" 247 (Value.none)] 2 }),
 (56,{ cls:=Value.type "type",data:=Data.cls { name:=Str.ofString "NoRound",bases:=[Value.ref 24],mro:=[Value.ref 56,Value.ref 24,Value.type "ValueError",Value.type "Exception",Value.type "BaseException",Value.type "object"],ns:=55,qualname:=Str.ofString "NoRound" },slots:= #[some (Value.ref 40),none,some (zz3 "NoRound" 223),some (zz3 "NoRound" 231),some (Value.builtin "ValueError.__new__"),some (Value.bool true)] }),
 (67,{ cls:=Value.type "dict",data:=Data.dict #[zz1 P "__module__" 257 (zz3 "rayround.errors" 187),zz1 P "__firstlineno__" 261 (Value.int 12 260),zz1 P "__static_attributes__" 262 (Value.ref 66),zz1 P "__doc__" 263 (Value.none)] 2 }),
 (68,{ cls:=Value.type "type",data:=Data.cls { name:=Str.ofString "NotSmooth",bases:=[Value.ref 24],mro:=[Value.ref 68,Value.ref 24,Value.type "ValueError",Value.type "Exception",Value.type "BaseException",Value.type "object"],ns:=67,qualname:=Str.ofString "NotSmooth" },slots:= #[some (Value.ref 59),none,some (zz3 "NotSmooth" 250),some (zz3 "NotSmooth" 258),some (Value.builtin "ValueError.__new__"),some (Value.bool true)] }),
 (79,{ cls:=Value.type "dict",data:=Data.dict #[zz1 P "__module__" 273 (zz3 "rayround.errors" 187),zz1 P "__firstlineno__" 277 (Value.int 14 276),zz1 P "__static_attributes__" 278 (Value.ref 78),zz1 P "__doc__" 279 (Value.none)] 2 }),
 (80,{ cls:=Value.type "type",data:=Data.cls { name:=Str.ofString "NoWedge",bases:=[Value.ref 24],mro:=[Value.ref 80,Value.ref 24,Value.type "ValueError",Value.type "Exception",Value.type "BaseException",Value.type "object"],ns:=79,qualname:=Str.ofString "NoWedge" },slots:= #[some (Value.ref 71),none,some (zz3 "NoWedge" 266),some (zz3 "NoWedge" 274),some (Value.builtin "ValueError.__new__"),some (Value.bool true)] }),
 (91,{ cls:=Value.type "dict",data:=Data.dict #[zz1 P "__module__" 289 (zz3 "rayround.errors" 187),zz1 P "__firstlineno__" 293 (Value.int 16 292),zz1 P "__static_attributes__" 294 (Value.ref 90),zz1 P "__doc__" 295 (Value.none)] 2 }),
 (92,{ cls:=Value.type "type",data:=Data.cls { name:=Str.ofString "NoPlace",bases:=[Value.ref 24],mro:=[Value.ref 92,Value.ref 24,Value.type "ValueError",Value.type "Exception",Value.type "BaseException",Value.type "object"],ns:=91,qualname:=Str.ofString "NoPlace" },slots:= #[some (Value.ref 83),none,some (zz3 "NoPlace" 282),some (zz3 "NoPlace" 290),some (Value.builtin "ValueError.__new__"),some (Value.bool true)] }),
 (103,{ cls:=Value.type "dict",data:=Data.dict #[zz1 P "__module__" 305 (zz3 "rayround.errors" 187),zz1 P "__firstlineno__" 309 (Value.int 18 308),zz1 P "__static_attributes__" 310 (Value.ref 102),zz1 P "__doc__" 311 (Value.none)] 2 }),
 (104,{ cls:=Value.type "type",data:=Data.cls { name:=Str.ofString "NoMinus",bases:=[Value.ref 24],mro:=[Value.ref 104,Value.ref 24,Value.type "ValueError",Value.type "Exception",Value.type "BaseException",Value.type "object"],ns:=103,qualname:=Str.ofString "NoMinus" },slots:= #[some (Value.ref 95),none,some (zz3 "NoMinus" 298),some (zz3 "NoMinus" 306),some (Value.builtin "ValueError.__new__"),some (Value.bool true)] }),
 (115,{ cls:=Value.type "dict",data:=Data.dict #[zz1 P "__module__" 321 (zz3 "rayround.errors" 187),zz1 P "__firstlineno__" 325 (Value.int 20 324),zz1 P "__static_attributes__" 326 (Value.ref 114),zz1 P "__doc__" 327 (Value.none)] 2 }),
 (116,{ cls:=Value.type "type",data:=Data.cls { name:=Str.ofString "NoHeight",bases:=[Value.ref 24],mro:=[Value.ref 116,Value.ref 24,Value.type "ValueError",Value.type "Exception",Value.type "BaseException",Value.type "object"],ns:=115,qualname:=Str.ofString "NoHeight" },slots:= #[some (Value.ref 107),none,some (zz3 "NoHeight" 314),some (zz3 "NoHeight" 322),some (Value.builtin "ValueError.__new__"),some (Value.bool true)] })]
noncomputable def asK:List Addr:=[3,125,124,132,131,139,138,146,145,153,152,160,159,167,166,174,173,181,180,188,187,195,194,202,201,207,206,214,213,221,220,228,227,233,232,240,239,247,246,254,253,261,260,268,267,275,274,282,281,289,288,296,295,303,302,308,307,315,314,320,319,325,324,330,329,335,334,340,339,345,344,352,351,359,358,366,365,373,372,380,379,387,386,394,393,401,400,408,407,415,414,422,421,429,428,436,435,443,442,450,449,455,454,460,459,465,464,470,469,477,476,23,24,36,37,55,56,67,68,79,80,91,92,103,104,115,116]
theorem ZpJ (p:Program) (P:Params):asK=(Kf p P).map (·.1):=rfl
noncomputable def qf (p:Program):Program:={ p with main:={ p.main with body:=[ZaU p 73] } }
noncomputable def lo:List Str:=[("__name__":Str),("RayError":Str),("NoRatio":Str),("NoRound":Str),("NotSmooth":Str),("NoWedge":Str),("NoPlace":Str),("NoMinus":Str),("NoHeight":Str),("is_whole":Str),("greatest_divisor":Str),("is_pair":Str),("crossed":Str),("product":Str),("common":Str),("is_ray":Str),("spanned":Str),("is_turning":Str),("turned":Str),("following":Str),("met_direction":Str),("look_round":Str),("is_round":Str),("unspanned":Str),("ask_smooth":Str),("numbers":Str),("ratio":Str),("plus":Str),("times":Str),("less":Str),("is_ratio":Str),("ask_height":Str),("bends":Str),("ask_place":Str),("taken_out":Str),("is_smooth":Str),("is_height":Str),("walk_stands":Str),("turning_stands":Str),("show_stands":Str),("wedge_stands":Str),("crosses_below":Str),("parting_stands":Str),("none_stands":Str),("stands":Str),("partner":Str),("first_behind":Str),("expanded":Str),("row":Str),("between":Str),("shows":Str),("_law_cell_at":Str),("_law_cross":Str),("_law_whole":Str),("_law_is_pair":Str),("_law_common":Str),("_law_straight":Str),("_law_wedge":Str),("_law_dot":Str),("_law_stands":Str),("_law_other_kind":Str),("_law_spoilt":Str),("_law_copy":Str)]
theorem Zt9 {l:PySem.W.OpenLaw} {q:Program} {loose:List Str} {XP:(Str->Option Value)->Heap->Prop} {YP:World->Heap->Prop} {d:DefRec} {K:Params->PySem.W.Frag} (hn:l.most=some 63) (hdf:d.params.defaults=[])
  (hY: ∀ (w:World) (h:Heap),YP w h->(K w.params).In h)
  (F: ∀ (w:World) (mg:Str->Option Value) (fa:Addr) (h:Heap),(K w.params).In h->h.Ns mainGlobals mg->mg d.name=some (.ref fa)->
   ∃ fd:FuncData,(∀ (s:Shared) (u:Value),BindsTo s fd ⟨[u],[]⟩ [("_law_script",u)])/\ ∀ base:Heap,(K w.params).In base->base.Ns mainGlobals mg->FnOk l.prog w (K w.params) mg base (CXE l.prog w) 107 fa fd ["_law_script"] (spD (K w.params) Zgt)):
  PySem.W.WalkO q loose XP YP l.row.toRowW d [] (fun f vs=>PySem.call f vs):=
 L2.Zlw (n:=63) (k:=107) (x:="_law_script") (CX:=fun w=>CXE l.prog w) (sp:=fun w=>spD (K w.params) Zgt) hn (by decide) hdf ⟨fun _=>rfl,rfl,by decide,by decide⟩ hY F (fun _ _ a ns hl hO hS=>DL.ZnA hl hO hS (law_true ns hl)) fun _ _ _ _ _ ⟨_,_,_,_,_,_,_,_,_,_,_,_,_,q⟩=>q
end K69
open PySem PySem.W PyProof.Rows
lay_quick PySem.Challenge.pw_rayround_k69_papers_of_wedges
namespace K69
noncomputable abbrev Hk:Hook:=kHook (Kf PySem.Challenge.pw_rayround_k69_papers_of_wedges) asK (ZpJ PySem.Challenge.pw_rayround_k69_papers_of_wedges)
noncomputable def Xs (s:Shared):Bool:=xlAt (qf PySem.Challenge.pw_rayround_k69_papers_of_wedges) [] s && recOk (RowW.records (OpenRow.toRowW (OpenLaw.row PySem.Challenge.rw_rayround_k69_papers_of_wedges))) s
set_option maxRecDepth 1000000 in
set_option maxHeartbeats 0 in
theorem Zqv (w:World) (os:OsState):(HD.ZpT through (HD.ZjX (stepOk 11 (some (.ref 6))) (stepT (denote treeTable) PySem.Challenge.pw_rayround_k69_papers_of_wedges w)) 3495 (HD.T0 w os) (topStub PySem.Challenge.pw_rayround_k69_papers_of_wedges)).map (fun s=>((staticsOk (importedModules PySem.Challenge.pw_rayround_k69_papers_of_wedges.main.body) (boot_heap w.params) s.abs.heap && namesBound PySem.Challenge.pw_rayround_k69_papers_of_wedges s.abs.heap && gensDone s.abs && laidKept (boot_heap w.params) s.abs.heap),
  openSeen (qf PySem.Challenge.pw_rayround_k69_papers_of_wedges) lo (importedModules PySem.Challenge.pw_rayround_k69_papers_of_wedges.main.body) (fun s=>xlAt (qf PySem.Challenge.pw_rayround_k69_papers_of_wedges) [] s && recOk [] s) true s.abs,asK.map s.abs.heap.get?))=some (true,openGood (qf PySem.Challenge.pw_rayround_k69_papers_of_wedges) lo,(Kf PySem.Challenge.pw_rayround_k69_papers_of_wedges w.params).map fun x=>some x.2):=by
 rw[HD.Zqw,HD.ZlW,HD.ZnX,HD.ZnY,HD.ZlX,HD.ZnZ,PySem.W.Fast.te11393405088011894866]
 kernel_rfl
end K69
set_option maxRecDepth 1000000 in
set_option maxHeartbeats 0 in
theorem PySem.Challenge.cw_rayround_k69_papers_of_wedges_holds : PySem.Challenge.rw_rayround_k69_papers_of_wedges.Holds := by
 w_on;o_law
 refine holds_open (q:=K69.qf PySem.Challenge.pw_rayround_k69_papers_of_wedges) (loose:=K69.lo) (Xt:=fun s=>xlAt (K69.qf PySem.Challenge.pw_rayround_k69_papers_of_wedges) [] s && recOk [] s) (XP:=XL (K69.qf PySem.Challenge.pw_rayround_k69_papers_of_wedges) []) (Yf:=Hook.obs K69.Hk) (Ya:=Hook.val K69.Hk) (YP:=Hook.says K69.Hk) (N:=4095) ?hl (Hook.of K69.Hk) (Hook.keeps K69.Hk) (fun s e=>xl_of s (Bool.and_eq_true_iff.mp e).1) XL.keeps (by rfl) (by rfl) (by rfl) (fun s e=>recFacts_of (Bool.and_eq_true_iff.mp e).2) (by rfl) (by first | assumption | decide +kernel) (by decide +kernel) ⟨rfl,rfl,rfl,rfl,rfl,by decide +kernel⟩ ?hw ?hc
 case hl=>exact HD.ZiO rfl (by decide) (fun s=>rfl) (by decide) K69.Zqv
 case hw=>w_witness2
 case hc=>
  refine K69.Zt9 (l:=PySem.Challenge.rw_rayround_k69_papers_of_wedges) rfl rfl (fun w h Y=>PySem.W.kIn_of Y) ?F
  intro w mg fa h KX G hmg
  refine K69.Zpm (f1:=125) (od1:=none) (an1:=none) (sl1:= #[]) (oc1:= .type "function") (kV1:= .none) (dc1:= .none) (pm1:= .str "rayround.wholes" 330) (cd1:= .ref 124) (ct1:= .none) (f2:=132) (od2:=none) (an2:=none) (sl2:= #[]) (oc2:= .type "function") (kV2:= .none) (dc2:= .none) (pm2:= .str "rayround.wholes" 330) (cd2:= .ref 131) (ct2:= .none) (f3:=139) (od3:=none) (an3:=none) (sl3:= #[]) (oc3:= .type "function") (kV3:= .none) (dc3:= .none) (pm3:= .str "rayround.pairs" 349) (cd3:= .ref 138) (ct3:= .none) (f4:=146) (od4:=none) (an4:=none) (sl4:= #[]) (oc4:= .type "function") (kV4:= .none) (dc4:= .none) (pm4:= .str "rayround.pairs" 349) (cd4:= .ref 145) (ct4:= .none) (f5:=153) (od5:=none) (an5:=none) (sl5:= #[]) (oc5:= .type "function") (kV5:= .none) (dc5:= .none) (pm5:= .str "rayround.pairs" 349) (cd5:= .ref 152) (ct5:= .none) (f6:=160) (od6:=none) (an6:=none) (sl6:= #[]) (oc6:= .type "function") (kV6:= .none) (dc6:= .none) (pm6:= .str "rayround.pairs" 349) (cd6:= .ref 159) (ct6:= .none) (f7:=167) (od7:=none) (an7:=none) (sl7:= #[]) (oc7:= .type "function") (kV7:= .none) (dc7:= .none) (pm7:= .str "rayround.pairs" 349) (cd7:= .ref 166) (ct7:= .none) (f8:=174) (od8:=none) (an8:=none) (sl8:= #[]) (oc8:= .type "function") (kV8:= .none) (dc8:= .none) (pm8:= .str "rayround.pairs" 349) (cd8:= .ref 173) (ct8:= .none) (f9:=181) (od9:=none) (an9:=none) (sl9:= #[]) (oc9:= .type "function") (kV9:= .none) (dc9:= .none) (pm9:= .str "rayround.pairs" 349) (cd9:= .ref 180) (ct9:= .none) (f10:=188) (od10:=none) (an10:=none) (sl10:= #[]) (oc10:= .type "function") (kV10:= .none) (dc10:= .none) (pm10:= .str "rayround.pairs" 349) (cd10:= .ref 187) (ct10:= .none) (f11:=195) (od11:=none) (an11:=none) (sl11:= #[]) (oc11:= .type "function") (kV11:= .none) (dc11:= .none) (pm11:= .str "rayround.rounds" 417) (cd11:= .ref 194) (ct11:= .none) (f12:=202) (od12:=none) (an12:=none) (sl12:= #[]) (oc12:= .type "function") (kV12:= .none) (dc12:= .none) (pm12:= .str "rayround.rounds" 417) (cd12:= .ref 201) (ct12:= .none) (f13:=207) (od13:=none) (an13:=none) (sl13:= #[]) (oc13:= .type "function") (kV13:= .none) (dc13:= .none) (pm13:= .str "rayround.rounds" 417) (cd13:= .ref 206) (ct13:= .none) (f14:=214) (od14:=none) (an14:=none) (sl14:= #[]) (oc14:= .type "function") (kV14:= .none) (dc14:= .none) (pm14:= .str "rayround.rounds" 417) (cd14:= .ref 213) (ct14:= .none) (f15:=221) (od15:=none) (an15:=none) (sl15:= #[]) (oc15:= .type "function") (kV15:= .none) (dc15:= .none) (pm15:= .str "rayround.rounds" 417) (cd15:= .ref 220) (ct15:= .none) (f16:=228) (od16:=none) (an16:=none) (sl16:= #[]) (oc16:= .type "function") (kV16:= .none) (dc16:= .none) (pm16:= .str "rayround.rounds" 417) (cd16:= .ref 227) (ct16:= .none) (f17:=233) (od17:=none) (an17:=none) (sl17:= #[]) (oc17:= .type "function") (kV17:= .none) (dc17:= .none) (pm17:= .str "rayround.numbers" 465) (cd17:= .ref 232) (ct17:= .none) (f18:=240) (od18:=none) (an18:=none) (sl18:= #[]) (oc18:= .type "function") (kV18:= .none) (dc18:= .none) (pm18:= .str "rayround.ratios" 473) (cd18:= .ref 239) (ct18:= .none) (f19:=247) (od19:=none) (an19:=none) (sl19:= #[]) (oc19:= .type "function") (kV19:= .none) (dc19:= .none) (pm19:= .str "rayround.ratios" 473) (cd19:= .ref 246) (ct19:= .none) (f20:=254) (od20:=none) (an20:=none) (sl20:= #[]) (oc20:= .type "function") (kV20:= .none) (dc20:= .none) (pm20:= .str "rayround.ratios" 473) (cd20:= .ref 253) (ct20:= .none) (f21:=261) (od21:=none) (an21:=none) (sl21:= #[]) (oc21:= .type "function") (kV21:= .none) (dc21:= .none) (pm21:= .str "rayround.ratios" 473) (cd21:= .ref 260) (ct21:= .none) (f22:=268) (od22:=none) (an22:=none) (sl22:= #[]) (oc22:= .type "function") (kV22:= .none) (dc22:= .none) (pm22:= .str "rayround.ratios" 473) (cd22:= .ref 267) (ct22:= .none) (f23:=275) (od23:=none) (an23:=none) (sl23:= #[]) (oc23:= .type "function") (kV23:= .none) (dc23:= .none) (pm23:= .str "rayround.heights" 515) (cd23:= .ref 274) (ct23:= .none) (f24:=282) (od24:=none) (an24:=none) (sl24:= #[]) (oc24:= .type "function") (kV24:= .none) (dc24:= .none) (pm24:= .str "rayround.heights" 515) (cd24:= .ref 281) (ct24:= .none) (f25:=289) (od25:=none) (an25:=none) (sl25:= #[]) (oc25:= .type "function") (kV25:= .none) (dc25:= .none) (pm25:= .str "rayround.walks" 538) (cd25:= .ref 288) (ct25:= .none) (f26:=296) (od26:=none) (an26:=none) (sl26:= #[]) (oc26:= .type "function") (kV26:= .none) (dc26:= .none) (pm26:= .str "rayround.walks" 538) (cd26:= .ref 295) (ct26:= .none) (f27:=303) (od27:=none) (an27:=none) (sl27:= #[]) (oc27:= .type "function") (kV27:= .none) (dc27:= .none) (pm27:= .str "rayround.papers" 557) (cd27:= .ref 302) (ct27:= .none) (f28:=308) (od28:=none) (an28:=none) (sl28:= #[]) (oc28:= .type "function") (kV28:= .none) (dc28:= .none) (pm28:= .str "rayround.papers" 557) (cd28:= .ref 307) (ct28:= .none) (f29:=315) (od29:=none) (an29:=none) (sl29:= #[]) (oc29:= .type "function") (kV29:= .none) (dc29:= .none) (pm29:= .str "rayround.papers" 557) (cd29:= .ref 314) (ct29:= .none) (f30:=320) (od30:=none) (an30:=none) (sl30:= #[]) (oc30:= .type "function") (kV30:= .none) (dc30:= .none) (pm30:= .str "rayround.papers" 557) (cd30:= .ref 319) (ct30:= .none) (f31:=325) (od31:=none) (an31:=none) (sl31:= #[]) (oc31:= .type "function") (kV31:= .none) (dc31:= .none) (pm31:= .str "rayround.papers" 557) (cd31:= .ref 324) (ct31:= .none) (f32:=330) (od32:=none) (an32:=none) (sl32:= #[]) (oc32:= .type "function") (kV32:= .none) (dc32:= .none) (pm32:= .str "rayround.papers" 557) (cd32:= .ref 329) (ct32:= .none) (f33:=335) (od33:=none) (an33:=none) (sl33:= #[]) (oc33:= .type "function") (kV33:= .none) (dc33:= .none) (pm33:= .str "rayround.papers" 557) (cd33:= .ref 334) (ct33:= .none) (f34:=340) (od34:=none) (an34:=none) (sl34:= #[]) (oc34:= .type "function") (kV34:= .none) (dc34:= .none) (pm34:= .str "rayround.papers" 557) (cd34:= .ref 339) (ct34:= .none) (f35:=345) (od35:=none) (an35:=none) (sl35:= #[]) (oc35:= .type "function") (kV35:= .none) (dc35:= .none) (pm35:= .str "rayround.papers" 557) (cd35:= .ref 344) (ct35:= .none) (f36:=352) (od36:=none) (an36:=none) (sl36:= #[]) (oc36:= .type "function") (kV36:= .none) (dc36:= .none) (pm36:= .str "rayround.papers" 557) (cd36:= .ref 351) (ct36:= .none) (f37:=359) (od37:=none) (an37:=none) (sl37:= #[]) (oc37:= .type "function") (kV37:= .none) (dc37:= .none) (pm37:= .str "rayround.wedges" 628) (cd37:= .ref 358) (ct37:= .none) (f38:=366) (od38:=none) (an38:=none) (sl38:= #[]) (oc38:= .type "function") (kV38:= .none) (dc38:= .none) (pm38:= .str "rayround.wedges" 628) (cd38:= .ref 365) (ct38:= .none) (f39:=373) (od39:=none) (an39:=none) (sl39:= #[]) (oc39:= .type "function") (kV39:= .none) (dc39:= .none) (pm39:= .str "rayround.wedges" 628) (cd39:= .ref 372) (ct39:= .none) (f40:=380) (od40:=none) (an40:=none) (sl40:= #[]) (oc40:= .type "function") (kV40:= .none) (dc40:= .none) (pm40:= .str "rayround.wedges" 628) (cd40:= .ref 379) (ct40:= .none) (f41:=387) (od41:=none) (an41:=none) (sl41:= #[]) (oc41:= .type "function") (kV41:= .none) (dc41:= .none) (pm41:= .str "rayround.wedges" 628) (cd41:= .ref 386) (ct41:= .none) (f42:=394) (od42:=none) (an42:=none) (sl42:= #[]) (oc42:= .type "function") (kV42:= .none) (dc42:= .none) (pm42:= .str "rayround.wedges" 628) (cd42:= .ref 393) (ct42:= .none) (f43:=401) (od43:=none) (an43:=none) (sl43:= #[]) (oc43:= .type "function") (kV43:= .none) (dc43:= .none) (pm43:= .str "law_rayround_k69_papers_of_wedges" 695) (cd43:= .ref 400) (ct43:= .none) (f44:=408) (od44:=none) (an44:=none) (sl44:= #[]) (oc44:= .type "function") (kV44:= .none) (dc44:= .none) (pm44:= .str "law_rayround_k69_papers_of_wedges" 695) (cd44:= .ref 407) (ct44:= .none) (f45:=415) (od45:=none) (an45:=none) (sl45:= #[]) (oc45:= .type "function") (kV45:= .none) (dc45:= .none) (pm45:= .str "law_rayround_k69_papers_of_wedges" 695) (cd45:= .ref 414) (ct45:= .none) (f46:=422) (od46:=none) (an46:=none) (sl46:= #[]) (oc46:= .type "function") (kV46:= .none) (dc46:= .none) (pm46:= .str "law_rayround_k69_papers_of_wedges" 695) (cd46:= .ref 421) (ct46:= .none) (f47:=429) (od47:=none) (an47:=none) (sl47:= #[]) (oc47:= .type "function") (kV47:= .none) (dc47:= .none) (pm47:= .str "law_rayround_k69_papers_of_wedges" 695) (cd47:= .ref 428) (ct47:= .none) (f48:=436) (od48:=none) (an48:=none) (sl48:= #[]) (oc48:= .type "function") (kV48:= .none) (dc48:= .none) (pm48:= .str "law_rayround_k69_papers_of_wedges" 695) (cd48:= .ref 435) (ct48:= .none) (f49:=443) (od49:=none) (an49:=none) (sl49:= #[]) (oc49:= .type "function") (kV49:= .none) (dc49:= .none) (pm49:= .str "law_rayround_k69_papers_of_wedges" 695) (cd49:= .ref 442) (ct49:= .none) (f50:=450) (od50:=none) (an50:=none) (sl50:= #[]) (oc50:= .type "function") (kV50:= .none) (dc50:= .none) (pm50:= .str "law_rayround_k69_papers_of_wedges" 695) (cd50:= .ref 449) (ct50:= .none) (f51:=455) (od51:=none) (an51:=none) (sl51:= #[]) (oc51:= .type "function") (kV51:= .none) (dc51:= .none) (pm51:= .str "law_rayround_k69_papers_of_wedges" 695) (cd51:= .ref 454) (ct51:= .none) (f52:=460) (od52:=none) (an52:=none) (sl52:= #[]) (oc52:= .type "function") (kV52:= .none) (dc52:= .none) (pm52:= .str "law_rayround_k69_papers_of_wedges" 695) (cd52:= .ref 459) (ct52:= .none) (f53:=465) (od53:=none) (an53:=none) (sl53:= #[]) (oc53:= .type "function") (kV53:= .none) (dc53:= .none) (pm53:= .str "law_rayround_k69_papers_of_wedges" 695) (cd53:= .ref 464) (ct53:= .none) (f54:=470) (od54:=none) (an54:=none) (sl54:= #[]) (oc54:= .type "function") (kV54:= .none) (dc54:= .none) (pm54:= .str "law_rayround_k69_papers_of_wedges" 695) (cd54:= .ref 469) (ct54:= .none) (f55:=477) (od55:=none) (an55:=none) (sl55:= #[]) (oc55:= .type "function") (kV55:= .none) (dc55:= .none) (pm55:= .str "law_rayround_k69_papers_of_wedges" 695) (cd55:= .ref 476) (ct55:= .none) KX G hmg ?a1 ?l1 ?c1 ?k1 ?a2 ?l2 ?c2 ?k2 ?a3 ?l3 ?c3 ?k3 ?a4 ?l4 ?c4 ?k4 ?a5 ?l5 ?c5 ?k5 ?a6 ?l6 ?c6 ?k6 ?a7 ?l7 ?c7 ?k7 ?a8 ?l8 ?c8 ?k8 ?a9 ?l9 ?c9 ?k9 ?a10 ?l10 ?c10 ?k10 ?a11 ?l11 ?c11 ?k11 ?a12 ?l12 ?c12 ?k12 ?a13 ?l13 ?c13 ?k13 ?a14 ?l14 ?c14 ?k14 ?a15 ?l15 ?c15 ?k15 ?a16 ?l16 ?c16 ?k16 ?a17 ?l17 ?c17 ?k17 ?a18 ?l18 ?c18 ?k18 ?a19 ?l19 ?c19 ?k19 ?a20 ?l20 ?c20 ?k20 ?a21 ?l21 ?c21 ?k21 ?a22 ?l22 ?c22 ?k22 ?a23 ?l23 ?c23 ?k23 ?a24 ?l24 ?c24 ?k24 ?a25 ?l25 ?c25 ?k25 ?a26 ?l26 ?c26 ?k26 ?a27 ?l27 ?c27 ?k27 ?a28 ?l28 ?c28 ?k28 ?a29 ?l29 ?c29 ?k29 ?a30 ?l30 ?c30 ?k30 ?a31 ?l31 ?c31 ?k31 ?a32 ?l32 ?c32 ?k32 ?a33 ?l33 ?c33 ?k33 ?a34 ?l34 ?c34 ?k34 ?a35 ?l35 ?c35 ?k35 ?a36 ?l36 ?c36 ?k36 ?a37 ?l37 ?c37 ?k37 ?a38 ?l38 ?c38 ?k38 ?a39 ?l39 ?c39 ?k39 ?a40 ?l40 ?c40 ?k40 ?a41 ?l41 ?c41 ?k41 ?a42 ?l42 ?c42 ?k42 ?a43 ?l43 ?c43 ?k43 ?a44 ?l44 ?c44 ?k44 ?a45 ?l45 ?c45 ?k45 ?a46 ?l46 ?c46 ?k46 ?a47 ?l47 ?c47 ?k47 ?a48 ?l48 ?c48 ?k48 ?a49 ?l49 ?c49 ?k49 ?a50 ?l50 ?c50 ?k50 ?a51 ?l51 ?c51 ?k51 ?a52 ?l52 ?c52 ?k52 ?a53 ?l53 ?c53 ?k53 ?a54 ?l54 ?c54 ?k54 ?a55 ?l55 ?c55 ?k55 ?z_isinstance ?z_int ?z_bool ?z_abs ?z_tuple ?z_len ?z_list ?z_enumerate ?z_range ?z_all ?z_sorted ?z_zip ?z_sum ?z_min ?z_max ?z_reversed ?q_ex_NotSmooth ?q_ex_NoRatio ?q_ex_NoHeight ?q_ex_NoPlace ?q_ex_NoMinus ?q_ex_NoWedge
  all_goals kernel_rfl
