import PyProof.Rows.All
import Wide.All
import OpenK.AllK
import Wide.FinOn
import Lean
import PyProof.EqAt
import PyProof.EqKinds
import PyProof.TupleCall
import PyProof.FString
import PyProof.ReprRoads
import PyProof.FitsInt
import PyProof.Rows.Range3
import PyProof.CallFns
import PyProof.StrWalks
import KE.KIntText
import PySem.Challenge.RW_rayround_k76_heights_and_rows_as_texts
set_option maxRecDepth 100000
set_option linter.all false
set_option Elab.async false
set_option maxHeartbeats 4000000
noncomputable section
set_option bootstrap.genMatcherCode false
set_option genSizeOf false
set_option genSizeOfSpec false
set_option compiler.extract_closed false
section
namespace DQ
open PySem PySem.Spec PyProof.Rows
noncomputable def Zag (A:Around)(h:Heap):Prop:=A.handled=none\/ ∃ ea oe vs,A.handled=some (.ref ea)/\h.get? ea=some oe/\oe.data= .fields vs/\vs[2]?=some .none
theorem Zag.keeps {A:Around}{h h':Heap}(q:Zag A h)(k: ∀ b o,h.get? b=some o->h'.get? b=some o):Zag A h':=by
 rcases q with q | ⟨ea,oe,vs,e1,e2,e3,e4⟩
 ·exact .inl q
 ·exact .inr ⟨ea,oe,vs,e1,k _ _ e2,e3,e4⟩
theorem ZbJ:entryFor table "proto.unchain"=some Builtin.«proto.unchain» :=entryFor_of_fast (by kernel_rfl)
section
variable {prog:Program}{w:World}{A:Around}{E:Value->Shared->Prop}{s:Shared}
theorem ZcL {α:Type}{Q:α->Shared->Prop}{e:Addr}{oe:Obj}{vs:Array Value}(q:Zag A s.heap)(he:s.heap.get? e=some oe)(hd:oe.data= .fields vs)(hz:2 < vs.size)
  (h: ∀ h',(∀ b o,b≠e->s.heap.get? b=some o->h'.get? b=some o)->(∃ o,h'.get? e=some o/\o.cls=oe.cls)->E (.ref e) { s with heap:=h' }):wpAny (model prog w) A (raiseNew (.ref e):Sem α) Q E s:=by
 have same:E (.ref e) s:=h s.heap (fun _ _ _ x=>x) ⟨oe,he,rfl⟩
 unfold raiseNew;refine wpAny_bind (wpAny_handled ?_)
 rcases q with q | ⟨ea,oa,ws,q1,q2,q3,q4⟩
 ·rw[q]
  exact wpAny_bind (wpAny_pure (wpAny_throw same))
 ·rw[q1]
  dsimp only
  by_cases c:(Value.ref ea != Value.ref e)=true
  ·rw[if_pos c]
   refine wpAny_bind (wpAny_holding (wpAny_runValue (codeAny_builtin ZbJ ?_)))
   unfold Builtin.«proto.unchain»;refine wpAny_bind (wpAny_field q2 q3 q4 ?_)
   refine wpAny_bind (wpAny_pure ?_)
   have sf:wpAny (model prog w) A (setField (.ref e) 2 (.ref ea)) (fun _ s'=>wpAny (model prog w) A (throw (Value.ref e):Sem α) Q E s') E s:=by
    refine wpAny_setField he hd hz (wpAny_throw (h _ (fun b o hb x=> ?_) ⟨_,Heap.get?_update_self _ he (Obj.isFreed_of_fields (Obj.data_mapFields hd _)),Obj.cls_mapFields _ _⟩))
    rw[Heap.get?_update_other _ _ (Ne.symm hb)]
    exact x
   exact wpAny_pure (wpAny_bind sf)
  ·rw[if_neg c]
   exact wpAny_throw same
theorem Zar {α:Type}{Q:α->Shared->Prop}(q:Zag A s.heap)
  (h: ∀ h' e,(∀ b o,s.heap.get? b=some o->h'.get? b=some o)->(∃ o,h'.get? e=some o/\o.cls= .type "StopIteration")->E (.ref e) { s with heap:=h' }):
  wpAny (model prog w) A (newExc (.type "StopIteration") [] >>= fun x=>(raiseNew x:Sem α)) Q E s:=by
 refine wpAny_bind ?_
 simp only[newExc,newTuple];refine wpAny_bind (wpAny_newObj_type ?_ (by size_fits))
 refine wpAny_bind (m:=firstArgMember _ _) (wpAny_of_eq (a:=Value.none) (by first | rfl | (simp only[firstArgMember];rfl)) ?_)
 refine wpAny_newObj_type ?_ (by size_fits)
 refine ZcL (q.keeps fun b o x=>Heap.get?_push_of_some _ (Heap.get?_push_of_some _ x)) (Heap.get?_push_size _ rfl) rfl (by rw[Array.size_append];exact Nat.lt_of_lt_of_le (by decide:2 < 6) (Nat.le_add_right _ _)) fun h' k he=> ?_
 exact h h' _ (fun b o x=>k b o (Nat.ne_of_lt (Nat.lt_of_lt_of_le (Heap.lt_size x) (by rw[Heap.size_push];exact Nat.le_succ _))) (Heap.get?_push_of_some _ (Heap.get?_push_of_some _ x))) he
theorem ZgX {e:Addr}{Q:Bool->Shared->Prop}(he: ∃ o,s.heap.get? e=some o/\o.cls= .type "StopIteration")(h:Q true s):wpAny (model prog w) A (isInstance (.ref e) (.type "StopIteration")) Q E s:=
 let ⟨o,e1,e2⟩:=he
 wpAny_isInstance (T:="StopIteration") (b:=true) ⟨o,e1,e2⟩ isSubtype_stop h
theorem Zag.in1 {h:Heap}(q:Zag A h):Zag A.in1 h:=q
noncomputable def Zd5 (it:Addr)(s:Shared)(e:Value)(s':Shared):Prop:= ∃ a,e= .ref a/\(∃ o,s'.heap.get? a=some o/\o.cls= .type "StopIteration")/\ ∃ h',Heap.ExtBut it s.heap h'/\s'={ s with heap:=h' }
theorem Zc5 {it:Addr}{T id:String}{b:Builtin}{Q:Option Value->Shared->Prop}(hT:s.TypeIs (.ref it) T)(sl:Slot T (Str.ofString "__next__") id)(hb:entryFor table id=some b)(ha:argsOk id ⟨[.ref it],[]⟩)
  (h:wpAny (model prog w) A.in1 (b ⟨[.ref it],[]⟩) (fun _ _=>False) (Zd5 it s) s) (hQ: ∀ h',Heap.ExtBut it s.heap h'->Q none { s with heap:=h' }):wpAny (model prog w) A (pyNext (.ref it)) Q E s:=by
 unfold pyNext;refine wpAny_bind (wpAny_attempt (wpAny_callSpecial?_slot (name:=Str.ofString "__next__") hT sl (wpAny_call_entry sl hT hb (wpAny_mono h (fun _ _ z=>z.elim) fun e s' z=> ?_) ha)))
 obtain ⟨a,rfl,ho,h',eb,rfl⟩:=z
 exact wpAny_bind (ZgX ho (wpAny_pure (hQ h' eb)))
theorem Zd6 {it:Addr}{x left step:Int}{Q:Option Value->Shared->Prop}(q:Zag A s.heap)(hit:IsRangeIter s.heap it x left step)(hl:left<=0)
  (hQ: ∀ h',Heap.ExtBut it s.heap h'->Q none { s with heap:=h' }):wpAny (model prog w) A (pyNext (.ref it)) Q E s:=by
 refine Zc5 ⟨_,hit,rfl⟩ F.slot_range_iterator_next F.entry_range_iterator_next (F.args_range_iterator_next_1 _) ?_ hQ
 refine wpAny_bind (m:=field (.ref it) 0) (wpAny_field hit rfl (x:=rawInt x) rfl ?_)
 refine wpAny_bind (m:=field (.ref it) 1) (wpAny_field hit rfl (x:=rawInt left) rfl ?_)
 refine wpAny_bind (m:=field (.ref it) 2) (wpAny_field hit rfl (x:=rawInt step) rfl ?_)
 dsimp only[rawInt];rw[if_pos hl];refine wpAny_bind (wpAny_rule (wpAny_bind ?_))
 exact Zar q.in1 fun h' e k ho=>⟨e,rfl,ho,h',fun b o _ z=>k b o z,rfl⟩
theorem Zip {it l:Addr}{i:Nat}{o ol:Obj}{items:Array Value}{n:Nat}(q:Zag A s.heap)(ho:s.heap.get? it=some o)(hd:o.data= .fields #[.ref l,.int i 0])(hol:s.heap.get? l=some ol)(hdl:ol.data= .seq items n)(hx:items[i]?=none):
  wpAny (model prog w) A.in1 (Builtin.«list_iterator.__next__» ⟨[.ref it],[]⟩) (fun _ _=>False) (Zd5 it s) s:=by
 refine wpAny_bind (m:=field (.ref it) 0) (wpAny_field ho hd (x:= .ref l) rfl ?_)
 dsimp only;rw[if_neg (show ¬ ((Value.ref l == Value.none)=true) from Bool.false_ne_true)];refine wpAny_bind (m:=field (.ref it) 1) (wpAny_field ho hd (x:= .int i 0) rfl ?_)
 refine wpAny_bind (m:=seqItems? (.ref l)) (wpAny_seqItems hol hdl ?_)
 simp only[Int.toNat_natCast,hx];refine wpAny_bind (wpAny_rule (wpAny_bind (wpAny_setField ho hd (by simp) ?_)))
 have q2:Zag A.in1 (s.heap.update it (Obj.mapFields (·.setIfInBounds 0 Value.none))):=by
  rcases q with q | ⟨ea,oe,vs,e1,e2,e3,e4⟩
  ·exact .inl q
  ·refine .inr ⟨ea,oe,vs,e1,?_,e3,e4⟩
   rw[Heap.get?_update_other _ _ (fun z=> ?_)]
   ·exact e2
   ·rw[<- z,ho] at e2
    cases e2
    rw[hd] at e3;cases e3
    simp at e4
 refine Zar q2 fun h' e k ho=>⟨e,rfl,ho,h',fun b o hb z=>k b o ?_,rfl⟩
 rw[Heap.get?_update_other _ _ (Ne.symm hb)]
 exact z
theorem Ziq {it l:Addr}{i:Nat}{o ol:Obj}{items:Array Value}{n:Nat}(q:Zag A s.heap)(ho:s.heap.get? it=some o)(hd:o.data= .fields #[.ref l,.int i 0])(hol:s.heap.get? l=some ol)(hdl:ol.data= .seq items n)(hx:items[i]?=none):
  wpAny (model prog w) A.in1 (Builtin.«tuple_iterator.__next__» ⟨[.ref it],[]⟩) (fun _ _=>False) (Zd5 it s) s:=by
 refine wpAny_bind (m:=field (.ref it) 0) (wpAny_field ho hd (x:= .ref l) rfl ?_)
 dsimp only;rw[if_neg (show ¬ ((Value.ref l == Value.none)=true) from Bool.false_ne_true)];refine wpAny_bind (m:=field (.ref it) 1) (wpAny_field ho hd (x:= .int i 0) rfl ?_)
 refine wpAny_bind (m:=seqItems? (.ref l)) (wpAny_seqItems hol hdl ?_)
 simp only[Int.toNat_natCast,hx];refine wpAny_bind (wpAny_rule (wpAny_bind (wpAny_setField ho hd (by simp) ?_)))
 have q2:Zag A.in1 (s.heap.update it (Obj.mapFields (·.setIfInBounds 0 Value.none))):=by
  rcases q with q | ⟨ea,oe,vs,e1,e2,e3,e4⟩
  ·exact .inl q
  ·refine .inr ⟨ea,oe,vs,e1,?_,e3,e4⟩
   rw[Heap.get?_update_other _ _ (fun z=> ?_)]
   ·exact e2
   ·rw[<- z,ho] at e2
    cases e2
    rw[hd] at e3;cases e3
    simp at e4
 refine Zar q2 fun h' e k ho=>⟨e,rfl,ho,h',fun b o hb z=>k b o ?_,rfl⟩
 rw[Heap.get?_update_other _ _ (Ne.symm hb)]
 exact z
theorem ZfE {it l:Addr}{i:Nat}{items}{Q:Option Value->Shared->Prop}(q:Zag A s.heap)(hit:s.heap.IsListIter it l i)(hl:s.heap.IsList l items)(hx:items[i]?=none)
  (hQ: ∀ h',Heap.ExtBut it s.heap h'->Q none { s with heap:=h' }):wpAny (model prog w) A (pyNext (.ref it)) Q E s:=by
 obtain ⟨o,ho,hc,hd⟩:=id hit
 obtain ⟨ol,hol,_,nl,hdl⟩:=hl
 exact Zc5 hit.typeIs slot_listiter_next entry_listiter_next (args_listiter_next _) (Zip q ho hd hol hdl hx) hQ
theorem Zd7 {it l:Addr}{i:Nat}{items}{Q:Option Value->Shared->Prop}(q:Zag A s.heap)(hit:s.heap.IsTupleIter it l i)(hl:s.heap.IsTuple l items)(hx:items[i]?=none)
  (hQ: ∀ h',Heap.ExtBut it s.heap h'->Q none { s with heap:=h' }):wpAny (model prog w) A (pyNext (.ref it)) Q E s:=by
 obtain ⟨o,ho,hc,hd⟩:=id hit
 obtain ⟨ol,hol,_,nl,hdl⟩:=hl
 exact Zc5 hit.typeIs F.slot_tuple_iterator_next F.entry_tuple_iterator_next (F.args_tuple_iterator_next_1 _) (Ziq q ho hd hol hdl hx) hQ
end
end DQ
end
section
namespace L2
open PySem PySem.Spec PyProof.Rows
noncomputable abbrev Key:=Sum Int Str
noncomputable def Zir:Key->Value->Bool
 | .inl k,v=>Value.isInt k v
 | .inr x,v=>Value.isStrOf x v
noncomputable def ZoE (w:World):Key->Int
 | .inl k=>hashInt k
 | .inr x=>hashStr w x
theorem Zx: ∀ {k:Key} {v:Value},Zir k v=true->(∃ i t,k=Sum.inl i/\v=Value.int i t)\/(∃ x t,k=Sum.inr x/\v=Value.str x t)
 | .inl i,v,h=>by
  obtain ⟨t,e⟩:=Value.isInt_shape (k:=i) (v:=v) h
  exact .inl ⟨i,t,rfl,e⟩
 | .inr x,v,h=>by
  obtain ⟨t,e⟩:=Value.isStrOf_shape (x:=x) (v:=v) h
  exact .inr ⟨x,t,rfl,e⟩
theorem Zis (a b:Int):decide ((Sum.inl a:Key)=Sum.inl b)=(a == b):=by
 by_cases e:a=b
 ·subst e;simp
 ·have h: ¬ (Sum.inl a:Key)=Sum.inl b:=fun q=>e (Sum.inl.inj q)
  rw[decide_eq_false h];exact (beq_eq_false_iff_ne.mpr e).symm
theorem Zit (a b:Str):decide ((Sum.inr a:Key)=Sum.inr b)=decide (a=b):=by
 by_cases e:a=b
 ·subst e;simp
 ·have h: ¬ (Sum.inr a:Key)=Sum.inr b:=fun q=>e (Sum.inr.inj q)
  rw[decide_eq_false h,decide_eq_false e]
theorem Ziu (a:Int)(b:Str):decide ((Sum.inl a:Key)=Sum.inr b)=false:=decide_eq_false (fun q=>nomatch q)
theorem Ziv (a:Str)(b:Int):decide ((Sum.inr a:Key)=Sum.inl b)=false:=decide_eq_false (fun q=>nomatch q)
noncomputable def Zd8 (prog:Program)(w:World):PySem.KeyKind prog w Key where
 is:=Zir
 hash:=ZoE w
 inj:=fun v a b ha hb=>by
  rcases Zx ha with ⟨i,t,rfl,rfl⟩ | ⟨x,t,rfl,rfl⟩
  ·rcases Zx hb with ⟨j,u,rfl,e⟩ | ⟨y,u,rfl,e⟩
   ·injection e with e1 _;rw[e1]
   ·exact nomatch e
  ·rcases Zx hb with ⟨j,u,rfl,e⟩ | ⟨y,u,rfl,e⟩
   ·exact nomatch e
   ·injection e with e1 _;rw[e1]
 byValue:=fun k v h=>by
  rcases Zx h with ⟨i,t,rfl,rfl⟩ | ⟨x,t,rfl,rfl⟩<;>rfl
 pyHash:=fun hv h=>by
  rcases Zx hv with ⟨i,t,rfl,rfl⟩ | ⟨x,t,rfl,rfl⟩
  ·exact wpAny_pyHash_int h
  ·exact wpAny_pyHash_str h
 eqBool:=fun hu hv h=>by
  rcases Zx hu with ⟨i,t,rfl,rfl⟩ | ⟨x,t,rfl,rfl⟩
  ·rcases Zx hv with ⟨j,u,rfl,rfl⟩ | ⟨y,u,rfl,rfl⟩
   ·rw[Zis] at h;exact wpAny_eqBool_int h
   ·rw[Ziu] at h;exact SeqAt.EqAt.int_str i t y u _ _ _ _ h
  ·rcases Zx hv with ⟨j,u,rfl,rfl⟩ | ⟨y,u,rfl,rfl⟩
   ·rw[Ziv] at h;exact SeqAt.EqAt.str_int x t j u _ _ _ _ h
   ·rw[Zit] at h;exact wpAny_eqBool_str h
 «strs» :=fun k x t v h=>by
  rcases Zx h with ⟨i,u,rfl,e⟩ | ⟨y,u,rfl,e⟩
  ·exact nomatch e
  ·injection e with e1 _
   subst e1;cases v<;>rfl
end L2
namespace L2
open PySem PySem.Spec PyProof.Rows
inductive V where
 |non | bl (b:Bool) | int (i:Int) | str (x:Str) | byt (b:Array UInt8) | flt (b:UInt64) | ref (a:Addr) | ty (n:String)
 deriving DecidableEq
noncomputable def ZO:V->Value->Prop
 | .non,u=>u=Value.none
 | .bl b,u=>u=Value.bool b
 | .int i,u=> ∃ t,u=Value.int i t
 | .str x,u=> ∃ t,u=Value.str x t
 | .byt b,u=> ∃ t,u=Value.bytes b t
 | .flt b,u=> ∃ t,u=Value.float b t
 | .ref a,u=>u=Value.ref a
 | .ty n,u=>u=Value.type n
noncomputable abbrev ZB:List V->List Value->Prop:=Paired ZO
theorem ZB.length {xs:List V}{us:List Value}(r:ZB xs us):xs.length=us.length:=Paired.length r
theorem ZB.get: ∀ {xs:List V} {us:List Value} {i:Nat} {x:V},ZB xs us->xs[i]?=some x-> ∃ u,us[i]?=some u/\ZO x u
 |_,_,_,_,.nil,e=>by simp at e
 |_,_,0,_,.cons r _,e=>by simp at e;subst e;exact ⟨_,rfl,r⟩
 |_,_,i + 1,x,.cons _ t,e=>by
  obtain ⟨u,h1,h2⟩:=ZB.get (i:=i) (x:=x) t (by simpa using e)
  exact ⟨u,by simpa using h1,h2⟩
theorem ZB.set {x:V}{u:Value}(r:ZO x u): ∀ {xs:List V} {us:List Value} (i:Nat),ZB xs us->ZB (xs.set i x) (us.set i u)
 |_,_,_,.nil=> .nil
 |_,_,0,.cons _ t=> .cons r t
 |_,_,i + 1,.cons q t=> .cons q (ZB.set r i t)
theorem ZB.append: ∀ {xs ys:List V} {us ws:List Value},ZB xs us->ZB ys ws->ZB (xs ++ ys) (us ++ ws)
 |_,_,_,_,.nil,s=>s
 |_,_,_,_,.cons r t,s=> .cons r (ZB.append t s)
theorem ZB.take: ∀ {xs:List V} {us:List Value} (n:Nat),ZB xs us->ZB (xs.take n) (us.take n)
 |_,_,0,_=> .nil
 |_,_,_ + 1,.nil=> .nil
 |_,_,n + 1,.cons r t=> .cons r (ZB.take n t)
theorem ZB.drop: ∀ {xs:List V} {us:List Value} (n:Nat),ZB xs us->ZB (xs.drop n) (us.drop n)
 |_,_,0,r=>r
 |_,_,_ + 1,.nil=> .nil
 |_,_,n + 1,.cons _ t=>ZB.drop n t
noncomputable def ZnB:Option V->Option Value->Prop
 |some v,some u=>ZO v u
 |none,none=>True
 |_,_=>False
noncomputable def KV {κ:Type}:List (κ × V)->List (κ × Value)->Prop:=Paired fun (p:κ × V) (q:κ × Value)=>p.1=q.1/\ZO p.2 q.2
noncomputable def kV:Key->V
 | .inl i=> .int i
 | .inr x=> .str x
inductive HO where
 |lst (xs:List V)
 |tup (xs:List V)
 |dK (kvs:List (Key × V)) | dT (kvs:List (List Key × V))
 |set (S:Int->Bool) (n:Nat)
 |ins (C dx:Addr) (fs:List (Str × V))
 |own (x:Addr)
 |xd (fs:List (Str × V))
 |met (f x:Addr)
 |rng (lo hi:Int)
 |frz (o:Obj) (u:HO)
 |tbl (ps:Array Value)
 |ext (φ:Heap->Prop)
noncomputable abbrev Hp:=Addr->Option HO
noncomputable def upd (H:Hp)(a:Addr)(o:HO):Hp:=fun b=>if b=a then some o else H b
theorem Zr {H:Hp}{a:Addr}{o:HO}:upd H a o a=some o:=by unfold upd;rw[if_pos rfl]
theorem Zu {H:Hp}{a b:Addr}{o:HO}(h:b≠a):upd H a o b=H b:=by unfold upd;rw[if_neg h]
theorem ZE {H:Hp}{a b:Addr}{o:HO}(h:H a=some o)(h':H b=none):a≠b:=by
 intro e;subst e;rw[h] at h';cases h'
section
variable (P:Program)(w:World)
noncomputable def ZaA (H:Hp)(h:Heap)(a:Addr):HO->Prop
 | .lst xs=>xs.length<=sizeLine/\ ∃ (its:List Value) (n:Nat),ZB xs its/\h.get? a=some { cls:= .type "list",data:= .seq its.toArray n }
 | .tup xs=>xs.length<=sizeLine/\ ∃ its:List Value,ZB xs its/\IsTup h a its.toArray
 | .dK kvs=>kvs.length<=sizeLine/\(a == sysModules)=false/\ ∃ vs,KV kvs vs/\h.DictOf (Zd8 P w) a vs
 | .dT kvs=>kvs.length<=sizeLine/\(a == sysModules)=false/\ ∃ xs:List (List Key × Addr × Value),
   Paired (fun (p:List Key × V) (q:List Key × Addr × Value)=>p.1=q.1/\H q.2.1=some (.tup (p.1.map kV))/\ZO p.2 q.2.2) kvs xs/\
   ∃ o es ep,h.get? a=some o/\o.ExactDict/\o.data= .dict es ep/\es.toList=xs.map (entryOfKey (tupleKind (Zd8 P w)))/\(xs.map (·.1)).Nodup
 | .set S n=>h.SetOf (intKind P w) a S n
 | .ins C dx fs=>H dx=some (.own a)/\fs.length<=1000/\dx≠a/\h.get? a=some (PySem.W.instObj C dx)/\
   ∃ mA,h.Ns1 dx mA/\(∀ f,ZnB (fs.lookup f) (mA f))/\PySem.Within mA (fs.map (·.1))
 | .own _=> ∃ o,h.get? a=some o
 | .xd fs=> ∃ mA,h.Ns1 a mA/\ ∀ f,ZnB (fs.lookup f) (mA f)
 | .rng lo hi=> ∃ t u v,h.get? a=some { cls:= .type "range",data:= .fields #[.int lo t,.int hi u,.int 1 v] }
 | .frz o u=>h.get? a=some o/\ZaA H h a u
 | .tbl ps=>h.get? a=some { cls:= .none,data:= .fields ps }
 | .met f x=>h.get? a=some (PySem.W.methodObj (.ref f) (.ref x))
 | .ext φ=>φ h/\(∃ o,h.get? a=some o)/\ ∀ h1 h2:Heap,φ h1->(∀ o,h1.get? a=some o->h2.get? a=some o)->φ h2
noncomputable def HOk (H:Hp)(h:Heap):Prop:= ∀ a o,H a=some o->ZaA P w H h a o
end
section
variable {P:Program}{w:World}{H H':Hp}{h h':Heap}{a:Addr}{o:HO}
theorem ZaA.lt (x:ZaA P w H h a o):a < h.objs.size:=by
 cases o with
 |lst xs=>obtain ⟨_,_,_,_,e⟩:=x;exact Heap.lt_size e
 |tup xs=>obtain ⟨_,_,_,p⟩:=x;exact p.lt
 |dK kvs=>obtain ⟨_,_,_,_,o,_,_,e,_⟩:=x;exact Heap.lt_size e
 |dT kvs=>obtain ⟨_,_,_,_,o,_,_,e,_⟩:=x;exact Heap.lt_size e
 |set S n=>obtain ⟨o,_,_,_,e,_⟩:=x;exact Heap.lt_size e
 |ins C dx fs=>obtain ⟨_,_,_,e,_⟩:=x;exact Heap.lt_size e
 |own y=>obtain ⟨_,e⟩:=x;exact Heap.lt_size e
 |xd fs=>obtain ⟨_,⟨_,_,_,e,_⟩,_⟩:=x;exact Heap.lt_size e
 |rng lo hi=>obtain ⟨_,_,_,e⟩:=x;exact Heap.lt_size e
 |frz ob u=>obtain ⟨e,_⟩:=x;exact Heap.lt_size e
 |tbl ps=>exact Heap.lt_size (show h.get? a=some _ from x)
 |met f y=>exact Heap.lt_size (show h.get? a=some _ from x)
 |ext φ=>obtain ⟨_,⟨_,e⟩,_⟩:=x;exact Heap.lt_size e
theorem Paired.mapP {α β:Type}{F G:α->β->Prop}: ∀ {l₁:List α} {l₂:List β},Paired F l₁ l₂->(∀ a b,F a b->G a b)->Paired G l₁ l₂
 |_,_,.nil,_=> .nil
 |_,_,.cons r t,f=> .cons (f _ _ r) (Paired.mapP t f)
theorem ZaA.stay (x:ZaA P w H h a o)(k: ∀ b u,(b=a\/H b=some (.own a))->h.get? b=some u->h'.get? b=some u)
  (ho: ∀ b,H b=some (.own a)->H' b=some (.own a)) (ht: ∀ b xs,H b=some (.tup xs)->H' b=some (.tup xs)):ZaA P w H' h' a o:=by
 induction o with
 |lst xs=>obtain ⟨z,its,n,r,e⟩:=x;exact ⟨z,its,n,r,k _ _ (.inl rfl) e⟩
 |tup xs=>obtain ⟨z,its,r,ob,e,c⟩:=x;exact ⟨z,its,r,ob,k _ _ (.inl rfl) e,c⟩
 |dK kvs=>obtain ⟨z,y,vs,r,ob,es,ep,e,c⟩:=x;exact ⟨z,y,vs,r,ob,es,ep,k _ _ (.inl rfl) e,c⟩
 |dT kvs=>
  obtain ⟨z,y,xs,r,ob,es,ep,e,c⟩:=x
  exact ⟨z,y,xs,Paired.mapP r fun p q z=>⟨z.1,ht _ _ z.2.1,z.2.2⟩,ob,es,ep,k _ _ (.inl rfl) e,c⟩
 |set S n=>obtain ⟨ob,es,ep,t,e,c⟩:=x;exact ⟨ob,es,ep,t,k _ _ (.inl rfl) e,c⟩
 |ins C dx fs=>
  obtain ⟨d,z,ne,e,mA,⟨od,es,ep,e2,c⟩,r⟩:=x
  exact ⟨ho _ d,z,ne,k _ _ (.inl rfl) e,mA,⟨od,es,ep,k _ _ (.inr d) e2,c⟩,r⟩
 |own y=>obtain ⟨ob,e⟩:=x;exact ⟨ob,k _ _ (.inl rfl) e⟩
 |xd fs=>obtain ⟨mA,⟨od,es,ep,e,c⟩,r⟩:=x;exact ⟨mA,⟨od,es,ep,k _ _ (.inl rfl) e,c⟩,r⟩
 |rng lo hi=>obtain ⟨t,u,v,e⟩:=x;exact ⟨t,u,v,k _ _ (.inl rfl) e⟩
 |frz ob u ih=>obtain ⟨e,q⟩:=x;exact ⟨k _ _ (.inl rfl) e,ih q⟩
 |tbl ps=>
  have e:h.get? a=some { cls:= .none,data:= .fields ps }:=x
  show h'.get? a=some { cls:= .none,data:= .fields ps }
  exact k a _ (.inl rfl) e
 |met f y=>
  have e:h.get? a=some (PySem.W.methodObj (.ref f) (.ref y)):=x
  show h'.get? a=some (PySem.W.methodObj (.ref f) (.ref y))
  exact k a _ (.inl rfl) e
 |ext φ=>obtain ⟨p,⟨o,e⟩,st⟩:=x;exact ⟨st _ _ p fun o q=>k _ _ (.inl rfl) q,⟨o,k _ _ (.inl rfl) e⟩,st⟩
theorem HOk.lt (x:HOk P w H h)(e:H a=some o):a < h.objs.size:=(x a o e).lt
theorem HOk.fresh (x:HOk P w H h)(e:h.objs.size<=a):H a=none:=by
 cases q:H a with
 |none=>rfl
 |some u=>exact absurd (Nat.lt_of_lt_of_le (x.lt q) e) (Nat.lt_irrefl _)
theorem HOk.kept (x:HOk P w H h)(k: ∀ b u,h.get? b=some u->h'.get? b=some u):HOk P w H h':=fun a o e=>
 (x a o e).stay (fun b u _ q=>k b u q) (fun _ q=>q) fun _ _ q=>q
theorem HOk.laid (x:HOk P w H h)(k: ∀ b u,h.get? b=some u->h'.get? b=some u)(hp:h.objs.size<=a)(new:ZaA P w (upd H a o) h' a o):HOk P w (upd H a o) h':=fun b u e=>by
 have hn:=x.fresh hp
 by_cases hb:b=a
 ·subst hb;rw[Zr] at e;cases e;exact new
 ·rw[Zu hb] at e
  exact (x b u e).stay (fun c v _ q=>k c v q) (fun c q=>by rw[Zu (ZE q hn)];exact q) fun c xs q=>by rw[Zu (ZE q hn)];exact q
end
noncomputable def Rd (H:Hp)(a:Addr)(u:HO):Prop:=H a=some u\/ ∃ o,H a=some (.frz o u)
theorem Rd.ok {P:Program}{w:World}{H:Hp}{h:Heap}{a:Addr}{u:HO}(r:Rd H a u)(x:HOk P w H h):ZaA P w H h a u:=by
 rcases r with r | ⟨o,r⟩
 ·exact x a u r
 ·obtain ⟨_,q⟩:=x a _ r
  exact q
noncomputable def Mut:Option HO->Prop
 |some (.lst _)=>True
 |some (.dK _)=>True
 |some (.dT _)=>True
 |some (.set _ _)=>True
 |some (.ins _ _ _)=>True
 |some (.ext _)=>True
 |_=>False
section
variable {P:Program}{w:World}{H:Hp}{h h':Heap}{x e:Addr}{o':HO}
theorem HOk.write (ok:HOk P w H h)(mu:Mut (H x))(he:e=x\/H e=some (.own x))(k: ∀ b u,b≠e->h.get? b=some u->h'.get? b=some u)(heo: ∃ u,h'.get? e=some u)
  (new:ZaA P w (upd H x o') h' x o'):HOk P w (upd H x o') h':=fun b u q=>by
 have nown: ∀ c y,H c=some (.own y)->c≠x:=fun c y r z=>by subst z;rw[r] at mu;exact mu
 have ntup: ∀ c xs,H c=some (.tup xs)->c≠x:=fun c xs r z=>by subst z;rw[r] at mu;exact mu
 by_cases hb:b=x
 ·subst hb;rw[Zr] at q;cases q;exact new
 ·rw[Zu hb] at q
  by_cases hbe:b=e
  ·have q':H b=some (.own x):=by
    rcases he with z | z
    ·exact absurd (hbe.trans z) hb
    ·rw[hbe];exact z
   rw[q] at q';cases q';obtain ⟨v,hv⟩:=heo
   exact ⟨v,by rw[hbe];exact hv⟩
  ·refine (ok b u q).stay (fun c v hc r=>k c v ?_ r) (fun c r=>by rw[Zu (nown c b r)];exact r) fun c xs r=>by rw[Zu (ntup c xs r)];exact r
   rcases hc with rfl | hc
   ·exact hbe
   ·rintro rfl
    rcases he with z | z
    ·exact nown c b hc z
    ·rw[hc] at z;cases z;exact hb rfl
end
structure Un (fs ex:List Addr) (H H':Hp) (h h':Heap):Prop where
 keep: ∀ b o,h.get? b=some o->H b=none->b ∉ fs->b ∉ ex->h'.get? b=some o
 slot: ∀ b o,h.get? b=some o->H b=none->b∈fs->b ∉ ex-> ∃ sl,h'.get? b=some { o with slots:=sl }
 free: ∀ b o,h.get? b=some o->H b=none->b ∉ ex->H' b=none
 there: ∀ b o,h.get? b=some o->b ∉ ex-> ∃ o',h'.get? b=some o'
 tups: ∀ b xs,H b=some (.tup xs)->H' b=some (.tup xs)
 frzs: ∀ b o u,H b=some (.frz o u)->H' b=some (.frz o u)
 tbls: ∀ b ps,H b=some (.tbl ps)-> ∃ more,H' b=some (.tbl (ps ++ more))
section
variable {fs fs' ex ex':List Addr}{H H1 H2:Hp}{h h1 h2 h':Heap}{a x e:Addr}{o:HO}
theorem Un.any (u:Un fs ex H H1 h h1){b:Addr}{ob:Obj}(q:h.get? b=some ob)(n:H b=none)(hx:b ∉ ex): ∃ sl,h1.get? b=some { ob with slots:=sl }:=by
 by_cases hb:b∈fs
 ·exact u.slot b ob q n hb hx
 ·exact ⟨ob.slots,u.keep b ob q n hb hx⟩
theorem Un.kept (k: ∀ b u,h.get? b=some u->h'.get? b=some u):Un fs ex H H h h':=
 ⟨fun b ob q _ _ _=>k b ob q,fun b ob q _ _ _=>⟨ob.slots,k b ob q⟩,fun _ _ _ n _=>n,fun b ob q _=>⟨ob,k b ob q⟩,fun _ _ q=>q,fun _ _ _ q=>q,fun _ ps q=>⟨#[],by rw[q];simp⟩⟩
theorem Un.refl:Un fs ex H H h h:=Un.kept fun _ _ q=>q
theorem Un.laid (k: ∀ b u,h.get? b=some u->h'.get? b=some u)(hp:h.objs.size<=a)(hn:H a=none):Un fs ex H (upd H a o) h h' where
 keep:=fun b u q _ _ _=>k b u q
 slot:=fun b u q _ _ _=>⟨u.slots,k b u q⟩
 free:=fun b u q n _=>by rw[Zu (Nat.ne_of_lt (Nat.lt_of_lt_of_le (Heap.lt_size q) hp))];exact n
 there:=fun b u q _=>⟨u,k b u q⟩
 tups:=fun b xs q=>by rw[Zu (ZE q hn)];exact q
 frzs:=fun b u xs q=>by rw[Zu (ZE q hn)];exact q
 tbls:=fun b ps q=>⟨#[],by rw[Zu (ZE q hn),q];simp⟩
theorem Un.write (mu:Mut (H x))(he:e=x\/H e=some (.own x))(k: ∀ b u,b≠e->h.get? b=some u->h'.get? b=some u)(heo: ∃ u,h'.get? e=some u):Un fs ex H (upd H x o) h h':=by
 have hx: ∀ b,H b=none->b≠x:=fun b n z=>by subst z;rw[n] at mu;exact mu
 have hb: ∀ b,H b=none->b≠e:=fun b n z=>by
  subst z
  rcases he with r | r
  ·exact hx b n r
  ·rw[n] at r;cases r
 have hm: ∀ b u,H b=some u-> ¬ Mut (some u)->b≠x:=fun b u q nm z=>by subst z;rw[q] at mu;exact nm mu
 refine ⟨fun b u q n _ _=>k b u (hb b n) q,fun b u q n _ _=>⟨u.slots,k b u (hb b n) q⟩,fun b u q n _=>by rw[Zu (hx b n)];exact n,fun b u q _=> ?_,
  fun b xs q=>by rw[Zu (hm b _ q fun z=>z)];exact q,fun b u xs q=>by rw[Zu (hm b _ q fun z=>z)];exact q,fun b ps q=>⟨#[],by rw[Zu (hm b _ q fun z=>z),q];simp⟩⟩
 by_cases hbe:b=e
 ·subst hbe;exact heo
 ·exact ⟨u,k b u hbe q⟩
end
noncomputable def trk (h:Heap)(H:Hp):List Addr:=(List.range h.objs.size).filter fun a=>(H a).isSome
noncomputable def ZfA (h:Heap)(H:Hp):Heap:=PySem.W.hideAll h (trk h H)
theorem Zd9 (h:Heap)(H:Hp):(ZfA h H).objs.size=h.objs.size:=PySem.W.hideAll_size _ _
theorem Zc6 {h:Heap}{H:Hp}{b:Addr}{o:Obj}(e:h.get? b=some o)(n:H b=none):(ZfA h H).get? b=some o:=
 PySem.W.hideAll_get _ e fun hm=>by
  have q:(H b).isSome=true:=(List.mem_filter.mp hm).2
  rw[n] at q;simp at q
theorem Zea {h:Heap}{H:Hp}{b:Addr}{o:Obj}(e:(ZfA h H).get? b=some o):h.get? b=some o/\H b=none:=by
 have e':h.get? b=some o:=PySem.W.of_hideAll (trk h H) e
 refine ⟨e',?_⟩
 cases q:H b with
 |none=>rfl
 |some x=>
  have hm:b∈trk h H:=List.mem_filter.mpr ⟨List.mem_range.mpr (Heap.lt_size e'),by simp[q]⟩
  have z:(ZfA h H).get? b=none:=PySem.W.hideAll_none (trk h H) hm
  rw[z] at e;cases e
end L2
namespace L2
open PySem PySem.Spec PyProof.Rows
structure Mod (K:PySem.W.Frag) (mg:Str->Option Value) (base:Heap):Prop where
 kin:K.In base
 glob:base.Ns mainGlobals mg
 blt: ∃ mb,base.Ns builtinsNs mb/\ ∀ x:Str,x≠"__name__"->mb x=bootBuiltins x
 nolimit:base.NoLimit
structure Cx where
 prog:Program
 w:World
 K:PySem.W.Frag
 mg:Str->Option Value
 base:Heap
 A:Around
 N:List Str
 s₀:Shared
 H₀:Hp
 env:Env
 outer:List Env
 stack:List Env
 ex:List Addr
 fn:Str->Bool
 calm:Bool
 pn:List (Addr × Obj)
 xe:Value->Shared->Prop
 fxs:Option (List Bool × List (Option V))
noncomputable def frs (l:List Env):List Addr:=l.filterMap (·.frame)
noncomputable abbrev Cx.fs (X:Cx):List Addr:=frs X.outer
noncomputable def Vis (sc:Scope)(x:Str):Prop:=sc.names.lookup x=some .local\/sc.names.lookup x=some .cell\/sc.names.lookup x=some .free
noncomputable def Loc (sc:Scope)(x:Str):Prop:=sc.names.lookup x=some .local\/sc.names.lookup x=some .cell
noncomputable def ZoF (env:Env)(h:Heap)(m:Str->Option Value)(x:Str)(u:Value):Prop:=
 (env.kindOf x=some .local/\m x=some u)\/((env.kindOf x=some .cell\/env.kindOf x=some .free)/\ ∃ c,env.cells.lookup x=some c/\h.IsCell c (some u))
structure Cx.Ok (X:Cx):Prop where
 mod:Mod X.K X.mg X.base
 kind:X.env.scope.kind= .function
 glob:X.env.globals=mainGlobals
 blt:X.env.builtins=builtinsNs
 above:X.s₀.heap.objs.size<=X.env.locals
 inj: ∀ x y c,X.env.cells.lookup x=some c->X.env.cells.lookup y=some c->x=y
 has: ∀ x,(X.env.kindOf x=some .cell\/X.env.kindOf x=some .free)-> ∃ c,X.env.cells.lookup x=some c
 cab: ∀ x c,X.fn x=true->X.env.cells.lookup x=some c->X.s₀.heap.objs.size<=c
 hd:X.calm=true->X.A.handled=none
 frames:X.A.frames=some X.stack
 stk:X.stack=X.outer\/(X.stack=X.env :: X.outer/\X.env.frame=some X.env.locals)
 exf: ∀ b∈X.ex,b≠X.env.locals/\ ∀ x c,X.env.cells.lookup x=some c->c≠b
 bs: ∀ b o,X.base.get? b=some o->X.s₀.heap.get? b=some o/\X.H₀ b=none
 bsz:X.base.objs.size<=X.s₀.heap.objs.size
 noex: ∀ b o,X.base.get? b=some o->b ∉ X.ex
 exfs: ∀ b∈X.ex,b ∉ X.fs
 funs:X.s₀.heap.FunFrames X.base X.outer
 frf: ∀ b∈X.fs,X.H₀ b=none
noncomputable def Qd (A:Around)(H:Hp):Prop:=A.handled=none\/ ∃ ea oe u vs,A.handled=some (.ref ea)/\H ea=some (.frz oe u)/\oe.data= .fields vs/\vs[2]?=some .none
theorem Qd.mono {A:Around}{H H':Hp}(q:Qd A H)(k: ∀ b o u,H b=some (.frz o u)->H' b=some (.frz o u)):Qd A H':=by
 rcases q with q | ⟨ea,oe,u,vs,e1,e2,e3,e4⟩
 ·exact .inl q
 ·exact .inr ⟨ea,oe,u,vs,e1,k _ _ _ e2,e3,e4⟩
noncomputable def Cx.may (X:Cx)(i:Nat):Bool:=match X.fxs with | none=>true | some (W,_)=>W[i]? == some true
noncomputable def Cx.Fx (X:Cx)(σ:List (Option V)):Prop:= ∀ W σ0,X.fxs=some (W,σ0)-> ∀ j:Nat,W[j]?=some false->σ[j]?=σ0[j]?
theorem Cx.Fx.free {X:Cx}{σ:List (Option V)}(h:X.fxs=none):X.Fx σ:=fun W σ0 e=>by rw[h] at e;cases e
theorem Cx.Fx.set {X:Cx}{σ:List (Option V)}{i:Nat}{v:Option V}(h:X.Fx σ)(m:X.may i=true):X.Fx (σ.set i v):=fun W σ0 e j hj=>by
 have ne:i≠j:=fun z=>by
  unfold Cx.may at m;rw[e,z] at m;have m':(W[j]? == some true)=true:=m
  rw[hj] at m';cases m'
 rw[List.getElem?_set_ne ne]
 exact h W σ0 e j hj
structure Inv (X:Cx) (pins:List (Addr × Obj)) (σ:List (Option V)) (H:Hp) (s:Shared):Prop where
 ok:X.Ok
 os:s.os=X.s₀.os
 bare:AllBare s.gens
 base:Un X.fs X.ex X.H₀ H X.s₀.heap s.heap
 loc: ∃ m,s.heap.Ns X.env.locals m/\ ∀ (i:Nat) (x:Str) (v:V),X.N[i]?=some x->σ[i]?=some (some v)->Vis X.env.scope x-> ∃ u,ZO v u/\ZoF X.env s.heap m x u
 cell: ∀ x c,X.env.cells.lookup x=some c-> ∃ v,s.heap.IsCell c v
 free:H X.env.locals=none
 freeC: ∀ x c,X.env.cells.lookup x=some c->H c=none
 pin: ∀ p∈X.pn ++ pins,s.heap.get? p.1=some p.2/\H p.1=none/\p.1≠X.env.locals/\p.1 ∉ X.fs/\ ∀ v,p.2.data≠ .cell v
 hok:HOk X.prog X.w H s.heap
 len:σ.length=X.N.length
 qd:Qd X.A H
 fx:X.Fx σ
section
variable {X:Cx}{pins:List (Addr × Obj)}{σ:List (Option V)}{H H':Hp}{s:Shared}{h':Heap}
theorem Cx.Ok.nofr (ok:X.Ok){b:Addr}{o:Obj}(e:X.base.get? b=some o):b ∉ X.fs:=fun hb=>by
 have:=(ok.funs.mem hb).1
 rw[e] at this;cases this
theorem Inv.bs (I:Inv X pins σ H s): ∀ b o,X.base.get? b=some o->s.heap.get? b=some o/\H b=none:=fun b o e=>
 ⟨I.base.keep b o (I.ok.bs b o e).1 (I.ok.bs b o e).2 (I.ok.nofr e) (I.ok.noex b o e),I.base.free b o (I.ok.bs b o e).1 (I.ok.bs b o e).2 (I.ok.noex b o e)⟩
theorem Inv.qh (I:Inv X pins σ H s):DQ.Zag X.A s.heap:=by
 rcases I.qd with q | ⟨ea,oe,u,vs,e1,e2,e3,e4⟩
 ·exact .inl q
 ·exact .inr ⟨ea,oe,vs,e1,(I.hok _ _ e2).1,e3,e4⟩
theorem Inv.bk (I:Inv X pins σ H s): ∀ b o,X.base.get? b=some o->s.heap.get? b=some o:=fun b o e=>(I.bs b o e).1
theorem Inv.mod (I:Inv X pins σ H s):Mod X.K X.mg X.base:=I.ok.mod
theorem Inv.kIn (I:Inv X pins σ H s):X.K.In s.heap:=I.ok.mod.kin.keeps I.bk
theorem Inv.fr (I:Inv X pins σ H s): ∃ m,Fr X.base X.env.locals s.heap m:=
 let ⟨m,hn,_⟩:=I.loc
 ⟨m,hn,I.bk,Nat.le_trans I.ok.bsz I.ok.above⟩
theorem Inv.lt (I:Inv X pins σ H s):X.env.locals < s.heap.objs.size:=let ⟨_,hn,_⟩:=I.loc;hn.lt
theorem Inv.sz (I:Inv X pins σ H s):X.s₀.heap.objs.size<=s.heap.objs.size:=Nat.le_trans I.ok.above (Nat.le_of_lt I.lt)
theorem Inv.nofs (I:Inv X pins σ H s){a:Addr}(h:s.heap.objs.size<=a):a ∉ X.fs:=fun hb=>by
 obtain ⟨_,o,ho,_⟩:=I.ok.funs.mem hb
 exact absurd (Nat.lt_of_lt_of_le (Heap.lt_size ho) (Nat.le_trans I.sz h)) (Nat.lt_irrefl _)
theorem Inv.cne (I:Inv X pins σ H s): ∀ x c,X.env.cells.lookup x=some c->c≠X.env.locals:=fun x c e z=>by
 obtain ⟨v,o,ho,hd⟩:=I.cell x c e
 obtain ⟨m,⟨o',es,ep,ho',hd',_⟩,_⟩:=I.loc
 rw[z,ho'] at ho;cases ho;rw[hd'] at hd;cases hd
theorem Inv.funs (I:Inv X pins σ H s):s.heap.FunFrames X.base X.outer:=by
 have all: ∀ (l:List Env),(∀ b∈frs l,b∈X.fs)->X.s₀.heap.FunFrames X.base l->s.heap.FunFrames X.base l:=by
  intro l
  induction l with
  |nil=>intro _ _;trivial
  |cons env r ih=>
   intro hs hl;obtain ⟨hk,⟨L,o,hf,hn,ho,hd⟩,hr⟩:=hl
   have hL:L∈X.fs:=hs L (by unfold frs;rw[List.filterMap_cons,hf];exact List.mem_cons_self)
   obtain ⟨sl,e⟩:=I.base.slot L o ho (I.ok.frf L hL) hL fun z=>I.ok.exfs L z hL
   exact ⟨hk,⟨L,_,hf,hn,e,hd⟩,ih (fun b hb=>hs b (by unfold frs;rw[List.filterMap_cons,hf];exact List.mem_cons_of_mem _ hb)) hr⟩
 exact all X.outer (fun _ hb=>hb) I.ok.funs
theorem Inv.stack (I:Inv X pins σ H s):s.heap.FunFrames X.base X.stack:=by
 rcases I.ok.stk with e | ⟨e,hf⟩
 ·rw[e];exact I.funs
 ·rw[e]
  obtain ⟨m,hn,_⟩:=I.loc
  refine .cons (by rw[I.ok.kind];decide) hf hn ?_ I.funs
  exact Heap.get?_none_of_le (Nat.le_trans I.ok.bsz I.ok.above)
theorem Inv.stkSub (I:Inv X pins σ H s): ∀ b∈frs X.stack,b∈X.env.locals :: X.fs:=fun b hb=>by
 rcases I.ok.stk with e | ⟨e,hf⟩
 ·rw[e] at hb;exact List.mem_cons_of_mem _ hb
 ·rw[e] at hb
  unfold frs at hb;rw[List.filterMap_cons,hf] at hb;exact hb
theorem Inv.stkFree (I:Inv X pins σ H s): ∀ b∈frs X.stack,H b=none:=fun b hb=>by
 rcases List.mem_cons.mp (I.stkSub b hb) with e | hb
 ·rw[e];exact I.free
 ·obtain ⟨_,o,ho,_⟩:=I.ok.funs.mem hb
  exact I.base.free b o ho (I.ok.frf b hb) fun z=>I.ok.exfs b z hb
theorem Inv.step {g':Array GenState}{t':Nat}{d':Drawn}{ch:List Addr}(I:Inv X pins σ H s)
  (hch: ∀ b∈ch,(b∈X.ex\/X.s₀.heap.objs.size<=b)/\b≠X.env.locals/\(∀ x c,X.env.cells.lookup x=some c->c≠b)/\ ∀ p∈X.pn ++ pins,p.1≠b)
  (keep: ∀ b o,b≠X.env.locals->b ∉ X.fs->b ∉ ch->s.heap.get? b=some o->H b=none->h'.get? b=some o)
  (slot: ∀ b o,b≠X.env.locals->b∈X.fs->b ∉ ch->s.heap.get? b=some o->H b=none-> ∃ sl,h'.get? b=some { o with slots:=sl }) (free: ∀ b o,b ∉ ch->s.heap.get? b=some o->H b=none->H' b=none)
  (there: ∀ b o,b ∉ ch->s.heap.get? b=some o-> ∃ o',h'.get? b=some o')
  (tups: ∀ b xs,H b=some (.tup xs)->H' b=some (.tup xs)) (frzs: ∀ b o u,H b=some (.frz o u)->H' b=some (.frz o u)) (tbls: ∀ b ps,H b=some (.tbl ps)-> ∃ more,H' b=some (.tbl (ps ++ more)))
  (ns: ∀ m,s.heap.Ns X.env.locals m->h'.Ns X.env.locals m) (hok:HOk X.prog X.w H' h') (hg:AllBare g'):
  Inv X pins σ H' { s with heap:=h',gens:=g',drawn:=d',toks:=t' }:=by
 have neL: ∀ b o,X.s₀.heap.get? b=some o->b≠X.env.locals:=fun b o e=>Nat.ne_of_lt (Nat.lt_of_lt_of_le (Heap.lt_size e) I.ok.above)
 have neC: ∀ b o,X.s₀.heap.get? b=some o->b ∉ X.ex->b ∉ ch:=fun b o e hx hb=>by
  rcases (hch b hb).1 with z | z
  ·exact hx z
  ·exact absurd (Nat.lt_of_lt_of_le (Heap.lt_size e) z) (Nat.lt_irrefl _)
 have cellK: ∀ x c,X.env.cells.lookup x=some c-> ∀ v,s.heap.IsCell c v->h'.IsCell c v:=fun x c e v ⟨o,ho,hd⟩=>by
  have nch:c ∉ ch:=fun z=>(hch c z).2.2.1 x c e rfl
  by_cases hc:c∈X.fs
  ·obtain ⟨sl,q⟩:=slot c o (I.cne x c e) hc nch ho (I.freeC x c e)
   exact ⟨_,q,hd⟩
  ·exact ⟨o,keep c o (I.cne x c e) hc nch ho (I.freeC x c e),hd⟩
 refine ⟨I.ok,I.os,hg,⟨fun b o e n hb hx=> ?_,fun b o e n hb hx=> ?_,fun b o e n hx=> ?_,fun b o e hx=> ?_,fun b xs e=>tups b xs (I.base.tups b xs e),fun b o xs e=>frzs b o xs (I.base.frzs b o xs e),fun b ps e=> ?_⟩,?_,fun x c e=> ?_,?_,fun x c e=> ?_,fun p hp=> ?_,hok,I.len,I.qd.mono frzs,I.fx⟩
 ·exact keep b o (neL b o e) hb (neC b o e hx) (I.base.keep b o e n hb hx) (I.base.free b o e n hx)
 ·obtain ⟨sl,e1⟩:=I.base.slot b o e n hb hx
  obtain ⟨sl',e2⟩:=slot b _ (neL b o e) hb (neC b o e hx) e1 (I.base.free b o e n hx)
  exact ⟨sl',e2⟩
 ·obtain ⟨o',e1⟩:=I.base.there b o e hx
  exact free b o' (neC b o e hx) e1 (I.base.free b o e n hx)
 ·obtain ⟨o',e1⟩:=I.base.there b o e hx
  exact there b o' (neC b o e hx) e1
 ·obtain ⟨m1,e1⟩:=I.base.tbls b ps e
  obtain ⟨m2,e2⟩:=tbls b _ e1
  exact ⟨m1 ++ m2,by rw[e2,Array.append_assoc]⟩
 ·obtain ⟨m,hn,hl⟩:=I.loc
  refine ⟨m,ns m hn,fun i x v e1 e2 e3=> ?_⟩
  obtain ⟨u,r,l⟩:=hl i x v e1 e2 e3
  refine ⟨u,r,?_⟩
  rcases l with l | ⟨k,c,e,z⟩
  ·exact .inl l
  ·exact .inr ⟨k,c,e,cellK x c e _ z⟩
 ·obtain ⟨v,z⟩:=I.cell x c e
  exact ⟨v,cellK x c e v z⟩
 ·obtain ⟨m,⟨o,_,_,ho,_⟩,_⟩:=I.loc
  exact free _ o (fun z=>(hch _ z).2.1 rfl) ho I.free
 ·obtain ⟨v,o,ho,hd⟩:=I.cell x c e
  exact free c o (fun z=>(hch c z).2.2.1 x c e rfl) ho (I.freeC x c e)
 ·obtain ⟨e,n,ne,nf,d⟩:=I.pin p hp
  have nch:p.1 ∉ ch:=fun z=>(hch p.1 z).2.2.2 p hp rfl
  exact ⟨keep p.1 p.2 ne nf nch e n,free p.1 p.2 nch e n,ne,nf,d⟩
theorem Inv.un {t':Nat}(I:Inv X pins σ H s)(u:Un X.fs [] H H' s.heap h')(hok:HOk X.prog X.w H' h'):Inv X pins σ H' { s with heap:=h',toks:=t' }:=by
 obtain ⟨m,⟨o,es,ep,ho,r⟩,_⟩:=id I.loc
 obtain ⟨sl,hL⟩:=u.any ho I.free (by simp)
 exact I.step (g':=s.gens) (d':=s.drawn) (ch:=[]) (fun _ z=>nomatch z) (fun b o _ hb _ e n=>u.keep b o e n hb (by simp)) (fun b o _ hb _ e n=>u.slot b o e n hb (by simp)) (fun b o _ e n=>u.free b o e n (by simp)) (fun b o _ e=>u.there b o e (by simp)) u.tups u.frzs u.tbls (fun m' hm=>by
  obtain ⟨o',es',ep',ho',r'⟩:=hm
  rw[ho] at ho';cases ho';exact ⟨_,es',ep',hL,r'⟩) hok I.bare
theorem Inv.call {g':Array GenState}{t':Nat}{d':Drawn}{ch:List Addr}(I:Inv X pins σ H s)(u:Un (frs X.stack) ch H H' s.heap h')(hok:HOk X.prog X.w H' h')(hg:AllBare g')
  (hch: ∀ b∈ch,(b∈X.ex\/X.s₀.heap.objs.size<=b)/\b≠X.env.locals/\(∀ x c,X.env.cells.lookup x=some c->c≠b)/\ ∀ p∈X.pn ++ pins,p.1≠b):
  Inv X pins σ H' { s with heap:=h',gens:=g',drawn:=d',toks:=t' }:=by
 obtain ⟨m,⟨o,es,ep,ho,r⟩,_⟩:=id I.loc
 obtain ⟨sl,hL⟩:=u.any ho I.free fun z=>(hch _ z).2.1 rfl
 exact I.step (ch:=ch) hch (fun b o hL hb hc e n=>u.keep b o e n (fun z=>(List.mem_cons.mp (I.stkSub b z)).elim hL hb) hc) (fun b o _ _ hc e n=>u.any e n hc) (fun b o hc e n=>u.free b o e n hc) (fun b o hc e=>u.there b o e hc) u.tups u.frzs u.tbls (fun m' hm=>by
  obtain ⟨o',es',ep',ho',r'⟩:=hm
  rw[ho] at ho';cases ho';exact ⟨_,es',ep',hL,r'⟩) hok hg
theorem Inv.turned {t':Nat}{it:Addr}(I:Inv X pins σ H s)(k: ∀ b o,b≠it->s.heap.get? b=some o->h'.get? b=some o)(hn:H it=none)(hL:it≠X.env.locals)
  (h1:it∈X.ex\/X.s₀.heap.objs.size<=it) (h2: ∀ x c,X.env.cells.lookup x=some c->c≠it) (h3: ∀ p∈X.pn ++ pins,p.1≠it):Inv X pins σ H { s with heap:=h',toks:=t' }:=by
 have nit: ∀ b u,H b=some u->b≠it:=fun b u e z=>by rw[z,hn] at e;cases e
 refine I.step (g':=s.gens) (d':=s.drawn) (ch:=[it]) (fun b hb=> ?_) (fun b o _ _ hc e _=>k b o (fun z=>hc (by simp[z])) e) (fun b o _ _ hc e _=>⟨o.slots,k b o (fun z=>hc (by simp[z])) e⟩) (fun _ _ _ _ n=>n)
  (fun b o hc e=>⟨o,k b o (fun z=>hc (by simp[z])) e⟩) (fun _ _ e=>e) (fun _ _ _ e=>e) (fun b ps e=>⟨#[],by rw[e];simp⟩) (fun m hm=> ?_) (fun b u e=> ?_) I.bare
 ·have e:b=it:=by simpa using hb
  subst e;exact ⟨h1,hL,h2,h3⟩
 ·obtain ⟨o,es,ep,ho,r⟩:=hm
  exact ⟨o,es,ep,k _ o (Ne.symm hL) ho,r⟩
 ·refine (I.hok b u e).stay (fun c v hc q=>k c v ?_ q) (fun _ q=>q) fun _ _ q=>q
  rcases hc with z | z
  ·rw[z];exact nit b u e
  ·exact nit c _ z
theorem Inv.tok (I:Inv X pins σ H s)(t:Nat):Inv X pins σ H { s with toks:=t }:=I.un (h':=s.heap) (t':=t) Un.refl I.hok
theorem Inv.kept {t':Nat}(I:Inv X pins σ H s)(k: ∀ b u,s.heap.get? b=some u->h'.get? b=some u):Inv X pins σ H { s with heap:=h',toks:=t' }:=I.un (Un.kept k) (I.hok.kept k)
theorem Inv.laid {a:Addr}{o:HO}{t':Nat}(I:Inv X pins σ H s)(k: ∀ b u,s.heap.get? b=some u->h'.get? b=some u)(hp:s.heap.objs.size<=a)(new:ZaA X.prog X.w (upd H a o) h' a o):
  Inv X pins σ (upd H a o) { s with heap:=h',toks:=t' }:=I.un (Un.laid k hp (I.hok.fresh hp)) (I.hok.laid k hp new)
theorem Inv.write {x e:Addr}{o:HO}{t':Nat}(I:Inv X pins σ H s)(mu:Mut (H x))(he:e=x\/H e=some (.own x))(k: ∀ b u,b≠e->s.heap.get? b=some u->h'.get? b=some u)(heo: ∃ u,h'.get? e=some u)
  (new:ZaA X.prog X.w (upd H x o) h' x o):Inv X pins σ (upd H x o) { s with heap:=h',toks:=t' }:=I.un (Un.write mu he k heo) (I.hok.write mu he k heo new)
theorem Inv.pins_of {pins':List (Addr × Obj)}(I:Inv X pins σ H s)(h: ∀ p∈pins',s.heap.get? p.1=some p.2/\H p.1=none/\p.1≠X.env.locals/\p.1 ∉ X.fs/\ ∀ v,p.2.data≠ .cell v):Inv X pins' σ H s:=
 ⟨I.ok,I.os,I.bare,I.base,I.loc,I.cell,I.free,I.freeC,fun p hp=>(List.mem_append.mp hp).elim (fun z=>I.pin p (List.mem_append_left _ z)) (h p),I.hok,I.len,I.qd,I.fx⟩
theorem Zc7 {N:List Str}(hN:N.Nodup){i j:Nat}{x:Str}(a:N[i]?=some x)(b:N[j]?=some x):i=j:=by
 obtain ⟨h1,e1⟩:=List.getElem?_eq_some_iff.mp a
 obtain ⟨h2,e2⟩:=List.getElem?_eq_some_iff.mp b
 exact (List.getElem_inj hN).mp (e1.trans e2.symm)
theorem Zb6 {M:Model}{A:Around}{E:Value->Shared->Prop}{i:Nat}{x:Str}{v:V}{u:Value}{Q:Unit->Shared->Prop}(I:Inv X pins σ H s)(hN:X.N.Nodup)(hi:X.N[i]?=some x)(hx:Loc X.env.scope x)(hm:X.may i=true)(r:ZO v u)
  (h: ∀ s',Inv X pins (σ.set i (some v)) H s'->(∃ a,Heap.SameBut a s.heap s'.heap/\(a=X.env.locals\/X.env.cells.lookup x=some a))->Q () s') (hf:X.fn x=true\/X.env.scope.names.lookup x=some .local:=by first | exact .inl rfl | exact .inr rfl | assumption):wpAny M A (storeName X.env x u) Q E s:=by
 obtain ⟨m,hn,hl⟩:=id I.loc
 have hcls:(X.env.scope.kind == .class || (X.env.scope.kind == .module && X.env.locals != X.env.globals))=false:=by rw[I.ok.kind];rfl
 have hiσ:i < σ.length:=by rw[I.len];exact (List.getElem?_eq_some_iff.mp hi).1
 have cne:=I.cne
 have tracked: ∀ {a:Addr} {h':Heap},(∃ o,s.heap.get? a=some o/\H a=none)->Heap.SameBut a s.heap h'->HOk X.prog X.w H h':=fun {a h'} ha hs b ob e=>by
  obtain ⟨_,_,hfree⟩:=ha
  refine (I.hok b ob e).stay (fun c w' hc q=>(hs.2 c ?_).trans q) (fun _ q=>q) fun _ _ q=>q
  rintro rfl
  rcases hc with rfl | hc
  ·rw[hfree] at e;cases e
  ·rw[hfree] at hc;cases hc
 rcases hx with hk | hk
 ·refine wpAny_storeName_local hk hn (fun h' hn' hs=> ?_) hcls
  obtain ⟨oL,_,_,hoL,_⟩:=id hn
  refine h _ ⟨I.ok,I.os,I.bare,⟨fun b o e n hb hx=> ?_,fun b o e n hb hx=> ?_,I.base.free,fun b o e hx=> ?_,I.base.tups,I.base.frzs,I.base.tbls⟩,⟨_,hn',fun j y v' e1 e2 e3=> ?_⟩,fun y c e=> ?_,I.free,I.freeC,fun p hp=> ?_,tracked ⟨oL,hoL,I.free⟩ hs,by simpa using I.len,I.qd,I.fx.set hm⟩ ⟨_,hs,.inl rfl⟩
  ·exact (hs.2 b (Nat.ne_of_lt (Nat.lt_of_lt_of_le (Heap.lt_size e) I.ok.above))).trans (I.base.keep b o e n hb hx)
  ·obtain ⟨sl,e1⟩:=I.base.slot b o e n hb hx
   exact ⟨sl,(hs.2 b (Nat.ne_of_lt (Nat.lt_of_lt_of_le (Heap.lt_size e) I.ok.above))).trans e1⟩
  ·obtain ⟨o',e1⟩:=I.base.there b o e hx
   exact ⟨o',(hs.2 b (Nat.ne_of_lt (Nat.lt_of_lt_of_le (Heap.lt_size e) I.ok.above))).trans e1⟩
  ·by_cases hj:j=i
   ·subst hj
    rw[hi] at e1;cases e1;rw[List.getElem?_set_self hiσ] at e2
    cases e2
    exact ⟨u,r,.inl ⟨hk,by simp⟩⟩
   ·rw[List.getElem?_set_ne (Ne.symm hj)] at e2
    obtain ⟨u',r',q⟩:=hl j y v' e1 e2 e3
    refine ⟨u',r',?_⟩
    rcases q with ⟨k,e⟩ | ⟨k,c,e,z⟩
    ·refine .inl ⟨k,?_⟩
     have:y≠x:=fun e=>hj (Zc7 hN e1 (e ▸ hi))
     simp[this,e]
    ·exact .inr ⟨k,c,e,z.sameBut hs (cne y c e)⟩
  ·obtain ⟨w',z⟩:=I.cell y c e
   exact ⟨w',z.sameBut hs (cne y c e)⟩
  ·obtain ⟨e,n,ne,nf,d⟩:=I.pin p hp
   exact ⟨(hs.2 p.1 ne).trans e,n,ne,nf,d⟩
 ·have hfn:X.fn x=true:=by
   rcases hf with z | z
   ·exact z
   ·rw[z] at hk;cases hk
  obtain ⟨c,hc⟩:=I.ok.has x (.inl hk)
  obtain ⟨w',z⟩:=I.cell x c hc
  refine wpAny_storeName_cell I.ok.kind hk hc z (fun h' hc' hs=> ?_)
  obtain ⟨oc,hoc,hocd⟩:=id z
  refine h { s with heap:=h' } ⟨I.ok,I.os,I.bare,⟨fun b o e n hb hx=> ?_,fun b o e n hb hx=> ?_,I.base.free,fun b o e hx=> ?_,I.base.tups,I.base.frzs,I.base.tbls⟩,⟨m,hn.sameBut hs (Ne.symm (cne x c hc)),fun j y v' e1 e2 e3=> ?_⟩,fun y c' e=> ?_,I.free,I.freeC,fun p hp=> ?_,tracked ⟨oc,hoc,I.freeC x c hc⟩ hs,by simpa using I.len,I.qd,I.fx.set hm⟩ ⟨c,hs,.inr hc⟩
  ·exact (hs.2 b (Nat.ne_of_lt (Nat.lt_of_lt_of_le (Heap.lt_size e) (I.ok.cab x c hfn hc)))).trans (I.base.keep b o e n hb hx)
  ·obtain ⟨sl,e1⟩:=I.base.slot b o e n hb hx
   exact ⟨sl,(hs.2 b (Nat.ne_of_lt (Nat.lt_of_lt_of_le (Heap.lt_size e) (I.ok.cab x c hfn hc)))).trans e1⟩
  ·obtain ⟨o',e1⟩:=I.base.there b o e hx
   exact ⟨o',(hs.2 b (Nat.ne_of_lt (Nat.lt_of_lt_of_le (Heap.lt_size e) (I.ok.cab x c hfn hc)))).trans e1⟩
  ·by_cases hj:j=i
   ·subst hj
    rw[hi] at e1;cases e1;rw[List.getElem?_set_self hiσ] at e2
    cases e2
    exact ⟨u,r,.inr ⟨.inl hk,c,hc,hc'⟩⟩
   ·rw[List.getElem?_set_ne (Ne.symm hj)] at e2
    obtain ⟨u',r',q⟩:=hl j y v' e1 e2 e3
    refine ⟨u',r',?_⟩
    rcases q with q | ⟨k,c',e,z'⟩
    ·exact .inl q
    ·refine .inr ⟨k,c',e,z'.sameBut hs ?_⟩
     rintro rfl
     exact hj (Zc7 hN e1 (I.ok.inj _ _ _ e hc ▸ hi))
  ·by_cases hcc:c'=c
   ·subst hcc;exact ⟨_,hc'⟩
   ·obtain ⟨w2,z2⟩:=I.cell y c' e
    exact ⟨w2,z2.sameBut hs hcc⟩
  ·obtain ⟨e,n,ne,nf,d⟩:=I.pin p hp
   refine ⟨(hs.2 p.1 ?_).trans e,n,ne,nf,d⟩
   intro q;rw[q,hoc] at e;have q':oc=p.2:=Option.some.inj e
   exact d w' (by rw[<- q'];exact hocd)
theorem Zbf {M:Model}{A:Around}{E:Value->Shared->Prop}{i:Nat}{x:Str}{v:V}{u:Value}{Q:Unit->Shared->Prop}(I:Inv X pins σ H s)(hN:X.N.Nodup)(hi:X.N[i]?=some x)(hx:Loc X.env.scope x)(hm:X.may i=true)(r:ZO v u)
  (h: ∀ s',Inv X pins (σ.set i (some v)) H s'->Q () s') (hf:X.fn x=true\/X.env.scope.names.lookup x=some .local:=by first | exact .inl rfl | exact .inr rfl | assumption):wpAny M A (storeName X.env x u) Q E s:=
 Zb6 I hN hi hx hm r (fun s' I' _=>h s' I') hf
theorem Inv.call' {s':Shared}{ch:List Addr}(I:Inv X pins σ H s)(ho:s'.os=s.os)(u:Un (frs X.stack) ch H H' s.heap s'.heap)(hok:HOk X.prog X.w H' s'.heap)(hg:AllBare s'.gens)
  (hch: ∀ b∈ch,(b∈X.ex\/X.s₀.heap.objs.size<=b)/\b≠X.env.locals/\(∀ x c,X.env.cells.lookup x=some c->c≠b)/\ ∀ p∈X.pn ++ pins,p.1≠b):Inv X pins σ H' s':=by
 obtain ⟨h',g',d',t',o'⟩:=s'
 have e:o'=s.os:=ho
 subst e;exact I.call (g':=g') (t':=t') (d':=d') u hok hg hch
end
noncomputable abbrev XK:=Value->Option Addr->Hp->Prop
noncomputable abbrev St:=List (Option V)
noncomputable abbrev VK:=V->Hp->Prop
noncomputable abbrev TE:=St->Hp->VK->Prop
noncomputable abbrev TT:=St->Hp->(Bool->Hp->Prop)->Prop
noncomputable abbrev TA:=St->Hp->(List V->Hp->Prop)->Prop
structure Ends where
 nx:St->Hp->Prop
 rt:VK
 bk:St->Hp->Prop:=fun _ _=>False
 ct:St->Hp->Prop:=fun _ _=>False
noncomputable abbrev TS:=Ends->St->Hp->Prop
noncomputable def EP (X:Cx)(pins:List (Addr × Obj))(σ:St)(Q:VK)(u:Value)(s':Shared):Prop:= ∃ v H',Inv X pins σ H' s'/\ZO v u/\Q v H'
noncomputable def TP (X:Cx)(pins:List (Addr × Obj))(σ:St)(Q:Bool->Hp->Prop)(b:Bool)(s':Shared):Prop:= ∃ H',Inv X pins σ H' s'/\Q b H'
noncomputable def AP (X:Cx)(pins:List (Addr × Obj))(σ:St)(Q:List V->Hp->Prop)(us:List Value)(s':Shared):Prop:= ∃ vs H',Inv X pins σ H' s'/\ZB vs us/\Q vs H'
noncomputable def SP (X:Cx)(pins:List (Addr × Obj))(D:Ends)(f:Flow)(s':Shared):Prop:=
 match f with
 | .next=> ∃ σ' H',Inv X pins σ' H' s'/\D.nx σ' H'
 | .brk=> ∃ σ' H',Inv X pins σ' H' s'/\D.bk σ' H'
 | .cont=> ∃ σ' H',Inv X pins σ' H' s'/\D.ct σ' H'
 | .ret u=> ∃ v σ' H',Inv X pins σ' H' s'/\ZO v u/\D.rt v H'
noncomputable def PE (X:Cx)(e:Expr)(t:TE):Prop:=
 ∀ (pins:List (Addr × Obj)) (s:Shared) (σ:St) (H:Hp) (Q:VK),Inv X pins σ H s->t σ H Q->wpAny (model X.prog X.w) X.A (eval e X.env) (EP X pins σ Q) X.xe s
noncomputable def PT (X:Cx)(e:Expr)(t:TT):Prop:=
 ∀ (pins:List (Addr × Obj)) (s:Shared) (σ:St) (H:Hp) (Q:Bool->Hp->Prop),Inv X pins σ H s->t σ H Q->wpAny (model X.prog X.w) X.A (isTrue e X.env (eval e X.env)) (TP X pins σ Q) X.xe s
noncomputable def PW (X:Cx)(e:Expr)(t:TT):Prop:=
 ∀ (whole:Sem Value) (pins:List (Addr × Obj)) (s:Shared) (σ:St) (H:Hp) (Q:Bool->Hp->Prop),Inv X pins σ H s->t σ H Q->wpAny (model X.prog X.w) X.A (isTrue e X.env whole) (TP X pins σ Q) X.xe s
theorem PW.pt {X:Cx}{e:Expr}{t:TT}(h:PW X e t):PT X e t:=h _
noncomputable def PA (X:Cx)(es:List Expr)(t:TA):Prop:=
 ∀ (pos:Pos) (pins:List (Addr × Obj)) (s:Shared) (σ:St) (H:Hp) (Q:List V->Hp->Prop),Inv X pins σ H s->t σ H Q->wpAny (model X.prog X.w) X.A (spliced (backTo pos (starEach es X.env))) (AP X pins σ Q) X.xe s
noncomputable def PS (X:Cx)(st:Stmt)(t:TS):Prop:=
 ∀ (pins:List (Addr × Obj)) (s:Shared) (σ:St) (H:Hp) (D:Ends),Inv X pins σ H s->t D σ H->wpAny (model X.prog X.w) X.A (exec st X.env) (SP X pins D) X.xe s
noncomputable def PSs (X:Cx)(st:List Stmt)(t:TS):Prop:=
 ∀ (pins:List (Addr × Obj)) (s:Shared) (σ:St) (H:Hp) (D:Ends),Inv X pins σ H s->t D σ H->wpAny (model X.prog X.w) X.A (execs st X.env) (SP X pins D) X.xe s
theorem thn {α:Type}{t:Sem α}{Q Q':α->Shared->Prop}{M:Model}{A:Around}{E:Value->Shared->Prop}{s:Shared}(h:wpAny M A t Q E s)(hQ: ∀ a s,Q a s->Q' a s):wpAny M A t Q' E s:=wpAny_mono h hQ fun _ _ x=>x
end L2
namespace L2
open PySem PySem.Spec PyProof.Rows
section
variable {X:Cx}
theorem bin {a b:Expr}{ta tb:TE}(ha:PE X a ta)(hb:PE X b tb){pins:List (Addr × Obj)}{s:Shared}{σ:St}{H:Hp}{R:V->V->Hp->Prop}(I:Inv X pins σ H s)(h:ta σ H fun x H1=>tb σ H1 fun y H2=>R x y H2)
  {α:Type} {Q:α->Shared->Prop} {f:Value->Value->Sem α}
  (hf: ∀ v u s2 x y H2,Inv X pins σ H2 s2->ZO x v->ZO y u->R x y H2->wpAny (model X.prog X.w) X.A (f v u) Q X.xe s2):
  wpAny (model X.prog X.w) X.A (eval a X.env) (fun v s₁=>wpAny (model X.prog X.w) X.A (eval b X.env) (fun u s₂=>wpAny (model X.prog X.w) X.A (f v u) Q X.xe s₂) X.xe s₁) X.xe s:=by
 refine thn (ha pins s σ H _ I h) fun v s1 ⟨x,H1,I1,r1,q1⟩=> ?_
 refine thn (hb pins s1 σ H1 _ I1 q1) fun u s2 ⟨y,H2,I2,r2,q2⟩=> ?_
 exact hf v u s2 x y H2 I2 r1 r2 q2
noncomputable def ZoG (i:Nat):TE:=fun σ H Q=> ∃ v,σ[i]?=some (some v)/\Q v H
noncomputable def tC (v:V):TE:=fun _ H Q=>Q v H
theorem Ziw {i:Nat}{x:Str}{pos:Pos}(hN:X.N[i]?=some x)(hv:Vis X.env.scope x)(hd:(x == ("__debug__":Str))=false:=by decide)(hcd:(x == ("__classdict__":Str))=false:=by decide):PE X (.Name x pos) (ZoG i):=by
 intro pins s σ H Q I h;obtain ⟨v,e,h⟩:=h
 obtain ⟨m,hn,hl⟩:=I.loc
 obtain ⟨u,r,l⟩:=hl i x v hN e hv
 have fin:EP X pins σ Q u s:=⟨v,H,I,r,h⟩
 rcases l with ⟨hk,hm⟩ | ⟨hk,c,hc,hcell⟩
 ·exact wpAny_Name (wpAny_loadName_local I.ok.kind hk hn hm fin) hd
 ·rcases hk with hk | hk
  ·exact wpAny_Name (wpAny_loadName_cell I.ok.kind hk hc hcell fin) hd
  ·exact wpAny_Name (wpAny_loadName_free I.ok.kind hk hc hcell fin hcd) hd
theorem Zix {i j pos}:PE X (.Constant (.int i) j pos) (tC (.int i)):=fun _ _ _ H _ I h=>wpAny_Constant_int ⟨.int i,H,I.tok _,⟨_,rfl⟩,h⟩
theorem ZlD {b j pos}:PE X (.Constant (.bool b) j pos) (tC (.bl b)):=fun _ _ _ H _ I h=>Constant_bool ⟨.bl b,H,I,rfl,h⟩
theorem Ziy {x j pos}:PE X (.Constant (.str x) j pos) (tC (.str x)):=fun _ _ _ H _ I h=>Calls.Constant_str ⟨.str x,H,I.tok _,⟨_,rfl⟩,h⟩
noncomputable def Gl (X:Cx)(x:Str):Prop:=X.env.kindOf x=some .globalImplicit
theorem Zeb {E:Value->Shared->Prop}{pins:List (Addr × Obj)}{s:Shared}{σ:St}{H:Hp}{x:Str}{u:Value}{pos:Pos}{Q:Value->Shared->Prop}(I:Inv X pins σ H s)(hg:Gl X x)(hm:X.mg x=some u)(h:Q u s)
  (hd:(x == ("__debug__":Str))=false:=by decide):wpAny (model X.prog X.w) X.A (eval (.Name x pos) X.env) Q E s:=
 Calls.Name_function_global I.ok.kind hg (Calls.loadGlobal_global (by rw[I.ok.glob];exact I.mod.glob.keeps I.bk) hm h) hd
theorem Zc8 {E:Value->Shared->Prop}{pins:List (Addr × Obj)}{s:Shared}{σ:St}{H:Hp}{x:Str}{u:Value}{pos:Pos}{Q:Value->Shared->Prop}(I:Inv X pins σ H s)(hg:Gl X x)(hm:X.mg x=none)(hv:bootBuiltins x=some u)(h:Q u s)
  (hn:x≠"__name__":=by decide) (hd:(x == ("__debug__":Str))=false:=by decide):wpAny (model X.prog X.w) X.A (eval (.Name x pos) X.env) Q E s:=by
 obtain ⟨mb,h1,h2⟩:=I.mod.blt
 exact Calls.Name_function_global I.ok.kind hg (Calls.loadGlobal_builtin (by rw[I.ok.glob];exact I.mod.glob.keeps I.bk) hm (by rw[I.ok.blt];exact h1.keeps I.bk) ((h2 x hn).trans hv) h) hd
theorem ZgY {x:Str}{v:V}{u:Value}{pos:Pos}(hg:Gl X x)(hm:X.mg x=none)(hv:bootBuiltins x=some u)(r:ZO v u)(hn:x≠"__name__":=by decide)(hd:(x == ("__debug__":Str))=false:=by decide):PE X (.Name x pos) (tC v):=
 fun _ _ _ H _ I h=>Zc8 I hg hm hv ⟨v,H,I,r,h⟩ hn hd
variable {a b:Expr}{ta tb:TE}{pos:Pos}
noncomputable def PC (X:Cx)(op:CmpOp)(a b:Expr)(t:TE):Prop:=
 ∀ (pins:List (Addr × Obj)) (s:Shared) (σ:St) (H:Hp) (Q:VK),Inv X pins σ H s->t σ H Q->
  wpAny (model X.prog X.w) X.A (eval a X.env) (fun v s₁=>wpAny (model X.prog X.w) X.A (eval b X.env) (fun u s₂=>wpAny (model X.prog X.w) X.A (compareOp op v u) (EP X pins σ Q) X.xe s₂) X.xe s₁) X.xe s
theorem ZfF (b:Expr){op:CmpOp}(h:op≠ .In)(h2:op≠ .NotIn):behindInMarks op b=false:=by
 have e1:(op == CmpOp.In)=false:=by cases op<;>first | rfl | exact absurd rfl h
 have e2:(op == CmpOp.NotIn)=false:=by cases op<;>first | rfl | exact absurd rfl h2
 cases b<;>simp[behindInMarks,e1,e2]
noncomputable def tB (t:TE):TT:=fun σ H Q=>t σ H fun x H1=> ∃ c,x= .bl c/\Q c H1
theorem ZnC {op:CmpOp}{t:TE}(h:PC X op a b t)(h1:behindInMarks op b=false:=by first | exact ZfF _ (by decide) (by decide) | rfl):PT X (.Compare a [op] [b] pos) (tB t):=by
 intro pins s σ H Q I hw;refine wpAny_isTrue_Compare1 (thn (h pins s σ H _ I hw) fun v s1 h1=>thn h1 fun u s2 h2=>thn h2 fun c s3 ⟨x,H1,I1,r1,q1⟩=> ?_) h1
 obtain ⟨d,rfl,q⟩:=q1
 cases r1
 exact wpAny_truthy_bool ⟨H1,I1,q⟩
theorem Ziz {e:Expr}{t:TE}(h:PE X e t)(he: ∀ whole,isTrue e X.env whole=(do let v <- whole;standAt e.pos;holding [v] (truthy v)):=by intro _;rfl):PT X e (tB t):=by
 intro pins s σ H Q I hw;refine isTrue_plain (thn (h pins s σ H _ I hw) fun v s1 ⟨x,H1,I1,r1,q1⟩=> ?_) (he _)
 obtain ⟨d,rfl,q⟩:=q1
 cases r1
 exact wpAny_truthy_bool ⟨H1,I1,q⟩
variable {tA tB':TT}{rest:List Expr}
noncomputable def ZoH (t u:TT):TT:=fun σ H Q=>t σ H fun c H1=>if c=true then u σ H1 Q else Q false H1
noncomputable def tOr (t u:TT):TT:=fun σ H Q=>t σ H fun c H1=>if c=true then Q true H1 else u σ H1 Q
noncomputable def ZoI (t:TT):TT:=fun σ H Q=>t σ H fun c H1=>Q (!c) H1
theorem pw_and1 (ha:PT X a tA):PW X (.BoolOp .And [a] pos) tA:=by
 intro wh pins s σ H Q I h;refine isTrue_and (thn (ha pins s σ H Q I h) fun c s1 e=> ?_)
 cases c with
 |true=>exact isTrue_and_nil e
 |false=>exact e
theorem pw_or1 (ha:PT X a tA):PW X (.BoolOp .Or [a] pos) tA:=by
 intro wh pins s σ H Q I h;refine isTrue_or (thn (ha pins s σ H Q I h) fun c s1 e=> ?_)
 cases c with
 |false=>exact isTrue_or_nil e
 |true=>exact e
theorem pw_and (ha:PT X a tA)(hb:PW X (.BoolOp .And (b :: rest) pos) tB'):PW X (.BoolOp .And (a :: b :: rest) pos) (ZoH tA tB'):=by
 intro wh pins s σ H Q I h;refine isTrue_and (thn (ha pins s σ H _ I h) fun c s1 ⟨H1,I1,q1⟩=> ?_)
 cases c with
 |true=>exact hb wh pins s1 σ H1 Q I1 q1
 |false=>exact ⟨H1,I1,q1⟩
theorem pw_or (ha:PT X a tA)(hb:PW X (.BoolOp .Or (b :: rest) pos) tB'):PW X (.BoolOp .Or (a :: b :: rest) pos) (tOr tA tB'):=by
 intro wh pins s σ H Q I h;refine isTrue_or (thn (ha pins s σ H _ I h) fun c s1 ⟨H1,I1,q1⟩=> ?_)
 cases c with
 |true=>exact ⟨H1,I1,q1⟩
 |false=>exact hb wh pins s1 σ H1 Q I1 q1
theorem ZiA (ha:PT X a tA):PT X (.UnaryOp .Not a pos) (ZoI tA):=by
 intro pins s σ H Q I h;exact isTrue_not (ha pins s σ H (fun c H1=>Q (!c) H1) I h)
noncomputable def ZlE (ta tb:TE):TE:=fun σ H Q=>ta σ H fun x H1=> ∃ c,x= .bl c/\if c=true then tb σ H1 Q else Q (.bl false) H1
noncomputable def ZlF (ta:TE):TE:=fun σ H Q=>ta σ H fun x H1=> ∃ c,x= .bl c/\Q (.bl (!c)) H1
theorem ZiB {op}{t:TE}(h:PE X a t):PE X (.BoolOp op [a] pos) t:=fun pins s σ H Q I hw=>BoolOp_one (h pins s σ H Q I hw)
theorem ZiC (ha:PE X a ta)(hb:PE X (.BoolOp .And (b :: rest) pos) tb):PE X (.BoolOp .And (a :: b :: rest) pos) (ZlE ta tb):=by
 intro pins s σ H Q I h;refine BoolOp_and (thn (ha pins s σ H _ I h) fun v s1 ⟨x,H1,I1,r1,q1⟩=> ?_)
 obtain ⟨c,rfl,q1⟩:=q1
 cases r1
 refine wpAny_truthy_bool ?_
 cases c with
 |true=>exact hb pins s1 σ H1 Q I1 q1
 |false=>exact ⟨.bl false,H1,I1,rfl,q1⟩
theorem ZiD (ha:PE X a ta):PE X (.UnaryOp .Not a pos) (ZlF ta):=by
 intro pins s σ H Q I h;refine UnaryOp_ (thn (ha pins s σ H _ I h) fun v s1 ⟨x,H1,I1,r1,q1⟩=> ?_)
 obtain ⟨c,rfl,q1⟩:=q1
 cases r1
 exact not_of (wpAny_truthy_bool ⟨.bl (!c),H1,I1,rfl,q1⟩)
noncomputable def tIf (t:TT)(ta tb:TE):TE:=fun σ H Q=>t σ H fun c H1=>if c=true then ta σ H1 Q else tb σ H1 Q
theorem ZfG {c:Expr}(hc:PT X c tA)(ha:PE X a ta)(hb:PE X b tb):PE X (.IfExp c a b pos) (tIf tA ta tb):=by
 intro pins s σ H Q I h;refine wpAny_IfExp (thn (hc pins s σ H _ I h) fun d s1 ⟨H1,I1,q1⟩=> ?_)
 cases d with
 |true=>exact ha pins s1 σ H1 Q I1 q1
 |false=>exact hb pins s1 σ H1 Q I1 q1
end
end L2
namespace L2
open PySem PySem.Spec PyProof.Rows
noncomputable def SqL (K:PySem.W.Frag)(H:Hp)(a:Addr)(xs:List V):Prop:=
 Rd H a (.lst xs)\/
  ∃ (o:Obj) (its:Array Value) (n:Nat),K.lookup a=some o/\o.cls= .type "list"/\o.dict=none/\o.data= .seq its n/\its.size<=sizeLine/\ZB xs its.toList
noncomputable def SqT (K:PySem.W.Frag)(H:Hp)(a:Addr)(xs:List V):Prop:=
 Rd H a (.tup xs)\/
  ∃ (o:Obj) (its:Array Value) (n:Nat),K.lookup a=some o/\o.cls= .type "tuple"/\o.data= .seq its n/\its.size<=sizeLine/\ZB xs its.toList
noncomputable def ZoJ:Value->Option V
 | .none=>some .non
 | .bool b=>some (.bl b)
 | .int i _=>some (.int i)
 | .str x _=>some (.str x)
 | .bytes b _=>some (.byt b)
 | .float b _=>some (.flt b)
 | .ref a=>some (.ref a)
 | .type n=>some (.ty n)
 |_=>none
theorem ZO.abs {x:V}{u:Value}(r:ZO x u):ZoJ u=some x:=by
 cases x with
 |non=>cases r;rfl
 |bl _=>cases r;rfl
 |int _=>obtain ⟨t,rfl⟩:=r;rfl
 |str _=>obtain ⟨t,rfl⟩:=r;rfl
 |byt _=>obtain ⟨t,rfl⟩:=r;rfl
 |flt _=>obtain ⟨t,rfl⟩:=r;rfl
 |ref _=>cases r;rfl
 |ty _=>cases r;rfl
theorem ZO.inj {x y:V}{u:Value}(r:ZO x u)(q:ZO y u):x=y:=Option.some.inj (r.abs.symm.trans q.abs)
theorem ZB.inj: ∀ {xs ys:List V} {us:List Value},ZB xs us->ZB ys us->xs=ys
 |_,_,_,.nil,.nil=>rfl
 |_,_,_,.cons r t,.cons r' t'=>by rw[r.inj r',ZB.inj t t']
section
variable {X:Cx}{pins:List (Addr × Obj)}{σ:St}{H:Hp}{s:Shared}{a:Addr}{xs ys:List V}
theorem SqL.of {K:PySem.W.Frag}(h:H a=some (.lst xs)):SqL K H a xs:= .inl (.inl h)
theorem SqT.of {K:PySem.W.Frag}(h:H a=some (.tup xs)):SqT K H a xs:= .inl (.inl h)
theorem Inv.list (I:Inv X pins σ H s)(h:SqL X.K H a xs): ∃ its:List Value,ZB xs its/\PlainL s.heap a its.toArray/\xs.length<=sizeLine:=by
 rcases h with h | ⟨o,its,n,hk,hc,hd,hs,hz,r⟩
 ·obtain ⟨z,its,n,r,e⟩:=h.ok I.hok
  exact ⟨its,r,⟨_,n,e,rfl,rfl,rfl⟩,z⟩
 ·refine ⟨its.toList,r,⟨o,n,I.kIn a o hk,hc,hd,by simpa using hs⟩,?_⟩
  have e:=r.length
  simp only[Array.length_toList] at e;omega
theorem Inv.tuple (I:Inv X pins σ H s)(h:SqT X.K H a xs): ∃ its:List Value,ZB xs its/\IsTup s.heap a its.toArray/\xs.length<=sizeLine:=by
 rcases h with h | ⟨o,its,n,hk,hc,hs,hz,r⟩
 ·obtain ⟨z,its,r,p⟩:=h.ok I.hok
  exact ⟨its,r,p,z⟩
 ·refine ⟨its.toList,r,⟨o,I.kIn a o hk,hc,n,by simpa using hs⟩,?_⟩
  have e:=r.length
  simp only[Array.length_toList] at e;omega
theorem Inv.list_inj (I:Inv X pins σ H s)(h:SqL X.K H a xs)(h':SqL X.K H a ys):xs=ys:=by
 obtain ⟨its,r,⟨o,n,e,_,_,d⟩,_⟩:=I.list h
 obtain ⟨its',r',⟨o',n',e',_,_,d'⟩,_⟩:=I.list h'
 rw[e] at e';cases e';rw[d] at d'
 injection d' with d1 _
 have:its=its':=by simpa using congrArg Array.toList d1
 subst this;exact r.inj r'
theorem Inv.tuple_inj (I:Inv X pins σ H s)(h:SqT X.K H a xs)(h':SqT X.K H a ys):xs=ys:=by
 obtain ⟨its,r,⟨o,e,_,n,d⟩,_⟩:=I.tuple h
 obtain ⟨its',r',⟨o',e',_,n',d'⟩,_⟩:=I.tuple h'
 rw[e] at e';cases e';rw[d] at d'
 injection d' with d1 _
 have:its=its':=by simpa using congrArg Array.toList d1
 subst this;exact r.inj r'
end
section
variable {X:Cx}{pins:List (Addr × Obj)}{σ:St}{H:Hp}{s:Shared}{E:Value->Shared->Prop}
end
section
variable {X:Cx}{st:Stmt}{rest:List Stmt}{t u:TS}{e:Expr}{te:TE}{pos:Pos}
noncomputable def tNext:TS:=fun D σ H=>D.nx σ H
noncomputable def ZoK (t u:TS):TS:=fun D σ H=>t { D with nx:=u D } σ H
theorem ZgZ:PSs X [] tNext:=fun _ _ σ H _ I h=>wpAny_execs_nil ⟨σ,H,I,h⟩
theorem ZfH (h1:PS X st t)(h2:PSs X rest u):PSs X (st :: rest) (ZoK t u):=by
 intro pins s σ H D I h;refine wpAny_execs_cons (thn (h1 pins s σ H { D with nx:=u D } I h) fun f s1 q=> ?_)
 cases f with
 |next=>
  obtain ⟨σ',H',I',q⟩:=q
  exact h2 pins s1 σ' H' D I' q
 |ret v=>exact q
 |brk=>exact q
 |cont=>exact q
theorem Zg0 (h1:PS X st t):PSs X [st] t:=by
 intro pins s σ H D I h;refine wpAny_execs_cons (thn (h1 pins s σ H D I h) fun f s1 q=> ?_)
 cases f with
 |next=>exact wpAny_execs_nil q
 |ret v=>exact q
 |brk=>exact q
 |cont=>exact q
theorem Inv.quiet {pins:List (Addr × Obj)}{σ:St}{H:Hp}{s:Shared}(I:Inv X pins σ H s):interactive X.env=false:=by simp[interactive,I.ok.kind]
noncomputable def ZlG (te:TE):TS:=fun D σ H=>te σ H fun _ H1=>D.nx σ H1
theorem Zg1 (he:PE X e te)(hs:swapsWith e none pos.line X.env=pure false:=by rfl):PS X (.Expr e pos) (ZlG te):=by
 intro pins s σ H D I h;exact wpAny_Expr_any (thn (he pins s σ H _ I h) fun v s1 ⟨x,H1,I1,r1,q1⟩=>⟨σ,H1,I1,q1⟩) I.quiet hs
noncomputable def ZoL (te:TE):TS:=fun D σ H=>te σ H D.rt
theorem ZiE (he:PE X e te):PS X (.Return (some e) pos) (ZoL te):=by
 intro pins s σ H D I h;exact wpAny_Return_some (thn (he pins s σ H _ I h) fun v s1 ⟨x,H1,I1,r1,q1⟩=>⟨x,σ,H1,I1,r1,q1⟩)
noncomputable def ZoM (c:TT)(t u:TS):TS:=fun D σ H=>c σ H fun b H1=>if b=true then t D σ H1 else u D σ H1
theorem ZlH {c:Expr}{a b:List Stmt}{tc:TT}(hc:PT X c tc)(ha:PSs X a t)(hb:PSs X b u):PS X (.If c a b pos) (ZoM tc t u):=by
 intro pins s σ H D I h;refine wpAny_If (thn (hc pins s σ H _ I h) fun d s1 ⟨H1,I1,q1⟩=> ?_)
 cases d with
 |true=>exact ha pins s1 σ H1 D I1 q1
 |false=>exact hb pins s1 σ H1 D I1 q1
end
noncomputable abbrev TG:=V->St->Hp->(St->Hp->Prop)->Prop
noncomputable abbrev TGs:=List V->St->Hp->(St->Hp->Prop)->Prop
noncomputable def PG (X:Cx)(target:Expr)(t:TG):Prop:=
 ∀ (pins:List (Addr × Obj)) (s:Shared) (σ:St) (H:Hp) (v:V) (u:Value) (Q:St->Hp->Prop),Inv X pins σ H s->ZO v u->t v σ H Q->
  wpAny (model X.prog X.w) X.A (assign target X.env u) (fun _ s'=> ∃ σ' H',Inv X pins σ' H' s'/\Q σ' H') X.xe s
noncomputable def PGs (X:Cx)(ts:List Expr)(t:TGs):Prop:=
 ∀ (pins:List (Addr × Obj)) (s:Shared) (σ:St) (H:Hp) (vs:List V) (us:List Value) (Q:St->Hp->Prop),Inv X pins σ H s->ZB vs us->t vs σ H Q->
  wpAny (model X.prog X.w) X.A (assignInOrder ((assignEach ts X.env).map (·.2)) us) (fun _ s'=> ∃ σ' H',Inv X pins σ' H' s'/\Q σ' H') X.xe s
noncomputable abbrev ZlI:=V->V->V->Hp->(Hp->Prop)->Prop
noncomputable def ZnD (X:Cx)(t:ZlI):Prop:=
 ∀ (pins:List (Addr × Obj)) (s:Shared) (σ:St) (H:Hp) (o i v:V) (ov iv u:Value) (Q:Hp->Prop),Inv X pins σ H s->ZO o ov->ZO i iv->ZO v u->t o i v H Q->
  wpAny (model X.prog X.w) X.A (setItem ov iv u) (fun _ s'=> ∃ H',Inv X pins σ H' s'/\Q H') X.xe s
section
variable {X:Cx}{pos:Pos}
noncomputable def ZiF (i:Nat):TG:=fun v σ H Q=>Q (σ.set i (some v)) H
theorem Zg2 {i:Nat}{x:Str}(hN:X.N.Nodup)(hi:X.N[i]?=some x)(hx:Loc X.env.scope x)(hm:X.may i=true)(hf:X.fn x=true\/X.env.scope.names.lookup x=some .local:=by first | exact .inl rfl | exact .inr rfl | assumption):PG X (.Name x pos) (ZiF i):=by
 intro pins s σ H v u Q I r h;exact wpAny_assign_Name (Zbf I hN hi hx hm r (fun s' I'=>⟨_,H,I',h⟩) hf)
noncomputable def gNil:TGs:=fun vs σ H Q=>vs=[]/\Q σ H
noncomputable def ZlJ (t:TG)(u:TGs):TGs:=fun vs σ H Q=> ∃ v r,vs=v :: r/\t v σ H fun σ' H'=>u r σ' H' Q
theorem Zg3:PGs X [] gNil:=by
 intro pins s σ H vs us Q I r h;obtain ⟨e,h⟩:=h
 subst e;cases r
 exact assignInOrder_nil ⟨σ,H,I,h⟩
theorem ZfI {e:Expr}{es:List Expr}{t:TG}{u:TGs}(h1:PG X e t)(h2:PGs X es u)
  (hs:(assignEach (e :: es) X.env).map (·.2)=assign e X.env :: (assignEach es X.env).map (·.2):=by rfl):PGs X (e :: es) (ZlJ t u):=by
 intro pins s σ H vs us Q I r h;obtain ⟨v,vr,e1,h⟩:=h
 subst e1;cases r with
 |cons r rr=>
  rw[hs];refine assignInOrder_cons (thn (h1 pins s σ H _ _ _ I r h) fun _ s1 ⟨σ1,H1,I1,q1⟩=> ?_)
  exact h2 pins s1 σ1 H1 _ _ Q I1 rr q1
noncomputable def ZoN (K:PySem.W.Frag)(n:Nat)(t:TGs):TG:=fun v σ H Q=> ∃ a xs,v= .ref a/\SqT K H a xs/\xs.length=n/\t xs σ H Q
theorem ZiG {es:List Expr}{k:Nat}{t:TGs}{n:Nat}(hc:X.calm=true)(h:PGs X es t)
  (hn:(assignEach es X.env).length=n:=by rfl) (hst:(assignEach es X.env).findIdx? (·.1)=none:=by rfl):PG X (.Tuple es k pos) (ZoN X.K n t):=by
 intro pins s σ H v u Q I r hw;obtain ⟨a,xs,e1,hq,hl,hw⟩:=hw
 subst e1;cases r
 obtain ⟨its,rv,ht,hz⟩:=I.tuple hq
 refine assign_Tuple_tuple (I.ok.hd hc) ht (by simp[hn,<- hl,rv.length]) hst fun h' hx=> ?_
 have I1:Inv X pins σ H { s with heap:=h' }:=I.kept (t':=s.toks) fun b o e=>hx b o (Nat.ne_of_lt (Heap.lt_size e)) e
 exact h pins _ σ H xs _ Q I1 (by simpa using rv) hw
noncomputable def ZoO (to ti:TE)(t:ZlI):TG:=fun v σ H Q=>to σ H fun o H1=>ti σ H1 fun i H2=>t o i v H2 fun H3=>Q σ H3
theorem ZiH {o i:Expr}{to ti:TE}{t:ZlI}(ho:PE X o to)(hi:PE X i ti)(hs:ZnD X t)
  (ha: ∀ v,assign (.Subscript o i pos) X.env v=(do
   let ov <- holding [v] (eval o X.env)
   let iv <- holding [v,ov] (eval i X.env)
   standAt pos
   holding [v,ov,iv] (setItem ov iv v)
   release [v,ov,iv] []):=by intro _;rfl):PG X (.Subscript o i pos) (ZoO to ti t):=by
 intro pins s σ H v u Q I r h;rw[ha];refine wpAny_bind (wpAny_holding (thn (ho pins s σ H _ I h) fun ov s1 ⟨x,H1,I1,r1,q1⟩=> ?_))
 refine wpAny_bind (wpAny_holding (thn (hi pins s1 σ H1 _ I1 q1) fun iv s2 ⟨y,H2,I2,r2,q2⟩=> ?_))
 refine wpAny_bind (wpAny_standAt (wpAny_bind (wpAny_holding (thn (hs pins s2 σ H2 x y v ov iv u _ I2 r1 r2 r q2) fun _ s3 ⟨H3,I3,q3⟩=> ?_))))
 exact wpAny_release ⟨σ,H3,I3,q3⟩
noncomputable def ZnE (te:TE)(g:TG):TS:=fun D σ H=>te σ H fun x H1=>g x σ H1 D.nx
theorem Zgv {tg e:Expr}{te:TE}{g:TG}(he:PE X e te)(hg:PG X tg g)(hs:swapsWithSole [tg] e pos.line X.env=pure false:=by rfl)(hw:swappedStores [tg] e X.env=pure none:=by rfl)
  (h1:(assignEach [tg] X.env).map (·.2)=[assign tg X.env]:=by rfl):PS X (.Assign [tg] e pos) (ZnE te g):=by
 intro pins s σ H D I h;refine wpAny_Assign_stores (thn (he pins s σ H _ I h) fun v s1 ⟨x,H1,I1,r1,q1⟩=> ?_) hs hw
 rw[h1];exact thn (hg pins s1 σ H1 x v _ I1 r1 q1) fun _ s2 q=>q
theorem ZiI {i:Nat}{x:Str}{e:Expr}{te:TE}{pos':Pos}(hN:X.N.Nodup)(hi:X.N[i]?=some x)(hx:Loc X.env.scope x)(hm:X.may i=true)(he:PE X e te)(hs:swapsWith e (some (.Name x pos')) pos.line X.env=pure false:=by rfl)(hf:X.fn x=true\/X.env.scope.names.lookup x=some .local:=by first | exact .inl rfl | exact .inr rfl | assumption):
  PS X (.Assign [.Name x pos'] e pos) (ZnE te (ZiF i)):=by
 intro pins s σ H D I h;refine wpAny_Assign_Name (thn (he pins s σ H _ I h) fun v s1 ⟨y,H1,I1,r1,q1⟩=> ?_) hs
 exact Zbf I1 hN hi hx hm r1 (fun s2 I2=>⟨_,H1,I2,q1⟩) hf
noncomputable def ZoP (i j:Nat)(ta:TA):TS:=fun D σ H=>ta σ H fun vs H1=> ∃ v w,vs=[v,w]/\D.nx ((σ.set i (some v)).set j (some w)) H1
theorem ZiJ {i j:Nat}{x y:Str}{a b:Expr}{ta:TA}{px py pt:Pos}{kt k2 pt2}(hc:X.calm=true)(mi:X.may i=true)(mj:X.may j=true)(hN:X.N.Nodup)(hi:X.N[i]?=some x)(hj:X.N[j]?=some y)(hij:i≠j)
  (hx:X.env.scope.names.lookup x=some .local) (hy:X.env.scope.names.lookup y=some .local) (ha:PA X [a,b] ta)
  (hw:swappedStores [.Tuple [.Name x px,.Name y py] kt pt] (.Tuple [a,b] k2 pt2) X.env=pure (some [x,y]))
  (hs:swapsWithSole [.Tuple [.Name x px,.Name y py] kt pt] (.Tuple [a,b] k2 pt2) pos.line X.env=pure false:=by rfl):
  PS X (.Assign [.Tuple [.Name x px,.Name y py] kt pt] (.Tuple [a,b] k2 pt2) pos) (ZoP i j ta):=by
 intro pins s σ H D I h;rw[exec_Assign_arm];refine wpAny_bind (wpAny_standAt ?_)
 rw[hs];refine wpAny_bind (wpAny_pure ?_)
 rw[if_neg (by decide)]
 refine wpAny_bind (Tuple_ (thn (ha _ pins s σ H _ I h) fun us s1 ⟨vs,H1,I1,r1,q1⟩=> ?_))
 obtain ⟨v,w,e1,q1⟩:=q1
 subst e1;obtain ⟨u1,u2,rfl,rv,rw'⟩: ∃ u1 u2,us=[u1,u2]/\ZO v u1/\ZO w u2:=by
  cases r1 with
  |cons p q=>
   cases q with
   |cons p' q'=>
    cases q'
    exact ⟨_,_,rfl,p,p'⟩
 refine wpAny_newObj_type ?_ (by show 2<=sizeLine;decide)
 have I2:Inv X pins σ H1 { s1 with heap:=s1.heap.push { cls:= .type "tuple",data:= .seq [u1,u2].toArray } }:=I1.kept (t':=s1.toks) fun b o e=>Heap.get?_push_of_some _ e
 rw[hw];refine wpAny_bind (wpAny_pure ?_)
 show wpAny (model X.prog X.w) X.A (do rule "assign.swapped-stores";let items <- unpackItems (.ref s1.heap.objs.size) 2 none;assignInOrder [fun v=>bindName X.env y v,fun v=>bindName X.env x v] items.reverse;pure Flow.next) _ _ _
 refine wpAny_bind (wpAny_rule (wpAny_bind (unpackItems_tuple (items:= #[u1,u2]) (I.ok.hd hc) (IsTup.new s1.heap _) fun h' hx'=> ?_)))
 have I3:=I2.kept (h':=h') (t':=s1.toks) fun b o e=>hx' b o (Nat.ne_of_lt (Heap.lt_size e)) e
 show wpAny _ _ (assignInOrder [fun v=>bindName X.env y v,fun v=>bindName X.env x v] [u2,u1] >>= fun _=>pure Flow.next) _ _ _
 refine wpAny_bind (assignInOrder_cons (wpAny_bindName (Zbf I3 hN hj (.inl hy) mj rw' (fun s2 I4=> ?_) (.inr hy))))
 refine assignInOrder_cons (wpAny_bindName (Zbf I4 hN hi (.inl hx) mi rv (fun s3 I5=>assignInOrder_nil (wpAny_pure ?_)) (.inr hx)))
 rw[List.set_comm _ _ (Ne.symm hij)] at I5;exact ⟨_,H1,I5,q1⟩
end
section
variable {X:Cx}{pos:Pos}
noncomputable def ZiK (c:TT)(tb:TS):TS:=fun D σ H=> ∃ W:Nat->St->Hp->Prop,(∃ m,W m σ H)/\ ∀ m σ H,W m σ H->
 c σ H fun b H1=>if b=true then ∃ N:St->Hp->Prop,(∀ σ' H',N σ' H'-> ∃ m',m' < m/\W m' σ' H')/\tb { D with nx:=N,ct:=N,bk:=D.nx } σ H1 else D.nx σ H1
theorem ZfJ {c:Expr}{body:List Stmt}{tc:TT}{tb:TS}(hp:PassesOwn (model X.prog X.w) X.A X.env X.xe)(hc:PT X c tc)(hb:PSs X body tb):PS X (.While c body [] pos) (ZiK tc tb):=by
 intro pins s σ H D I h;obtain ⟨W,⟨m0,w0⟩,turn⟩:=h
 refine wpAny_While (codeAny_whileLoop (fun n s'=> ∃ σ' H',Inv X pins σ' H' s'/\W n σ' H') ?_ m0 ⟨σ,H,I,w0⟩)
 rintro n s1 ⟨σ1,H1,I1,w1⟩
 refine wpAny_passesOwn hp (thn (hc pins s1 σ1 H1 _ I1 (turn n σ1 H1 w1)) fun b s2 ⟨H2,I2,q2⟩=> ?_)
 cases b with
 |true=>
  obtain ⟨N,hN,q2⟩:=q2
  rw[if_pos rfl];refine wpAny_passesOwn hp (thn (hb pins s2 σ1 H2 _ I2 q2) fun f s3 q3=> ?_)
  cases f with
  |next=>
   obtain ⟨σ3,H3,I3,n3⟩:=q3
   obtain ⟨m',hm,w3⟩:=hN σ3 H3 n3
   exact ⟨m',hm,σ3,H3,I3,w3⟩
  |cont=>
   obtain ⟨σ3,H3,I3,n3⟩:=q3
   obtain ⟨m',hm,w3⟩:=hN σ3 H3 n3
   exact ⟨m',hm,σ3,H3,I3,w3⟩
  |brk=>exact q3
  |ret v=>exact q3
 |false=>
  rw[if_neg Bool.false_ne_true];exact wpAny_execs_nil ⟨σ1,H2,I2,q2⟩
end
structure It where
 go:Nat->Hp->Prop
 yld:Nat->Hp->V->Hp->Prop
 stop:Nat->Hp->Prop
noncomputable def ZcI (X:Cx)(pins:List (Addr × Obj))(H:Hp)(b:Addr):Prop:=
 H b=none/\b≠X.env.locals/\b ∉ X.fs/\(b∈X.ex\/X.s₀.heap.objs.size<=b)/\(∀ x c,X.env.cells.lookup x=some c->c≠b)/\ ∀ p∈X.pn ++ pins,p.1≠b
theorem Inv.fpOk {X:Cx}{pins:List (Addr × Obj)}{σ:St}{H H':Hp}{s:Shared}{b:Addr}(I:Inv X pins σ H s)(hb:s.heap.objs.size<=b)(hn:H' b=none):ZcI X pins H' b:=by
 refine ⟨hn,Nat.ne_of_gt (Nat.lt_of_lt_of_le I.lt hb),I.nofs hb,.inr (Nat.le_trans I.sz hb),fun x c e z=> ?_,fun p hp z=> ?_⟩
 ·obtain ⟨v,q⟩:=I.cell x c e
  exact absurd (Nat.lt_of_lt_of_le q.lt (by rw[z];exact hb)) (Nat.lt_irrefl _)
 ·exact absurd (Nat.lt_of_lt_of_le (Heap.lt_size (I.pin p hp).1) (by rw[z];exact hb)) (Nat.lt_irrefl _)
structure Turn (P:Program) (w:World) (K:PySem.W.Frag) (B:Around) (tg:Expr) (J:It) (fp:List Addr) (it:Addr) (tn:Nat->Heap->Prop):Prop where
 mem:it∈fp
 obj: ∀ i h,tn i h-> ∀ b∈fp,∃ o,h.get? b=some o/\ ∀ v,o.data≠ .cell v
 keep: ∀ i h h',tn i h->(∀ b∈fp,∀ o,h.get? b=some o->h'.get? b=some o)->tn i h'
 item: ∀ (X:Cx),X.prog=P->X.w=w->X.K=K->X.A=B-> ∀ (i:Nat) (pins:List (Addr × Obj)) (s:Shared) (σ:St) (H:Hp) (E:Value->Shared->Prop),Inv X pins σ H s->(∀ b∈fp,ZcI X pins H b)->tn i s.heap->J.go i H->
  wpAny (model P w) X.A (pyNext (.ref it)) (fun r s1=> ∃ u,r=some u/\
   wpAny (model P w) X.A (letOwnedTupleGo tg (.ref it) u) (fun _ s2=> ∃ x H',Inv X pins σ H' s2/\ZO x u/\J.yld i H x H'/\tn (i + 1) s2.heap/\ ∀ b∈fp,H' b=none) E s1) E s
 done: ∀ (X:Cx),X.prog=P->X.w=w->X.K=K->X.A=B-> ∀ (i:Nat) (pins:List (Addr × Obj)) (s:Shared) (σ:St) (H:Hp) (E:Value->Shared->Prop),Inv X pins σ H s->(∀ b∈fp,ZcI X pins H b)->tn i s.heap->J.stop i H->
  wpAny (model P w) X.A (pyNext (.ref it)) (fun r s1=>r=none/\Inv X pins σ H s1) E s
 self: ∀ (A:Around) (i:Nat) (s:Shared) (Q:Value->Shared->Prop) (E:Value->Shared->Prop),tn i s.heap->Q (.ref it) s->wpAny (model P w) A (pyIter (.ref it)) Q E s
noncomputable abbrev TI:=St->Hp->(It->Hp->Prop)->Prop
noncomputable def PIE (X:Cx)(pins:List (Addr × Obj))(σ:St)(tg:Expr)(R:It->Hp->Prop)(itv:Value)(s2:Shared):Prop:=
 ∃ (it:Addr) (fp:List Addr) (tn:Nat->Heap->Prop) (J:It) (H':Hp),itv= .ref it/\Inv X pins σ H' s2/\Turn X.prog X.w X.K X.A tg J fp it tn/\tn 0 s2.heap/\(∀ b∈fp,ZcI X pins H' b)/\R J H'
noncomputable def PI (X:Cx)(tg iter:Expr)(wi:TI):Prop:=
 ∀ (pins:List (Addr × Obj)) (s:Shared) (σ:St) (H:Hp) (R:It->Hp->Prop),Inv X pins σ H s->wi σ H R->
  wpAny (model X.prog X.w) X.A (eval iter X.env) (fun v s1=>wpAny (model X.prog X.w) X.A (pyIter v) (PIE X pins σ tg R) X.xe s1) X.xe s
theorem ZfK {M:Model}{A:Around}{E:Value->Shared->Prop}{s:Shared}{tg:Expr}{it:Addr}{u:Value}{o:Obj}{n:String}{vs:Array Value}{Q:Unit->Shared->Prop}(ho:s.heap.get? it=some o)(hc:o.cls= .type n)(hd:o.data= .fields vs)
  (hn:["enumerate","zip","dict_itemiterator","dict_reverseitemiterator","odict_iterator","itertools.zip_longest","itertools.pairwise"].contains n=false) (hQ:Q () s):wpAny M A (letOwnedTupleGo tg (.ref it) u) Q E s:=by
 unfold letOwnedTupleGo;cases tg<;>first
  |exact wpAny_pure hQ
  | (cases u<;>first
    |exact wpAny_pure hQ
    | (refine wpAny_bind (wpAny_load ho ?_)
       rw[hc,hd];show wpAny M A (if (["enumerate","zip","dict_itemiterator","dict_reverseitemiterator","odict_iterator","itertools.zip_longest","itertools.pairwise"].contains n && vs[0]? == some (rawInt _))=true then _ else _) Q E s
       rw[if_neg (by intro h;rw[hn,Bool.false_and] at h;cases h)]
       exact wpAny_pure hQ))
noncomputable def Itl (K:PySem.W.Frag)(a:Addr):It:=
 ⟨fun i H=> ∃ xs x,SqL K H a xs/\xs[i]?=some x,fun i H x H'=>H'=H/\ ∀ xs,SqL K H a xs->xs[i]?=some x,fun i H=> ∃ xs,SqL K H a xs/\xs.length<=i⟩
noncomputable def Itt (K:PySem.W.Frag)(a:Addr):It:=
 ⟨fun i H=> ∃ xs x,SqT K H a xs/\xs[i]?=some x,fun i H x H'=>H'=H/\ ∀ xs,SqT K H a xs->xs[i]?=some x,fun i H=> ∃ xs,SqT K H a xs/\xs.length<=i⟩
noncomputable def Itr (lo:Int)(n:Nat):It:=⟨fun i _=>i < n,fun i H x H'=>H'=H/\x= .int (lo + i),fun i _=>n<=i⟩
theorem Zec {P:Program}{w:World}{K:PySem.W.Frag}{B:Around}{tg:Expr}(a it:Addr):Turn P w K B tg (Itl K a) [it] it (fun i h=>h.IsListIter it a i) where
 mem:=by simp
 obj:=fun i h st b hb=>by
  have e:b=it:=by simpa using hb
  subst e;obtain ⟨o,e,c,d⟩:=st
  exact ⟨o,e,fun v z=>by rw[d] at z;cases z⟩
 keep:=fun i h h' st k=>st.at fun o e=>k it (by simp) o e
 item:=by
  intro X hP hw hK hB i pins s σ H E I hf st hg;subst hP hw hK;obtain ⟨xs,x,hq,hx⟩:=hg
  obtain ⟨its,rv,p,hz⟩:=I.list hq
  obtain ⟨u,hu,ru⟩:=rv.get hx
  obtain ⟨f0,f1,f2,f3,f4,f5⟩:=hf it (by simp)
  refine wpAny_pyNext_list_item st p.isList (x:=u) (by simpa using hu) fun h' st' sb=> ?_
  have I1:Inv X pins σ H { s with heap:=h' }:=I.turned (t':=s.toks) (fun b o hb e=>(sb.2 b hb).trans e) f0 f1 f3 f4 f5
  obtain ⟨o,e,c,d⟩:=id st'
  exact ⟨u,rfl,ZfK (s:={ s with heap:=h' }) e c d (by decide) ⟨x,H,I1,ru,⟨rfl,fun ys hy=>by rw[I.list_inj hy hq];exact hx⟩,st',fun b hb=>(hf b hb).1⟩⟩
 done:=by
  intro X hP hw hK hB i pins s σ H E I hf st hg;subst hP hw hK;obtain ⟨xs,hq,hx⟩:=hg
  obtain ⟨its,rv,p,hz⟩:=I.list hq
  obtain ⟨f0,f1,f2,f3,f4,f5⟩:=hf it (by simp)
  have hl:=rv.length
  exact DQ.ZfE I.qh st p.isList (by simp;omega) fun h' eb=>⟨rfl,I.turned (t':=s.toks) (fun b o hb e=>eb b o hb e) f0 f1 f3 f4 f5⟩
 self:=fun _ _ _ _ _ st h=>wpAny_pyIter_listiter st h
theorem ZdD {P:Program}{w:World}{K:PySem.W.Frag}{B:Around}{tg:Expr}(a it:Addr):Turn P w K B tg (Itt K a) [it] it (fun i h=>h.IsTupleIter it a i) where
 mem:=by simp
 obj:=fun i h st b hb=>by
  have e:b=it:=by simpa using hb
  subst e;obtain ⟨o,e,c,d⟩:=st
  exact ⟨o,e,fun v z=>by rw[d] at z;cases z⟩
 keep:=fun i h h' st k=>st.at fun o e=>k it (by simp) o e
 item:=by
  intro X hP hw hK hB i pins s σ H E I hf st hg;subst hP hw hK;obtain ⟨xs,x,hq,hx⟩:=hg
  obtain ⟨its,rv,p,hz⟩:=I.tuple hq
  obtain ⟨u,hu,ru⟩:=rv.get hx
  obtain ⟨f0,f1,f2,f3,f4,f5⟩:=hf it (by simp)
  refine wpAny_pyNext_tuple_item st (show s.heap.IsTuple a its.toArray from p) (x:=u) (by simpa using hu) fun h' st' sb=> ?_
  have I1:Inv X pins σ H { s with heap:=h' }:=I.turned (t':=s.toks) (fun b o hb e=>(sb.2 b hb).trans e) f0 f1 f3 f4 f5
  obtain ⟨o,e,c,d⟩:=id st'
  exact ⟨u,rfl,ZfK (s:={ s with heap:=h' }) e c d (by decide) ⟨x,H,I1,ru,⟨rfl,fun ys hy=>by rw[I.tuple_inj hy hq];exact hx⟩,st',fun b hb=>(hf b hb).1⟩⟩
 done:=by
  intro X hP hw hK hB i pins s σ H E I hf st hg;subst hP hw hK;obtain ⟨xs,hq,hx⟩:=hg
  obtain ⟨its,rv,p,hz⟩:=I.tuple hq
  obtain ⟨f0,f1,f2,f3,f4,f5⟩:=hf it (by simp)
  have hl:=rv.length
  exact DQ.Zd7 I.qh st (show s.heap.IsTuple a its.toArray from p) (by simp;omega) fun h' eb=>⟨rfl,I.turned (t':=s.toks) (fun b o hb e=>eb b o hb e) f0 f1 f3 f4 f5⟩
 self:=fun _ _ _ _ _ st h=>wpAny_pyIter_tupleiter st h
theorem ZdE {P:Program}{w:World}{K:PySem.W.Frag}{B:Around}{tg:Expr}(it:Addr)(lo:Int)(n:Nat):Turn P w K B tg (Itr lo n) [it] it (fun i h=>IsRangeIter h it (lo + (i:Nat) * 1) ((n:Int) - (i:Nat)) 1) where
 mem:=by simp
 obj:=fun i h st b hb=>by
  have e:b=it:=by simpa using hb
  subst e;exact ⟨_,st,fun v z=>by
   have z':Data.fields _=Data.cell v:=z
   cases z'⟩
 keep:=fun i h h' st k=>k it (by simp) _ st
 item:=by
  intro X hP hw hK hB i pins s σ H E I hf st hg;subst hP hw hK;obtain ⟨f0,f1,f2,f3,f4,f5⟩:=hf it (by simp)
  have hlt:i < n:=hg
  refine wpAny_pyNext_range_item st (by omega) fun h' st' sb=> ?_
  have I1:Inv X pins σ H { s with heap:=h',toks:=s.toks + 1 }:=I.turned (fun b o hb e=>(sb.2 b hb).trans e) f0 f1 f3 f4 f5
  have st2:IsRangeIter h' it (lo + ((i + 1:Nat):Int) * 1) ((n:Int) - ((i + 1:Nat):Int)) 1:=by
   have e1:lo + ((i + 1:Nat):Int) * 1=lo + (i:Nat) * 1 + 1:=by omega
   have e2:(n:Int) - ((i + 1:Nat):Int)=(n:Int) - (i:Nat) - 1:=by omega
   rw[e1,e2];exact st'
  refine ⟨_,rfl,ZfK (s:={ s with heap:=h',toks:=s.toks + 1 }) (n:="range_iterator") st2 rfl rfl (by decide) ⟨.int (lo + i),H,I1,⟨s.toks,?_⟩,⟨rfl,rfl⟩,st2,fun b hb=>(hf b hb).1⟩⟩
  rw[Int.mul_one]
 done:=by
  intro X hP hw hK hB i pins s σ H E I hf st hg;subst hP hw hK;obtain ⟨f0,f1,f2,f3,f4,f5⟩:=hf it (by simp)
  exact DQ.Zd6 I.qh st (by have:n<=i:=hg;omega) fun h' eb=>⟨rfl,I.turned (t':=s.toks) (fun b o hb e=>eb b o hb e) f0 f1 f3 f4 f5⟩
 self:=fun _ _ _ _ _ st h=>wpAny_pyIter_rangeiter st h
end L2
namespace L2
open PySem PySem.Spec PyProof.Rows
section
variable {X:Cx}{tg:Expr}
theorem ZfL {pins:List (Addr × Obj)}{σ:St}{H:Hp}{s:Shared}{R:It->Hp->Prop}{E:Value->Shared->Prop}{lo hi:Int}{t u v:Tok}{tk:Nat}(I:Inv X pins σ H s)(h1: -(2 ^ 62)<=lo)(h2:lo < 2 ^ 62)(h3: -(2 ^ 62)<=hi)(h4:hi < 2 ^ 62)
  (q:R (Itr lo (hi - lo).toNat) H):wpAny (model X.prog X.w) X.A (pyIter (.ref s.heap.objs.size)) (PIE X pins σ tg R) E { s with heap:=s.heap.push { cls:= .type "range",data:= .fields #[.int lo t,.int hi u,.int 1 v] },toks:=tk }:=by
 refine wpAny_pyIter_range (IsRange.new ..) (small_one h1 h2 h3 h4) ?_
 have I1:Inv X pins σ H { s with heap:=s.heap.push { cls:= .type "range",data:= .fields #[.int lo t,.int hi u,.int 1 v] },toks:=tk }:=I.kept fun b o e=>Heap.get?_push_of_some _ e
 refine ⟨(s.heap.push { cls:= .type "range",data:= .fields #[.int lo t,.int hi u,.int 1 v] }).objs.size,[(s.heap.push { cls:= .type "range",data:= .fields #[.int lo t,.int hi u,.int 1 v] }).objs.size],_,_,H,rfl,
  I1.kept (t':=tk) fun b o e=>Heap.get?_push_of_some _ e,ZdE _ lo (hi - lo).toNat,?_,fun b hb=> ?_,q⟩
 ·have e1:lo + ((0:Nat):Int) * 1=lo:=by simp
  have e2:(((hi - lo).toNat:Nat):Int) - ((0:Nat):Int)=Builtin.Range.rangeSize lo hi 1:=by rw[rangeSize_one];split<;>omega
  show IsRangeIter _ _ (lo + ((0:Nat):Int) * 1) ((((hi - lo).toNat:Nat):Int) - ((0:Nat):Int)) 1
  rw[e1,e2];exact Heap.get?_push_size _ rfl
 ·have e:b=(s.heap.push { cls:= .type "range",data:= .fields #[.int lo t,.int hi u,.int 1 v] }).objs.size:=by simpa using hb
  subst e;exact I1.fpOk (Nat.le_refl _) (I1.hok.fresh (Nat.le_refl _))
noncomputable def ZlK (ta:TA):TI:=fun σ H R=>ta σ H fun vs H1=> ∃ j:Int,vs=[.int j]/\ -(2 ^ 62)<=j/\j < 2 ^ 62/\R (Itr 0 j.toNat) H1
theorem Zb7 {a:Expr}{ta:TA}{p pos:Pos}(hg:Gl X "range")(hm:X.mg "range"=none)(ha:PA X [a] ta)(hs:starEach [a] X.env=[(false,eval a X.env)]:=by rfl):PI X tg (.Call (.Name "range" p) [a] [] pos) (ZlK ta):=by
 intro pins s σ H R I h;refine Call_ (Zc8 I hg hm boot_range (PyProof.Rows.callWith_type1 (thn (ha pos pins s σ H _ I h) fun us s1 ⟨vs,H1,I1,r1,q1⟩=> ?_) hs rfl))
 obtain ⟨j,e,q1,q2,q⟩:=q1
 subst e;cases r1 with
 |cons r rr=>
  cases rr
  obtain ⟨t,rfl⟩:=r
  exact call_range_1 (ZfL I1 (by omega) (by omega) q1 q2 (by simpa using q))
noncomputable def ZoQ (wi:TI)(g:TG)(tb:TS):TS:=fun D σ H=>wi σ H fun J H1=> ∃ W:Nat->Nat->St->Hp->Prop,(∃ m,W 0 m σ H1)/\ ∀ i m σ H,W i m σ H->
 (J.stop i H/\D.nx σ H)\/(J.go i H/\ ∃ N:St->Hp->Prop,(∀ σ' H',N σ' H'-> ∃ m',m' < m/\W (i + 1) m' σ' H')/\ ∀ x H',J.yld i H x H'->g x σ H' fun σ2 H2=>tb { D with nx:=N,ct:=N,bk:=D.nx } σ2 H2)
noncomputable def ZbD (fp:List Addr)(h:Heap):List (Addr × Obj):=fp.filterMap fun b=>(h.get? b).map fun o=>(b,o)
theorem Zas {fp:List Addr}{h:Heap}{b:Addr}{o:Obj}(hb:b∈fp)(e:h.get? b=some o):(b,o)∈ZbD fp h:=List.mem_filterMap.mpr ⟨b,hb,by rw[e];rfl⟩
theorem Zed {fp:List Addr}{h:Heap}{p:Addr × Obj}(hp:p∈ZbD fp h):p.1∈fp/\h.get? p.1=some p.2:=by
 obtain ⟨b,hb,e⟩:=List.mem_filterMap.mp hp
 cases q:h.get? b with
 |none=>rw[q] at e;cases e
 |some o=>
  rw[q] at e;have e':(b,o)=p:=Option.some.inj e
  subst e';exact ⟨hb,q⟩
theorem Inv.pinned {pins:List (Addr × Obj)}{σ:St}{H:Hp}{s:Shared}{fp:List Addr}(I:Inv X pins σ H s)(hf: ∀ b∈fp,ZcI X pins H b)(ho: ∀ b∈fp,∃ o,s.heap.get? b=some o/\ ∀ v,o.data≠ .cell v):Inv X (pins ++ ZbD fp s.heap) σ H s:=
 I.pins_of fun p hp=>(List.mem_append.mp hp).elim (fun z=>I.pin p (List.mem_append_right _ z)) fun z=>by
  obtain ⟨hb,e⟩:=Zed z
  obtain ⟨f0,f1,f2,_⟩:=hf p.1 hb
  obtain ⟨o,e',d⟩:=ho p.1 hb
  rw[e] at e';cases e';exact ⟨e,f0,f1,f2,d⟩
theorem Inv.unpinned {pins pl:List (Addr × Obj)}{σ:St}{H:Hp}{s:Shared}(I:Inv X (pins ++ pl) σ H s):Inv X pins σ H s:=I.pins_of fun p hp=>I.pin p (List.mem_append_right _ (List.mem_append_left _ hp))
theorem Zgw {iter:Expr}{body:List Stmt}{wi:TI}{g:TG}{tb:TS}{pos:Pos}(hp:PassesOwn (model X.prog X.w) X.A X.env X.xe)(hi:PI X tg iter wi)(hg:PG X tg g)(hb:PSs X body tb)
  (hs: ∀ x,foldedSetIterable iter X.env x=pure x:=by intro _;rfl):PS X (.For tg iter body [] pos) (ZoQ wi g tb):=by
 intro pins s σ H D I h;refine wpAny_For (thn (hi pins s σ H _ I h) fun v s1 h1=>thn h1 fun itv s2 h2=> ?_) hs
 obtain ⟨it,fp,tn,J,H2,e,I2,T,st2,f2,W,⟨m0,w0⟩,turn⟩:=h2
 subst e;have stat: ∀ {H':Hp},(∀ b∈fp,H' b=none)-> ∀ b∈fp,ZcI X pins H' b:=fun hn b hb=>⟨hn b hb,(f2 b hb).2⟩
 refine codeAny_forLoop_any (fun n s'=> ∃ i σ' H',Inv X pins σ' H' s'/\tn i s'.heap/\(∀ b∈fp,H' b=none)/\W i n σ' H') ?_ m0 ⟨0,σ,H2,I2,st2,fun b hb=>(f2 b hb).1,w0⟩
 rintro n s3 ⟨i,σ3,H3,I3,st3,fr3,w3⟩
 rcases turn i n σ3 H3 w3 with ⟨stop,qn⟩ | ⟨go,N,hN,step⟩
 ·refine wpAny_passesOwn hp (thn (T.done X rfl rfl rfl rfl i pins s3 σ3 H3 X.xe I3 (stat fr3) st3 stop) fun r s4 ⟨hr,I4⟩=> ?_)
  subst hr;exact wpAny_execs_nil ⟨σ3,H3,I4,qn⟩
 ·refine wpAny_passesOwn hp (thn (T.item X rfl rfl rfl rfl i pins s3 σ3 H3 X.xe I3 (stat fr3) st3 go) fun r s4 ⟨u,hr,h4⟩=> ?_)
  subst hr;refine wpAny_passesOwn hp (thn h4 fun _ s5 ⟨x,H5,I5,r5,y5,st5,fr5⟩=> ?_)
  have I5':=I5.pinned (stat fr5) (T.obj _ _ st5)
  refine wpAny_passesOwn hp (thn (hg _ s5 σ3 H5 x u _ I5' r5 (step x H5 y5)) fun _ s6 ⟨σ6,H6,I6,q6⟩=> ?_)
  refine wpAny_passesOwn hp (thn (hb _ s6 σ6 H6 _ I6 q6) fun f s7 q7=> ?_)
  have again: ∀ {σ7:St} {H7:Hp},Inv X (pins ++ ZbD fp s5.heap) σ7 H7 s7->N σ7 H7-> ∃ m,m < n/\ ∃ i σ' H',Inv X pins σ' H' s7/\tn i s7.heap/\(∀ b∈fp,H' b=none)/\W i m σ' H':=fun {σ7 H7} I7 n7=>by
   obtain ⟨m',hm,w7⟩:=hN σ7 H7 n7
   refine ⟨m',hm,i + 1,σ7,H7,I7.unpinned,T.keep _ _ _ st5 fun b hb o e=>(I7.pin (b,o) (List.mem_append_right _ (List.mem_append_right _ (Zas hb e)))).1,fun b hb=> ?_,w7⟩
   obtain ⟨o,e,d⟩:=T.obj _ _ st5 b hb
   exact (I7.pin (b,o) (List.mem_append_right _ (List.mem_append_right _ (Zas hb e)))).2.1
  cases f with
  |next=>obtain ⟨σ7,H7,I7,n7⟩:=q7;exact again I7 n7
  |cont=>obtain ⟨σ7,H7,I7,n7⟩:=q7;exact again I7 n7
  |brk=>obtain ⟨σ7,H7,I7,q7⟩:=q7;exact ⟨σ7,H7,I7.unpinned,q7⟩
  |ret v=>obtain ⟨x7,σ7,H7,I7,r7,q7⟩:=q7;exact ⟨x7,σ7,H7,I7.unpinned,r7,q7⟩
end
theorem ZfM {K:PySem.W.Frag}{a:Addr}{xs:List V}{g:TG}{tb:TS}{D:Ends}{σ:St}{H:Hp}(Pv:Nat->St->Hp->Prop)(h0:Pv 0 σ H)(hl: ∀ i σ H,i<=xs.length->Pv i σ H->SqL K H a xs)
  (hs: ∀ i x σ H,xs[i]?=some x->Pv i σ H->g x σ H fun σ2 H2=>tb { D with nx:=Pv (i + 1),ct:=Pv (i + 1),bk:=D.nx } σ2 H2) (hd: ∀ σ H,Pv xs.length σ H->D.nx σ H):
  ∃ W:Nat->Nat->St->Hp->Prop,(∃ m,W 0 m σ H)/\ ∀ i m σ H,W i m σ H->
   ((Itl K a).stop i H/\D.nx σ H)\/((Itl K a).go i H/\ ∃ N:St->Hp->Prop,(∀ σ' H',N σ' H'-> ∃ m',m' < m/\W (i + 1) m' σ' H')/\ ∀ x H',(Itl K a).yld i H x H'->g x σ H' fun σ2 H2=>tb { D with nx:=N,ct:=N,bk:=D.nx } σ2 H2):=by
 refine ⟨fun i m σ H=>m=xs.length - i/\i<=xs.length/\Pv i σ H,⟨xs.length,by simp,Nat.zero_le _,h0⟩,?_⟩
 rintro i m σ H ⟨rfl,hi,p⟩
 have q:=hl i σ H hi p
 by_cases hlt:i < xs.length
 ·refine .inr ⟨⟨xs,xs[i],q,by simp[hlt]⟩,Pv (i + 1),fun σ' H' p'=>⟨xs.length - (i + 1),by omega,rfl,hlt,p'⟩,fun x H' y=> ?_⟩
  obtain ⟨e,y⟩:=y
  subst e;exact hs i x σ _ (y xs q) p
 ·have e:i=xs.length:=by omega
  subst e;exact .inl ⟨⟨xs,q,Nat.le_refl _⟩,hd σ H p⟩
theorem Zg4 {K:PySem.W.Frag}{a:Addr}{xs:List V}{g:TG}{tb:TS}{D:Ends}{σ:St}{H:Hp}(Pv:Nat->St->Hp->Prop)(h0:Pv 0 σ H)(hl: ∀ i σ H,i<=xs.length->Pv i σ H->SqT K H a xs)
  (hs: ∀ i x σ H,xs[i]?=some x->Pv i σ H->g x σ H fun σ2 H2=>tb { D with nx:=Pv (i + 1),ct:=Pv (i + 1),bk:=D.nx } σ2 H2) (hd: ∀ σ H,Pv xs.length σ H->D.nx σ H):
  ∃ W:Nat->Nat->St->Hp->Prop,(∃ m,W 0 m σ H)/\ ∀ i m σ H,W i m σ H->
   ((Itt K a).stop i H/\D.nx σ H)\/((Itt K a).go i H/\ ∃ N:St->Hp->Prop,(∀ σ' H',N σ' H'-> ∃ m',m' < m/\W (i + 1) m' σ' H')/\ ∀ x H',(Itt K a).yld i H x H'->g x σ H' fun σ2 H2=>tb { D with nx:=N,ct:=N,bk:=D.nx } σ2 H2):=by
 refine ⟨fun i m σ H=>m=xs.length - i/\i<=xs.length/\Pv i σ H,⟨xs.length,by simp,Nat.zero_le _,h0⟩,?_⟩
 rintro i m σ H ⟨rfl,hi,p⟩
 have q:=hl i σ H hi p
 by_cases hlt:i < xs.length
 ·refine .inr ⟨⟨xs,xs[i],q,by simp[hlt]⟩,Pv (i + 1),fun σ' H' p'=>⟨xs.length - (i + 1),by omega,rfl,hlt,p'⟩,fun x H' y=> ?_⟩
  obtain ⟨e,y⟩:=y
  subst e;exact hs i x σ _ (y xs q) p
 ·have e:i=xs.length:=by omega
  subst e;exact .inl ⟨⟨xs,q,Nat.le_refl _⟩,hd σ H p⟩
theorem Zee {lo:Int}{n:Nat}{g:TG}{tb:TS}{D:Ends}{σ:St}{H:Hp}(Pv:Nat->St->Hp->Prop)(h0:Pv 0 σ H)
  (hs: ∀ i σ H,i < n->Pv i σ H->g (.int (lo + i)) σ H fun σ2 H2=>tb { D with nx:=Pv (i + 1),ct:=Pv (i + 1),bk:=D.nx } σ2 H2) (hd: ∀ σ H,Pv n σ H->D.nx σ H):
  ∃ W:Nat->Nat->St->Hp->Prop,(∃ m,W 0 m σ H)/\ ∀ i m σ H,W i m σ H->
   ((Itr lo n).stop i H/\D.nx σ H)\/((Itr lo n).go i H/\ ∃ N:St->Hp->Prop,(∀ σ' H',N σ' H'-> ∃ m',m' < m/\W (i + 1) m' σ' H')/\ ∀ x H',(Itr lo n).yld i H x H'->g x σ H' fun σ2 H2=>tb { D with nx:=N,ct:=N,bk:=D.nx } σ2 H2):=by
 refine ⟨fun i m σ H=>m=n - i/\i<=n/\Pv i σ H,⟨n,by simp,Nat.zero_le _,h0⟩,?_⟩
 rintro i m σ H ⟨rfl,hi,p⟩
 by_cases hlt:i < n
 ·refine .inr ⟨hlt,Pv (i + 1),fun σ' H' p'=>⟨n - (i + 1),by omega,rfl,hlt,p'⟩,fun x H' y=> ?_⟩
  obtain ⟨e,y⟩:=y
  subst e y;exact hs i σ _ hlt p
 ·have e:i=n:=by omega
  subst e;exact .inl ⟨Nat.le_refl _,hd σ H p⟩
end L2
namespace L2
open PySem PySem.Spec PyProof.Rows
noncomputable abbrev R2:=V->V->Hp->VK->Prop
noncomputable def OpR (X:Cx)(f:Value->Value->Sem Value)(r:R2):Prop:=
 ∀ (pins:List (Addr × Obj)) (s:Shared) (σ:St) (H:Hp) (x y:V) (v u:Value) (Q:VK),Inv X pins σ H s->ZO x v->ZO y u->r x y H Q->
  wpAny (model X.prog X.w) X.A (f v u) (EP X pins σ Q) X.xe s
noncomputable def UnR (X:Cx)(f:Value->Sem Value)(r:V->Hp->VK->Prop):Prop:=
 ∀ (pins:List (Addr × Obj)) (s:Shared) (σ:St) (H:Hp) (x:V) (v:Value) (Q:VK),Inv X pins σ H s->ZO x v->r x H Q->
  wpAny (model X.prog X.w) X.A (f v) (EP X pins σ Q) X.xe s
noncomputable def Zau (X:Cx)(f:Value)(r:List V->Hp->VK->Prop):Prop:=
 ∀ (pins:List (Addr × Obj)) (s:Shared) (σ:St) (H:Hp) (xs:List V) (us:List Value) (Q:VK),Inv X pins σ H s->ZB xs us->r xs H Q->
  wpAny (model X.prog X.w) X.A (call f us) (EP X pins σ Q) X.xe s
noncomputable def tOp (r:R2)(ta tb:TE):TE:=fun σ H Q=>ta σ H fun x H1=>tb σ H1 fun y H2=>r x y H2 Q
noncomputable def tUn (r:V->Hp->VK->Prop)(ta:TE):TE:=fun σ H Q=>ta σ H fun x H1=>r x H1 Q
noncomputable def rI (C:Int->Int->Prop)(g:Int->Int->V):R2:=fun x y H Q=> ∃ i j,x= .int i/\y= .int j/\C i j/\Q (g i j) H
noncomputable def rI0 (g:Int->Int->V):R2:=fun x y H Q=> ∃ i j,x= .int i/\y= .int j/\Q (g i j) H
noncomputable def rU (g:Int->V):V->Hp->VK->Prop:=fun x H Q=> ∃ i,x= .int i/\Q (g i) H
section
variable {X:Cx}{a b c:Expr}{ta tb tc:TE}{pos:Pos}
theorem Zln (ha:PE X a ta)(hb:PE X b tb){pins:List (Addr × Obj)}{s:Shared}{σ:St}{H:Hp}{R:V->V->Hp->Prop}(I:Inv X pins σ H s)
  (h:ta σ H fun x H1=>tb σ H1 fun y H2=>R x y H2) {Q:Value->Shared->Prop} {f:Value->Value->Sem Value}
  (hf: ∀ v u s2 x y H2,Inv X pins σ H2 s2->ZO x v->ZO y u->R x y H2->wpAny (model X.prog X.w) X.A (f v u) Q X.xe s2):
  wpAny (model X.prog X.w) X.A (eval a X.env) (fun v s₁=>wpAny (model X.prog X.w) X.A (eval b X.env) (fun u s₂=>wpAny (model X.prog X.w) X.A (f v u) Q X.xe s₂) X.xe s₁) X.xe s:=by
 refine thn (ha pins s σ H _ I h) fun v s1 ⟨x,H1,I1,r1,q1⟩=> ?_
 refine thn (hb pins s1 σ H1 _ I1 q1) fun u s2 ⟨y,H2,I2,r2,q2⟩=> ?_
 exact hf v u s2 x y H2 I2 r1 r2 q2
theorem ZlL {op:Operator}{r:R2}(ho:OpR X (binaryOp op) r)(ha:PE X a ta)(hb:PE X b tb):PE X (.BinOp a op b pos) (tOp r ta tb):=by
 intro pins s σ H Q I h;exact wpAny_BinOp (Zln ha hb I h fun v u s2 x y H2 I2 rx ry q=>ho pins s2 σ H2 x y v u Q I2 rx ry q)
theorem ZlM {op:UnaryOp}{r:V->Hp->VK->Prop}(ho:UnR X (unaryOp op) r)(ha:PE X a ta):PE X (.UnaryOp op a pos) (tUn r ta):=by
 intro pins s σ H Q I h;exact UnaryOp_ (thn (ha pins s σ H _ I h) fun v s1 ⟨x,H1,I1,r1,q1⟩=>ho pins s1 σ H1 x v Q I1 r1 q1)
theorem opI {f:Value->Value->Sem Value}{C:Int->Int->Prop}{g:Int->Int->Int}
  (rule: ∀ (i j:Int) (t u:Tok) (s:Shared) (Q:Value->Shared->Prop) (E:Value->Shared->Prop),C i j->Q (.int (g i j) s.toks) { s with toks:=s.toks + 1 }->wpAny (model X.prog X.w) X.A (f (.int i t) (.int j u)) Q E s):
  OpR X f (rI C fun i j=> .int (g i j)):=by
 intro pins s σ H x y v u Q I rx ry h;obtain ⟨i,j,rfl,rfl,hc,q⟩:=h
 obtain ⟨t,rfl⟩:=rx
 obtain ⟨t',rfl⟩:=ry
 exact rule i j t t' s _ _ hc ⟨.int (g i j),H,I.tok _,⟨_,rfl⟩,q⟩
theorem ZnF {f:Value->Value->Sem Value}{g:Int->Int->Int}
  (rule: ∀ (i j:Int) (t u:Tok) (s:Shared) (Q:Value->Shared->Prop) (E:Value->Shared->Prop),Q (.int (g i j) s.toks) { s with toks:=s.toks + 1 }->wpAny (model X.prog X.w) X.A (f (.int i t) (.int j u)) Q E s):
  OpR X f (rI0 fun i j=> .int (g i j)):=by
 intro pins s σ H x y v u Q I rx ry h;obtain ⟨i,j,rfl,rfl,q⟩:=h
 obtain ⟨t,rfl⟩:=rx
 obtain ⟨t',rfl⟩:=ry
 exact rule i j t t' s _ _ ⟨.int (g i j),H,I.tok _,⟨_,rfl⟩,q⟩
theorem ZlN {f:Value->Value->Sem Value}{g:Int->Int->Bool}
  (rule: ∀ (i j:Int) (t u:Tok) (s:Shared) (Q:Value->Shared->Prop) (E:Value->Shared->Prop),Q (.bool (g i j)) s->wpAny (model X.prog X.w) X.A (f (.int i t) (.int j u)) Q E s):
  OpR X f (rI0 fun i j=> .bl (g i j)):=by
 intro pins s σ H x y v u Q I rx ry h;obtain ⟨i,j,rfl,rfl,q⟩:=h
 obtain ⟨t,rfl⟩:=rx
 obtain ⟨t',rfl⟩:=ry
 exact rule i j t t' s _ _ ⟨.bl (g i j),H,I,rfl,q⟩
noncomputable def ZnG (i j:Int):Prop:=0<=j/\j<=1000000/\i.natAbs < 2 ^ 64
theorem ZiL:OpR X (binaryOp .Add) (rI0 fun i j=> .int (i + j)):=ZnF fun _ _ _ _ _ _ _ q=>add_int q
theorem ZiM:OpR X (binaryOp .Sub) (rI0 fun i j=> .int (i - j)):=ZnF fun _ _ _ _ _ _ _ q=>sub_int q
theorem Zg5:OpR X (binaryOp .Mod) (rI (fun _ j=>j≠0) fun i j=> .int (i.fmod j)):=opI fun _ _ _ _ _ _ _ hc q=>mod_int' hc q
theorem ZiN:OpR X (binaryOp .Pow) (rI ZnG fun i j=> .int (i ^ j.toNat)):=opI fun _ _ _ _ _ _ _ hc q=>pow_int_small hc.1 hc.2.1 hc.2.2 q
theorem unI {f:Value->Sem Value}{g:Int->Int}
  (rule: ∀ (i:Int) (t:Tok) (s:Shared) (Q:Value->Shared->Prop) (E:Value->Shared->Prop),Q (.int (g i) s.toks) { s with toks:=s.toks + 1 }->wpAny (model X.prog X.w) X.A (f (.int i t)) Q E s):
  UnR X f (rU fun i=> .int (g i)):=by
 intro pins s σ H x v Q I rx h;obtain ⟨i,rfl,q⟩:=h
 obtain ⟨t,rfl⟩:=rx
 exact rule i t s _ _ ⟨.int (g i),H,I.tok _,⟨_,rfl⟩,q⟩
theorem ZiO:UnR X (unaryOp .USub) (rU fun i=> .int (-i)):=unI fun _ _ _ _ _ q=>neg_int q
end
section
variable {X:Cx}{a b c:Expr}{ta tb tc:TE}{pos:Pos}
theorem ZiP {pins:List (Addr × Obj)}{σ:St}{H:Hp}{s:Shared}{Q:VK}{k k':Bool}(I:Inv X pins σ H s)(q:Q (.bl k) H)(e:k=k'):EP X pins σ Q (.bool k') s:=by
 subst e;exact ⟨.bl k,H,I,rfl,q⟩
theorem ZiQ:OpR X (compareOp .Lt) (rI0 fun i j=> .bl (decide (i < j))):=ZlN fun _ _ _ _ _ _ _ q=>lt_int q
theorem ZfN:OpR X (compareOp .Gt) (rI0 fun i j=> .bl (decide (j < i))):=ZlN fun _ _ _ _ _ _ _ q=>gt_int q
theorem Zg6:OpR X (compareOp .GtE) (rI0 fun i j=> .bl (decide (j<=i))):=ZlN fun _ _ _ _ _ _ _ q=>ge_int q
theorem Zef:OpR X (compareOp .In) (fun x y H Q=> ∃ i j,x= .str i/\y= .str j/\Q (.bl (!(Builtin.Str.occurrences j i 0 j.length 1).isEmpty)) H):=by
 intro pins s σ H x y v u Q I rx ry h;obtain ⟨i,j,rfl,rfl,q⟩:=h
 obtain ⟨t,rfl⟩:=rx
 obtain ⟨t',rfl⟩:=ry
 exact in_str (ZiP I q rfl)
theorem OpR.or {f:Value->Value->Sem Value}{r r':R2}(h:OpR X f r)(h':OpR X f r'):OpR X f (fun x y H Q=>r x y H Q\/r' x y H Q):=by
 intro pins s σ H x y v u Q I rx ry q
 rcases q with q | q
 ·exact h pins s σ H x y v u Q I rx ry q
 ·exact h' pins s σ H x y v u Q I rx ry q
theorem Zgx (b:Expr){op:CmpOp}(h:op≠ .In:=by decide)(h2:op≠ .NotIn:=by decide):behindInMarks op b=false:=by
 have e1:(op == CmpOp.In)=false:=by cases op<;>first | rfl | exact absurd rfl h
 have e2:(op == CmpOp.NotIn)=false:=by cases op<;>first | rfl | exact absurd rfl h2
 cases b<;>simp[behindInMarks,e1,e2]
theorem Zg7 {op:CmpOp}{r:R2}(ho:OpR X (compareOp op) r)(ha:PE X a ta)(hb:PE X b tb)(hm:behindInMarks op b=false):PE X (.Compare a [op] [b] pos) (tOp r ta tb):=by
 intro pins s σ H Q I h;exact wpAny_Compare1 (Zln ha hb I h fun v u s2 x y H2 I2 rx ry q=>ho pins s2 σ H2 x y v u Q I2 rx ry q) hm
noncomputable def ZiR (t:TE):TT:=fun σ H Q=>t σ H fun x H'=> ∃ k,x= .bl k/\Q k H'
theorem Zg8 {op:CmpOp}{r:R2}(ho:OpR X (compareOp op) r)(ha:PE X a ta)(hb:PE X b tb)(hm:behindInMarks op b=false):PT X (.Compare a [op] [b] pos) (ZiR (tOp r ta tb)):=by
 intro pins s σ H Q I h;refine wpAny_isTrue_Compare1 (thn (ha pins s σ H _ I h) fun v s1 ⟨x,H1,I1,r1,q1⟩=>thn (hb pins s1 σ H1 _ I1 q1) fun u s2 ⟨y,H2,I2,r2,q2⟩=>
  thn (ho pins s2 σ H2 x y v u _ I2 r1 r2 q2) fun c s3 ⟨z,H3,I3,r3,k,e,q3⟩=> ?_) hm
 subst e;cases r3
 exact wpAny_truthy_bool ⟨H3,I3,q3⟩
theorem Zb8:(sizeLine:Nat) < 2 ^ 63:=by rw[sizeLine_eq];decide
theorem ZdF:OpR X (binaryOp .Add) (fun x y H Q=> ∃ i j,x= .str i/\y= .str j/\i.length + j.length<=sizeLine/\Q (.str (i ++ j)) H):=by
 intro pins s σ H x y v u Q I rx ry h;obtain ⟨i,j,rfl,rfl,hz,q⟩:=h
 obtain ⟨t,rfl⟩:=rx
 obtain ⟨t',rfl⟩:=ry
 exact add_str (fun t' tk=>⟨.str (i ++ j),H,I.tok _,⟨_,rfl⟩,q⟩) hz
noncomputable def Zc9 (b:Expr):Prop:= ∀ o i,subscripted b false o i=operate [o,i] (getItem o i)
theorem ZcM (ha:PE X a ta)(hb:PE X b tb)(hs:Zc9 b):
  PE X (.Subscript a b pos) (tOp (fun x y H Q=> ∃ z i c,x= .str z/\y= .int i/\0<=i/\i < 2 ^ 63/\i < z.length/\z.cps[i.toNat]?=some c/\Q (.str ⟨#[c]⟩) H) ta tb):=by
 intro pins s σ H Q I h;refine Subscript_ (Zln ha hb I h fun v u s2 x y H2 I2 rx ry q=> ?_)
 obtain ⟨z,i,c,rfl,rfl,h0,h63,h1,hc,q⟩:=q
 obtain ⟨t,rfl⟩:=rx
 obtain ⟨t',rfl⟩:=ry
 have e:seqIndex? i z.length=some i.toNat:=PySem.StrLaws.seqIndex_nonneg h0 h1
 exact tail_any (typeIs_str s2 z t) slot_str_getitem.lookup (getItem_str (c:=c) (by
  have e1:decide (i < -(2 ^ 63:Int))=false:=decide_eq_false (by omega)
  have e2:decide (i ≥ 2 ^ 63)=false:=decide_eq_false (by omega)
  rw[e1,e2]<;>rfl) (by rw[e];exact hc) ⟨.str ⟨#[c]⟩,H2,I2.tok _,⟨_,rfl⟩,q⟩) (hs _ _)
theorem ZaS {x:V}{us:List Value}(r:ZB [x] us): ∃ u,us=[u]/\ZO x u:=by
 cases r with
 |cons r1 r2=>cases r2;exact ⟨_,rfl,r1⟩
theorem Zg9 {x y:V}{us:List Value}(r:ZB [x,y] us): ∃ u w',us=[u,w']/\ZO x u/\ZO y w':=by
 cases r with
 |cons r1 r2=>
  cases r2 with
  |cons r3 r4=>cases r4;exact ⟨_,_,rfl,r1,r3⟩
theorem ZaF:Zau X (.builtin "abs") (fun xs H Q=> ∃ i,xs=[.int i]/\Q (.int (if i < 0 then -i else i)) H):=by
 intro pins s σ H xs us Q I r h;obtain ⟨i,rfl,q⟩:=h
 obtain ⟨u,rfl,t,rfl⟩:=ZaS r
 exact call_abs_int fun u tk=>⟨.int (if i < 0 then -i else i),H,I.tok _,⟨_,rfl⟩,q⟩
theorem Zeg (hc:X.calm=true):Zau X (.builtin "max") (fun xs H Q=> ∃ i j,xs=[.int i,.int j]/\Q (.int (if j > i then j else i)) H):=by
 intro pins s σ H xs us Q I r h;obtain ⟨i,j,rfl,q⟩:=h
 obtain ⟨u,w',rfl,⟨t,rfl⟩,⟨t',rfl⟩⟩:=Zg9 r
 refine max_two_ints (I.ok.hd hc) fun h' tk k=>⟨_,H,I.kept k,?_,q⟩
 by_cases hj:j > i
 ·rw[if_pos hj,if_pos hj];exact ⟨_,rfl⟩
 ·rw[if_neg hj,if_neg hj];exact ⟨_,rfl⟩
theorem Zeh (hc:X.calm=true):Zau X (.builtin "min") (fun xs H Q=> ∃ i j,xs=[.int i,.int j]/\Q (.int (if j < i then j else i)) H):=by
 intro pins s σ H xs us Q I r h;obtain ⟨i,j,rfl,q⟩:=h
 obtain ⟨u,w',rfl,⟨t,rfl⟩,⟨t',rfl⟩⟩:=Zg9 r
 refine min_two_ints (I.ok.hd hc) fun h' tk k=>⟨_,H,I.kept k,?_,q⟩
 by_cases hj:j < i
 ·rw[if_pos hj,if_pos hj];exact ⟨_,rfl⟩
 ·rw[if_neg hj,if_neg hj];exact ⟨_,rfl⟩
theorem Zbl:Zau X (.type "int") (fun xs H Q=>(∃ i,xs=[.int i]/\Q (.int i) H)\/ ∃ k,xs=[.bl k]/\Q (.int (if k then 1 else 0)) H):=by
 intro pins s σ H xs us Q I r h
 rcases h with ⟨i,rfl,q⟩ | ⟨k,rfl,q⟩
 ·obtain ⟨u,rfl,t,rfl⟩:=ZaS r
  exact call_int_int ⟨.int i,H,I,⟨_,rfl⟩,q⟩
 ·obtain ⟨u,rfl,r1⟩:=ZaS r
  cases r1
  exact call_int_bool ⟨.int (if k then 1 else 0),H,I.tok _,⟨_,rfl⟩,q⟩
theorem ZP:Zau X (.type "str") (fun xs H Q=> ∃ i,xs=[.int i]/\i.natAbs.log2 < 1920/\Q (.str (toString i)) H):=by
 intro pins s σ H xs us Q I r h;obtain ⟨i,rfl,hz,q⟩:=h
 obtain ⟨u,rfl,t,rfl⟩:=ZaS r
 exact PySem.P.str_of_int hz ⟨.str _,H,I.tok _,⟨_,rfl⟩,q⟩
end
end L2
namespace L2
open PySem PySem.Spec PyProof.Rows
section
variable {prog:Program}{w:World}{A:Around}{E:Value->Shared->Prop}{s:Shared}{K:PySem.W.Frag}{x dx C f:Addr}{mA:Str->Option Value}{name:Str}{v:Value}
end
section
variable {P:Program}{w:World}{H H':Hp}{h h':Heap}{a C dx:Addr}{fs fs':List (Str × V)}
end
section
variable {X:Cx}{pins:List (Addr × Obj)}{σ:St}{H:Hp}{s:Shared}{a C dx:Addr}{fs:List (Str × V)}{f:Str}{v:V}{A:Around}{E:Value->Shared->Prop}
end
section
variable {X:Cx}{o e value:Expr}{f:Str}{pos pos' tpos:Pos}{ta tv:TE}
end
section
variable {X:Cx}{pins:List (Addr × Obj)}{σ:St}{H:Hp}{s:Shared}{A:Around}{E:Value->Shared->Prop}{Q:Value->Shared->Prop}{c:Value}{b:Bool}
end
end L2
namespace L2
open PySem PySem.Spec PyProof.Rows
structure Room (k:Nat) (A:Around):Prop where
 hd:100<=k->A.handled=none
 gd:A.guards=some []
 dp:A.depth + 3 * k + 5 < recursionLimit
 un:A.units + 16 * k + 200 < cLine
theorem Room.mono {j k:Nat}{A:Around}(r:Room k A)(h:j<=k):Room j A:=⟨fun z=>r.hd (Nat.le_trans z h),r.gd,by have:=r.dp;omega,by have:=r.un;omega⟩
theorem Room.deeper {k:Nat}{A:Around}(r:Room (k + 1) A)(env:Env):Room k (A.deeper env):=
 ⟨fun z=>r.hd (Nat.le_succ_of_le z),r.gd,by have:=r.dp;show A.depth + 1 + 3 * k + 5 < _;omega,by have:=r.un;show A.units + 3 + 16 * k + 200 < _;omega⟩
theorem Room.depth {k:Nat}{A:Around}(r:Room k A):A.depth < recursionLimit:=by have:=r.dp;omega
theorem Room.units {k:Nat}{A:Around}(r:Room k A):A.units + 64 < cLine:=by have:=r.un;omega
noncomputable def tNil:TA:=fun _ H Q=>Q [] H
noncomputable def ZlO (ta:TE)(tr:TA):TA:=fun σ H Q=>ta σ H fun x H1=>tr σ H1 fun xs H2=>Q (x :: xs) H2
section
variable {X:Cx}{e:Expr}{es:List Expr}{te:TE}{t:TA}{pos:Pos}
theorem Zgy:PA X [] tNil:=fun _ _ _ _ H Q I h=>Calls.spliced_nil ⟨[],H,I,.nil,h⟩
theorem ZcN (ha:PE X e te)(hr:PA X es t)(hs:starEach (e :: es) X.env=(false,eval e X.env) :: starEach es X.env:=by rfl):PA X (e :: es) (ZlO te t):=by
 intro pos pins s σ H Q I h;rw[hs];show wpAny _ _ (spliced ((false,eval e X.env) :: backTo pos (starEach es X.env))) _ _ s
 refine Calls.spliced_cons (thn (ha pins s σ H _ I h) fun u s1 ⟨x,H1,I1,r1,q1⟩=> ?_)
 exact thn (hr pos pins s1 σ H1 _ I1 q1) fun us s2 ⟨xs,H2,I2,r2,q2⟩=>⟨x :: xs,H2,I2,.cons r1 r2,q2⟩
noncomputable def ZoR (t:TA):TE:=fun σ H Q=>t σ H fun xs H1=>xs.length<=sizeLine/\ ∀ p,H1 p=none->Q (.ref p) (upd H1 p (.tup xs))
noncomputable def ZoS (t:TA):TE:=fun σ H Q=>t σ H fun xs H1=>xs.length<=sizeLine/\ ∀ p,H1 p=none->Q (.ref p) (upd H1 p (.lst xs))
theorem ZiS {x1}(h:PA X es t):PE X (.Tuple es x1 pos) (ZoR t):=by
 intro pins s σ H Q I hq;refine wpAny_Tuple_spliced (thn (h pos pins s σ H _ I hq) fun us s1 ⟨xs,H1,I1,r,z,q⟩=>⟨by rw[<- r.length];exact z,?_⟩)
 have hf:H1 s1.heap.objs.size=none:=I1.hok.fresh (Nat.le_refl _)
 refine ⟨.ref s1.heap.objs.size,upd H1 s1.heap.objs.size (.tup xs),I1.laid (t':=s1.toks) (fun b u e=>Heap.get?_push_of_some _ e) (Nat.le_refl _) ?_,rfl,q _ hf⟩
 exact ⟨z,us,r,⟨_,Heap.get?_push_size _ rfl,rfl,_,rfl⟩⟩
theorem ZiT (h:PA X es t):PE X (.List es pos) (ZoS t):=by
 intro pins s σ H Q I hq;refine wpAny_List_spliced (thn (h pos pins s σ H _ I hq) fun us s1 ⟨xs,H1,I1,r,z,q⟩=>⟨by rw[<- r.length];exact z,?_⟩)
 have hf:H1 s1.heap.objs.size=none:=I1.hok.fresh (Nat.le_refl _)
 refine ⟨.ref s1.heap.objs.size,upd H1 s1.heap.objs.size (.lst xs),I1.laid (t':=s1.toks) (fun b u e=>Heap.get?_push_of_some _ e) (Nat.le_refl _) ?_,rfl,q _ hf⟩
 exact ⟨z,us,0,r,Heap.get?_push_size _ rfl⟩
end
noncomputable abbrev Sp:=List V->Hp->VK->XK->Prop
noncomputable abbrev CXT:=List Env->Hp->Shared->XK->Value->Shared->Prop
structure Env0 (P:Program) (w:World) (K:PySem.W.Frag) (mg:Str->Option Value) (base:Heap) (A:Around) (outer:List Env) (s:Shared) (H:Hp):Prop where
 frames:A.frames=some outer
 mod:Mod K mg base
 bs: ∀ b o,base.get? b=some o->s.heap.get? b=some o/\H b=none
 bsz:base.objs.size<=s.heap.objs.size
 funs:s.heap.FunFrames base outer
 frf: ∀ b∈frs outer,H b=none
 hok:HOk P w H s.heap
 bare:AllBare s.gens
 qd:Qd A H
noncomputable def CE (outer:List Env)(P:Program)(w:World)(H:Hp)(s:Shared)(Q:VK)(u:Value)(s':Shared):Prop:=
 ∃ v H',s'.os=s.os/\AllBare s'.gens/\Un (frs outer) [] H H' s.heap s'.heap/\HOk P w H' s'.heap/\ZO v u/\Q v H'
noncomputable def CR (CX:CXT)(outer:List Env)(P:Program)(w:World)(H:Hp)(s:Shared)(Q:VK)(E:XK)(r:Result)(s':Shared):Prop:=
 match r with
 | .ok (.ret u)=>CE outer P w H s Q u s'
 | .ok _=>False
 | .error e=>CX outer H s E e s'
structure FnOk (P:Program) (w:World) (K:PySem.W.Frag) (mg:Str->Option Value) (base:Heap) (CX:CXT) (k:Nat) (f:Addr) (fd:FuncData) (ps:List Str) (sp:Sp):Prop where
 len: ∀ vs H Q E,sp vs H Q E->vs.length=ps.length
 run: ∀ (A:Around) (outer:List Env) (s:Shared) (H:Hp) (args:Args) (us:List Value) (vs:List V) (Q:VK) (E:XK),Room k A->Env0 P w K mg base A outer s H->BindsTo s fd args (ps.zip us)->ZB vs us->sp vs H Q E->
  codeAny (model P w) A (.call (.ref f) args) (CR CX outer P w H s Q E) s
section
variable {X:Cx}{pins:List (Addr × Obj)}{σ:St}{H:Hp}{s s':Shared}
theorem Inv.env0 (I:Inv X pins σ H s):Env0 X.prog X.w X.K X.mg X.base X.A X.stack s H:=
 ⟨I.ok.frames,I.ok.mod,I.bs,Nat.le_trans I.ok.bsz I.sz,I.stack,I.stkFree,I.hok,I.bare,I.qd⟩
theorem Inv.after {Q:VK}{u:Value}(I:Inv X pins σ H s)(h:CE X.stack X.prog X.w H s Q u s'):EP X pins σ Q u s':=by
 obtain ⟨v,H',os,bare,un,hok,r,q⟩:=h
 obtain ⟨hh,g,d,t,os'⟩:=s'
 obtain rfl:os'=s.os:=os
 exact ⟨v,H',I.call (h':=hh) (g':=g) (d':=d) (t':=t) (ch:=[]) un hok bare (fun b z=>absurd z (by simp)),r,q⟩
end
noncomputable def ZlP (sp:Sp)(dvs:List V)(E:XK)(t:TA):TE:=fun σ H Q=>t σ H fun vs H1=>sp (vs ++ dvs) H1 Q E
noncomputable def ZcO (K:PySem.W.Frag)(fd:FuncData)(ps:List Str)(ds:List Value):Prop:=
 ∀ (s:Shared) (us:List Value),K.In s.heap->(us ++ ds).length=ps.length->BindsTo s fd ⟨us,[]⟩ (ps.zip (us ++ ds))
theorem ZcO.all {K:PySem.W.Frag}{fd:FuncData}{ps:List Str}(h: ∀ us:List Value,us.length=ps.length->bindArgs fd ⟨us,[]⟩=pure (ps.zip us)):ZcO K fd ps []:=fun s us _ hl=>by
 rw[List.append_nil] at hl ⊢;exact .of_eq (h us hl)
noncomputable def Zei (CX:CXT)(X:Cx)(E:XK):Prop:= ∀ (pins:List (Addr × Obj)) (σ:St) (H:Hp) (s:Shared) (e:Value) (s':Shared),Inv X pins σ H s->CX X.stack H s E e s'->X.xe e s'
section
variable {X:Cx}{CX:CXT}{k:Nat}{f C:Addr}{fd:FuncData}{ps:List Str}{sp:Sp}{dvs:List V}{ds:List Value}{E:XK}{x m:Str}{p pos apos:Pos}{e o:Expr}{es:List Expr}{ta:TE}{t:TA}
theorem ZiU {pins:List (Addr × Obj)}{σ:St}{H:Hp}{s:Shared}{Q:VK}{us:List Value}{vs:List V}(F:FnOk X.prog X.w X.K X.mg X.base CX k f fd ps sp)(hr:Room k X.A)(hb:ZcO X.K fd ps ds)(hd:ZB dvs ds)(hx:Zei CX X E)
  (I:Inv X pins σ H s) (r:ZB vs us) (h:sp (vs ++ dvs) H Q E):wpAny (model X.prog X.w) X.A (call (.ref f) us) (EP X pins σ Q) X.xe s:=by
 have r2:ZB (vs ++ dvs) (us ++ ds):=r.append hd
 have hl:(us ++ ds).length=ps.length:=by rw[<- r2.length];exact F.len _ _ _ _ h
 refine wpAny_call (codeAny_mono (F.run X.A X.stack s H ⟨us,[]⟩ (us ++ ds) (vs ++ dvs) Q E hr I.env0 (hb s us I.kIn hl) r2 h) fun r s' hq=> ?_)
 cases r with
 |error e=>exact hx pins σ H s e s' I hq
 |ok fl=>
  cases fl with
  |ret u=>exact I.after hq
  |next=>exact False.elim hq
  |brk=>exact False.elim hq
  |cont=>exact False.elim hq
theorem Zha (F:FnOk X.prog X.w X.K X.mg X.base CX k f fd ps sp)(hr:Room k X.A)(hg:Gl X x)(hm:X.mg x=some (.ref f))(hk:PySem.W.keepIn X.K (.ref f)=true)(hb:ZcO X.K fd ps ds)(hd:ZB dvs ds)(hx:Zei CX X E)
  (ha:PA X (e :: es) t) (hdb:(x == ("__debug__":Str))=false:=by decide) (he:starEach (e :: es) X.env=(false,eval e X.env) :: starEach es X.env:=by rfl) (hpl:(backTo pos (starEach es X.env)).any (·.1)=false:=by rfl):
  PE X (.Call (.Name x p) (e :: es) [] pos) (ZlP sp dvs E t):=by
 intro pins s σ H Q I h;refine wpAny_Call_Name_kw (Zeb I hg hm ?_ hdb)
 refine PySem.W.callWith_K (h₀:=X.base) I.ok.mod.kin hk (thn (ha pos pins s σ H _ I h) fun us s1 ⟨vs,H1,I1,r,q⟩=>⟨I1.kIn,?_⟩) he hpl
 exact ZiU F hr hb hd hx I1 r q
end
section
variable {X:Cx}{CX:CXT}{k:Nat}{f C:Addr}{fd:FuncData}{ps ks:List Str}{sp:Sp}{E:XK}{x m:Str}{p pos apos kpos:Pos}{e o:Expr}{es:List Expr}{kws:List Keyword}{te ta:TE}{t tk:TA}{nm:Option Str}
variable {g:List Value->List Value->List Value}{gV:List V->List V->List V}
end
structure FnScope (N P:List Str) (sc:Scope):Prop where
 kind:sc.kind= .function
 co:sc.isCoroutine=false
 gen:sc.isGenerator=false
 nd:N.Nodup
 pre:N.take P.length=P
 par: ∀ x∈P,sc.names.lookup x=some .local\/sc.names.lookup x=some .cell
 nofree: ∀ y∈sc.names,y.2≠ .free
theorem Zb9 {kindOf:Str->Option NameKind}{x:Str}: ∀ {binds:List (Str × Value)} {m:Str->Option Value},(∀ v,(x,v) ∉ binds)->bindL kindOf binds m x=m x
 | [],_,_=>rfl
 | (n,v) :: r,m,h=>by
  unfold bindL;rw[Zb9 fun w hw=>h w (List.mem_cons_of_mem _ hw)]
  split
  ·have:x≠n:=by rintro rfl;exact h v List.mem_cons_self
   simp[this]
  ·rfl
theorem Zca {kindOf:Str->Option NameKind}{x:Str}: ∀ {binds:List (Str × Value)} {m:Str->Option Value},(∀ v,(x,v) ∉ binds)->bindC kindOf binds m x=m x
 | [],_,_=>rfl
 | (n,v) :: r,m,h=>by
  unfold bindC;rw[Zca fun w hw=>h w (List.mem_cons_of_mem _ hw)]
  split
  ·rfl
  ·have:x≠n:=by rintro rfl;exact h v List.mem_cons_self
   simp[this]
theorem Zcb {kindOf:Str->Option NameKind}{x:Str}{v:Value}: ∀ {P:List Str} {vs:List Value} {i:Nat} {m:Str->Option Value},P.Nodup->P[i]?=some x->vs[i]?=some v->kindOf x=some .local->
  bindL kindOf (P.zip vs) m x=some v
 | [],_,_,_,_,h,_,_=>by simp at h
 |_ :: _,[],_,_,_,_,h,_=>by simp at h
 |p :: P,w :: vs,0,m,nd,h1,h2,hk=>by
  simp at h1 h2;subst h1;subst h2
  show bindL kindOf ((p,w) :: P.zip vs) m p=_
  unfold bindL;rw[Zb9 fun v hv=>(List.nodup_cons.mp nd).1 (List.of_mem_zip hv).1,if_pos hk]
  simp
 |p :: P,w :: vs,i + 1,m,nd,h1,h2,hk=>by
  show bindL kindOf ((p,w) :: P.zip vs) m x=_
  unfold bindL;exact Zcb (i:=i) (List.nodup_cons.mp nd).2 (by simpa using h1) (by simpa using h2) hk
theorem Zcc {kindOf:Str->Option NameKind}{x:Str}{v:Value}: ∀ {P:List Str} {vs:List Value} {i:Nat} {m:Str->Option Value},P.Nodup->P[i]?=some x->vs[i]?=some v->kindOf x≠some .local->
  bindC kindOf (P.zip vs) m x=some v
 | [],_,_,_,_,h,_,_=>by simp at h
 |_ :: _,[],_,_,_,_,h,_=>by simp at h
 |p :: P,w :: vs,0,m,nd,h1,h2,hk=>by
  simp at h1 h2;subst h1;subst h2
  show bindC kindOf ((p,w) :: P.zip vs) m p=_
  unfold bindC;rw[Zca fun v hv=>(List.nodup_cons.mp nd).1 (List.of_mem_zip hv).1,if_neg hk]
  simp
 |p :: P,w :: vs,i + 1,m,nd,h1,h2,hk=>by
  show bindC kindOf ((p,w) :: P.zip vs) m x=_
  unfold bindC;exact Zcc (i:=i) (List.nodup_cons.mp nd).2 (by simpa using h1) (by simpa using h2) hk
noncomputable def start (N:List Str)(vs:List V):St:=vs.map some ++ List.replicate (N.length - vs.length) none
noncomputable def ZfB (CX:CXT)(P:Program)(w:World)(K:PySem.W.Frag)(mg:Str->Option Value)(base:Heap)(N:List Str)(qual:Str)(scope:Scope)(f:Addr)(cd:Value)(A:Around)(outer:List Env)(s:Shared)(H:Hp)(E:XK):Cx where
 prog:=P
 w:=w
 K:=K
 mg:=mg
 base:=base
 A:=A.deeper (envOfC qual scope s.heap.objs.size f cd)
 N:=N
 s₀:=s
 H₀:=H
 env:=envOfC qual scope s.heap.objs.size f cd
 outer:=outer
 stack:=envOfC qual scope s.heap.objs.size f cd :: outer
 ex:=[]
 calm:=A.handled.isNone
 fxs:=none
 fn:=fun _=>true
 pn:=[]
 xe:=fun e s'=>wpAny (model P w) (A.deeper (envOfC qual scope s.heap.objs.size f cd)) (leaving (envOfC qual scope s.heap.objs.size f cd) e) (fun _ s''=>CX outer H s E e s'') (fun e' s''=>CX outer H s E e' s'') s'
theorem Zda {sc:Scope}{n:Nat}{x:Str}(h:sc.names.lookup x=some .cell): ∃ c,(cellsFrom n sc.names []).lookup x=some c:=by
 have q:=PySem.W.cellsFrom_some sc.names n [] (.inl h)
 exact Option.isSome_iff_exists.mp q
theorem Zej {CX:CXT}{P:Program}{w:World}{K:PySem.W.Frag}{mg:Str->Option Value}{base:Heap}{N ps:List Str}{qual:Str}{scope:Scope}{f:Addr}{cd:Value}{A:Around}{outer:List Env}{s s1:Shared}{H:Hp}{E:XK}{us:List Value}{vs:List V}
  (S:FnScope N ps scope) (e0:Env0 P w K mg base A outer s H) (hl:vs.length=ps.length) (r:ZB vs us)
  (x:InCallC s s.heap.objs.size (bindL (envOfC qual scope s.heap.objs.size f cd).kindOf (ps.zip us) fun _=>none) (cellsFrom (s.heap.objs.size + 1) scope.names []) (bindC (envOfC qual scope s.heap.objs.size f cd).kindOf (ps.zip us) fun _=>none) s1):
  Inv (ZfB CX P w K mg base N qual scope f cd A outer s H E) [] (start N vs) H s1:=by
 have hpl:ps.length<=N.length:=by have:=congrArg List.length S.pre;rw[List.length_take] at this;omega
 obtain ⟨h1,tk,rfl,hk⟩:=x.done
 have noA: ∀ b:Addr,b ∉ (ZfB CX P w K mg base N qual scope f cd A outer s H E).ex:=fun b z=>absurd (show b∈([]:List Addr) from z) (by simp)
 refine ⟨⟨e0.mod,S.kind,rfl,rfl,Nat.le_refl _,fun y z c h1 h2=> ?_,fun y hy=> ?_,fun y c _ h=> ?_,fun z=>Option.isNone_iff_eq_none.mp z,Around.frames_deeper e0.frames,.inr ⟨rfl,rfl⟩,fun b z=>absurd z (noA b),e0.bs,e0.bsz,fun b _ _=>noA b,fun b z=>absurd z (noA b),e0.funs,e0.frf⟩,
  rfl,e0.bare,Un.kept hk,⟨_,x.toInCall.ns,fun i y v h1 h2 h3=> ?_⟩,fun y c h=>⟨_,x.cell y c h⟩,e0.hok.fresh (Nat.le_refl _),fun y c h=> ?_,fun p hp=>absurd (show p∈([]:List (Addr × Obj)) from hp) (by simp),e0.hok.kept hk,?_,e0.qd,.free rfl⟩
 ·exact name_of_addr x.apart (PySem.mem_of_lookup h1) (PySem.mem_of_lookup h2)
 ·have hy:scope.names.lookup y=some .cell\/scope.names.lookup y=some .free:=hy
  rcases hy with hy | hy
  ·exact Zda hy
  ·exact absurd rfl (S.nofree _ (PySem.mem_of_lookup hy))
 ·exact Nat.le_of_lt (x.above y c (PySem.mem_of_lookup h))
 ·have hi:i < vs.length:=by
   unfold start at h2
   by_cases hi:i < vs.length
   ·exact hi
   ·rw[List.getElem?_append_right (by simpa using hi)] at h2
    rw[List.getElem?_replicate] at h2
    split at h2<;>cases h2
  have ha:vs[i]?=some v:=by
   unfold start at h2;rw[List.getElem?_append_left (by simpa using hi),List.getElem?_map] at h2
   cases e:vs[i]? with
   |none=>rw[e] at h2;cases h2
   |some a=>rw[e] at h2;cases h2;rfl
  obtain ⟨u,hu,rv⟩:=r.get ha
  have hp:ps[i]?=some y:=by
   rw[<- S.pre,List.getElem?_take_of_lt (by omega)];exact h1
  have ndP:ps.Nodup:=by rw[<- S.pre];exact S.nd.sublist (List.take_sublist _ _)
  refine ⟨u,rv,?_⟩
  rcases S.par y (List.mem_of_getElem? hp) with k | k
  ·exact .inl ⟨k,Zcb ndP hp hu k⟩
  ·obtain ⟨c,e⟩:=Zda (n:=s.heap.objs.size + 1) k
   refine .inr ⟨.inl k,c,e,?_⟩
   have q:=x.cell y c e
   rw[Zcc ndP hp hu (by show scope.names.lookup y≠_;rw[k];decide)] at q
   exact q
 ·exact e0.hok.fresh (Nat.le_of_lt (x.above y c (PySem.mem_of_lookup h)))
 ·unfold start
  show _=N.length
  rw[List.length_append,List.length_map,List.length_replicate];omega
theorem ZlQ {CX:CXT}{P:Program}{w:World}{K:PySem.W.Frag}{mg:Str->Option Value}{base:Heap}{k:Nat}{f:Addr}{name qual:Str}{params:Arguments}{body:List Stmt}{scope:Scope}{dV kV doc pm cdv ct oc:Value}{an od:Option Addr}
  {osl:Array (Option Value)} {N ps:List Str} {sp:Sp} (lk:K.lookup f=some ⟨oc,od,.func (PySem.W.fnOf name qual params body scope dV kV doc pm an cdv ct),osl⟩) (hcd:PySem.W.codeIn K cdv qual=true) (S:FnScope N ps scope)
  (len: ∀ vs H Q E,sp vs H Q E->vs.length=ps.length)
  (hbody: ∀ (A:Around) (outer:List Env) (s:Shared) (H:Hp) (vs:List V) (Q:VK) (E:XK),Room k (A.deeper (envOfC qual scope s.heap.objs.size f cdv))->sp vs H Q E->
   ∃ t,PSs (ZfB CX P w K mg base N qual scope f cdv A outer s H E) body t/\t { nx:=fun _ H'=>Q .non H',rt:=Q } (start N vs) H):
  FnOk P w K mg base CX (k + 1) f (PySem.W.fnOf name qual params body scope dV kV doc pm an cdv ct) ps sp:=by
 refine ⟨len,fun A outer s H args us vs Q E hr e0 hb r hsp=> ?_⟩
 have hl:=len _ _ _ _ hsp
 have KX:K.In s.heap:=e0.mod.kin.keeps fun b o e=>(e0.bs b o e).1
 have lim:s.heap.NoLimit:=e0.mod.nolimit.keeps fun b o e=>(e0.bs b o e).1
 have hkind: ∀ y∈ps.zip us,scope.names.lookup y.1=some .local\/(scope.names.lookup y.1=some .cell/\((cellsFrom (s.heap.objs.size + 1) scope.names []).lookup y.1).isSome=true):=fun ⟨n,v⟩ hy=>by
  rcases S.par n (List.of_mem_zip hy).1 with q | q
  ·exact .inl q
  ·exact .inr ⟨q,PySem.W.cellsFrom_some _ _ _ (.inl q)⟩
 refine codeAny_call_function hr.depth (KX _ _ lk) rfl S.co S.gen rfl (PySem.W.codeRec_of KX hcd) (hb _ _ _ _ ?_)
 refine wpAny_newFunctionEnv_cells S.kind hkind fun env he s1 x=> ?_
 subst he;refine ⟨lim.keeps x.toInCall.keep,codeAny_func ?_⟩
 obtain ⟨t,ht,hq⟩:=hbody A outer s H vs Q E (hr.deeper _) hsp
 have I:Inv (ZfB CX P w K mg base N qual scope f cdv A outer s H E) [] (start N vs) H s1:=Zej S e0 hl r x
 refine wpAny_mono (ht [] s1 (start N vs) H _ I hq) (fun fl s' hs=> ?_) fun e s' hs=>hs
 have fin: ∀ {σ':St} {H':Hp} {v:V} {u:Value},Inv (ZfB CX P w K mg base N qual scope f cdv A outer s H E) [] σ' H' s'->ZO v u->Q v H'->CE outer P w H s Q u s':=
  fun {σ' H' v u} J rv q=>⟨v,H',J.os,J.bare,J.base,J.hok,rv,q⟩
 cases fl with
 |ret u=>
  obtain ⟨v,σ',H',J,rv,q⟩:=hs
  exact fin J rv q
 |next=>
  obtain ⟨σ',H',J,q⟩:=hs
  exact fin (v:=V.non) (u:=Value.none) J rfl q
 |brk=>
  obtain ⟨_,_,_,q⟩:=hs
  exact False.elim q
 |cont=>
  obtain ⟨_,_,_,q⟩:=hs
  exact False.elim q
end L2
namespace L2
open PySem PySem.Spec PyProof.Rows
section
variable {X:Cx}{x:Str}{p pos:Pos}{e:Expr}{es:List Expr}{t:TA}{id T:String}{r:List V->Hp->VK->Prop}
noncomputable def tCB (r:List V->Hp->VK->Prop)(t:TA):TE:=fun σ H Q=>t σ H fun vs H1=>r vs H1 Q
theorem Zdb (hc:Zau X (.builtin id) r)(hg:Gl X x)(hm:X.mg x=none)(hv:bootBuiltins x=some (.builtin id))(ha:PA X (e :: es) t)(hn:x≠"__name__":=by decide)(hdb:(x == ("__debug__":Str))=false:=by decide)
  (he:starEach (e :: es) X.env=(false,eval e X.env) :: starEach es X.env:=by rfl) (hpl:(backTo pos (starEach es X.env)).any (·.1)=false:=by rfl):PE X (.Call (.Name x p) (e :: es) [] pos) (tCB r t):=by
 intro pins s σ H Q I h;refine wpAny_Call_Name_kw (Zc8 I hg hm hv ?_ hn hdb)
 exact PyProof.Rows.callWith_builtin1 (thn (ha pos pins s σ H _ I h) fun us s1 ⟨vs,H1,I1,r1,q1⟩=>hc pins s1 σ H1 vs us Q I1 r1 q1) he hpl
theorem Zek (hc:Zau X (.type T) r)(hg:Gl X x)(hm:X.mg x=none)(hv:bootBuiltins x=some (.type T))(ha:PA X (e :: es) t)(hn:x≠"__name__":=by decide)(hdb:(x == ("__debug__":Str))=false:=by decide)
  (he:starEach (e :: es) X.env=(false,eval e X.env) :: starEach es X.env:=by rfl) (hpl:(backTo pos (starEach es X.env)).any (·.1)=false:=by rfl):PE X (.Call (.Name x p) (e :: es) [] pos) (tCB r t):=by
 intro pins s σ H Q I h;refine wpAny_Call_Name_kw (Zc8 I hg hm hv ?_ hn hdb)
 exact PyProof.Rows.callWith_type1 (thn (ha pos pins s σ H _ I h) fun us s1 ⟨vs,H1,I1,r1,q1⟩=>hc pins s1 σ H1 vs us Q I1 r1 q1) he hpl
end
end L2
namespace HT
open PySem PyProof.Rows
noncomputable def ZiV:List Int->List Int->Bool
 | [],[]=>false
 | [],_ :: _=>true
 |_ :: _,[]=>false
 |x :: xs,y :: ys=>if x=y then ZiV xs ys else decide (x < y)
section
open PySem.SeqAt
open PySem.AutoSeq1 (wpAny_loadPart')
open PySem.MeetsSeq PySem.MeetsSeq2 PySem.MeetsSeq3
end
section
variable {prog:Program}{w:World}{A:Around}{E:Value->Shared->Prop}{s:Shared}
theorem Zhb {t b:Addr}{vs ws:List Value}{Q:Value->Shared->Prop}(ht:IsTup s.heap t vs.toArray)(hb:IsTup s.heap b ws.toArray)(hv:vs≠[])
  (h1:ws=[]->Q (.ref t) s) (h2:ws≠[]->Q (.ref s.heap.objs.size) { s with heap:=s.heap.push { cls:= .type "tuple",data:= .seq (vs ++ ws).toArray } })
  (hsz:vs.length + ws.length<=sizeLine):wpAny (model prog w) A (binaryOp .Add (.ref t) (.ref b)) Q E s:=by
 obtain ⟨⟨cls,dd,data,sl⟩,ho,hc,n,hd⟩:=id ht
 obtain ⟨⟨cls2,dd2,data2,sl2⟩,ho2,hc2,n2,hd2⟩:=id hb
 simp only at hc hd hc2 hd2
 subst hc hd hc2 hd2;have e:vs.toArray ++ ws.toArray=(vs ++ ws).toArray:=by simp
 by_cases hw:ws=[]
 ·exact concat_meets ⟨_,ho,rfl⟩ ⟨_,ho2,rfl⟩ noFill_tuple_add seq_tuple_add PySem.F.slot_tuple_add PySem.F.entry_tuple_add (PySem.F.args_tuple_add_2 _ _)
   (tuple_addW1 t b vs.toArray ws.toArray n n2 dd dd2 sl sl2 (by simpa using hv) (by simp[hw])) ⟨ho,ho2,h1 hw⟩
 ·refine concat_meets ⟨_,ho,rfl⟩ ⟨_,ho2,rfl⟩ noFill_tuple_add seq_tuple_add PySem.F.slot_tuple_add PySem.F.entry_tuple_add (PySem.F.args_tuple_add_2 _ _)
   (tuple_addW2 t b vs.toArray ws.toArray n n2 dd dd2 sl sl2 (by simpa using hv) (by simpa using hw) (by rw[List.size_toArray,List.size_toArray];exact hsz)) ⟨ho,ho2,?_⟩
  rw[e];exact h2 hw
noncomputable def sIx (n d:Nat):Option Int->Nat
 |none=>d
 |some v=>if v < 0 then (v + (n:Int)).toNat else min v.toNat n
end
end HT
namespace L2
open PySem PySem.Spec PyProof.Rows
noncomputable abbrev TO:=St->Hp->(Option Int->Hp->Prop)->Prop
noncomputable def PO (X:Cx)(e:Option Expr)(t:TO):Prop:=
 ∀ (pins:List (Addr × Obj)) (s:Shared) (σ:St) (H:Hp) (Q:Option Int->Hp->Prop),Inv X pins σ H s->t σ H Q->
  wpAny (model X.prog X.w) X.A (evalPart e X.env) (fun u s'=> ∃ o H',Inv X pins σ H' s'/\IsPart u o/\Q o H') X.xe s
noncomputable def tNoPart:TO:=fun _ H Q=>Q none H
noncomputable def ZlR (t:TE):TO:=fun σ H Q=>t σ H fun x H1=> ∃ i,x= .int i/\Q (some i) H1
section
variable {X:Cx}{e:Expr}{te:TE}{lo hi:Option Expr}{tl th:TO}{pos p2:Pos}
theorem Zhc:PO X none tNoPart:=by
 intro pins s σ H Q I h;rw[evalPart_none];exact wpAny_pure ⟨none,H,I,.none,h⟩
theorem Zhd (h:PE X e te):PO X (some e) (ZlR te):=by
 intro pins s σ H Q I hw;rw[evalPart_some];refine thn (h pins s σ H _ I hw) fun u s1 ⟨x,H1,I1,r1,q1⟩=> ?_
 obtain ⟨i,rfl,q⟩:=q1
 obtain ⟨t,rfl⟩:=r1
 exact ⟨some i,H1,I1,.int i t,q⟩
noncomputable def SlR (X:Cx)(r:V->Option Int->Option Int->Hp->VK->Prop):Prop:=
 ∀ (pins:List (Addr × Obj)) (s:Shared) (σ:St) (H:Hp) (x:V) (v vl vu:Value) (lo hi:Option Int) (sl:Addr) (Q:VK),Inv X pins σ H s->ZO x v->s.heap.IsSliceOf sl vl vu .none->IsPart vl lo->IsPart vu hi->r x lo hi H Q->
  ∃ T id,typeLookup (.type T) "__getitem__"=pure (some (.builtin id))/\s.TypeIs v T/\wpAny (model X.prog X.w) X.A (getItem v (.ref sl)) (EP X pins σ Q) X.xe s
noncomputable def tSl (r:V->Option Int->Option Int->Hp->VK->Prop)(te:TE)(tl th:TO):TE:=fun σ H Q=>te σ H fun x H1=>tl σ H1 fun l H2=>th σ H2 fun u H3=>r x l u H3 Q
theorem ZfO {r:V->Option Int->Option Int->Hp->VK->Prop}(hr:SlR X r)(he:PE X e te)(hl:PO X lo tl)(hu:PO X hi th):PE X (.Subscript e (.Slice lo hi none p2) pos) (tSl r te tl th):=by
 intro pins s σ H Q I h;refine Subscript_ (thn (he pins s σ H _ I h) fun v s1 ⟨x,H1,I1,r1,q1⟩=> ?_)
 refine wpAny_Slice (thn (hl pins s1 σ H1 _ I1 q1) fun vl s2 ⟨l,H2,I2,pl,q2⟩=>thn (hu pins s2 σ H2 _ I2 q2) fun vu s3 ⟨u,H3,I3,pu,q3⟩=> ?_)
 rw[evalPart_none];refine wpAny_pure ?_
 have I4:Inv X pins σ H3 { s3 with heap:=s3.heap.push { cls:= .type "slice",data:= .fields #[vl,vu,.none] } }:=I3.kept (t':=s3.toks) fun b ob q=>Heap.get?_push_of_some _ q
 obtain ⟨T,id,hT,ht,hg⟩:=hr pins { s3 with heap:=s3.heap.push { cls:= .type "slice",data:= .fields #[vl,vu,.none] } } σ H3 x v vl vu l u s3.heap.objs.size Q I4 r1 (Heap.IsSliceOf.new ..) pl pu q3
 show wpAny (model X.prog X.w) X.A (subscriptTail e (.Slice lo hi none p2) v (.ref s3.heap.objs.size)) (EP X pins σ Q) X.xe { s3 with heap:=s3.heap.push { cls:= .type "slice",data:= .fields #[vl,vu,.none] } }
 exact tail_any (ops:=[.ref s3.heap.objs.size,v]) ht hT hg (by with_unfolding_all rfl)
noncomputable def Zlo (xs:List V)(lo hi:Option Int):List V:=(xs.drop (HT.sIx xs.length 0 lo)).take (HT.sIx xs.length xs.length hi - HT.sIx xs.length 0 lo)
theorem ZcP (xs:List V)(lo hi:Option Int):(Zlo xs lo hi).length<=xs.length:=by
 unfold Zlo;rw[List.length_take,List.length_drop];omega
noncomputable def Zhe (K:PySem.W.Frag):R2:=fun x y H Q=> ∃ a b xs ys,x= .ref a/\y= .ref b/\SqT K H a xs/\SqT K H b ys/\xs≠[]/\xs.length + ys.length<=sizeLine/\
 (ys=[]->Q (.ref a) H)/\(ys≠[]-> ∀ p,H p=none->Q (.ref p) (upd H p (.tup (xs ++ ys))))
theorem ZB.nil_iff {xs:List V}{us:List Value}(r:ZB xs us):us=[] ↔ xs=[]:=by
 cases r with
 |nil=>simp
 |cons _ _=>simp
theorem Zhf:OpR X (binaryOp .Add) (Zhe X.K):=by
 intro pins s σ H x y v u Q I rx ry h;obtain ⟨a,b,xs,ys,rfl,rfl,ha,hb,hx,hz,q1,q2⟩:=h
 cases rx
 cases ry
 obtain ⟨its,r1,p1,_⟩:=I.tuple ha
 obtain ⟨its2,r2,p2,_⟩:=I.tuple hb
 refine HT.Zhb p1 p2 (fun z=>hx (r1.nil_iff.mp z)) (fun z=>⟨.ref a,H,I,rfl,q1 (r2.nil_iff.mp z)⟩) (fun z=> ?_) (by rw[<- r1.length,<- r2.length];exact hz)
 refine ⟨.ref s.heap.objs.size,_,I.laid (t':=s.toks) (o:= .tup (xs ++ ys)) (fun b ob q=>Heap.get?_push_of_some _ q) (Nat.le_refl _) ?_,rfl,q2 (fun w=>z (r2.nil_iff.mpr w)) _ (I.hok.fresh (Nat.le_refl _))⟩
 exact ⟨by rw[List.length_append];exact hz,_,r1.append r2,IsTup.new _ _⟩
end
end L2
namespace L2
open PySem PySem.Spec PyProof.Rows
noncomputable def ixN (n:Nat)(i:Int):Option Nat:=if 0<=i then (if i < n then some i.toNat else none) else if -(n:Int)<=i then some (i + n).toNat else none
noncomputable def atI {α:Type}(xs:List α)(i:Int):Option α:=(ixN xs.length i).bind fun j=>xs[j]?
theorem Zel {n:Nat}{i:Int}{j:Nat}(h:ixN n i=some j):seqIndex? i n=some j/\j < n/\ -(n:Int)<=i/\i < n:=by
 unfold ixN at h
 by_cases h0:0<=i
 ·rw[if_pos h0] at h
  by_cases h1:i < n
  ·rw[if_pos h1] at h
   have e:i.toNat=j:=Option.some.inj h
   exact ⟨by rw[seqIndex_of h0 h1,e],by omega,by omega,h1⟩
  ·rw[if_neg h1] at h;cases h
 ·rw[if_neg h0] at h
  by_cases h1: -(n:Int)<=i
  ·rw[if_pos h1] at h
   have e:(i + n).toNat=j:=Option.some.inj h
   exact ⟨by rw[seqIndex_neg (by omega) h1,e],by omega,h1,by omega⟩
  ·rw[if_neg h1] at h;cases h
theorem Zem {α:Type}{xs:List α}{i:Int}{v:α}(h:atI xs i=some v): ∃ j,seqIndex? i xs.length=some j/\xs[j]?=some v/\j < xs.length/\ -(xs.length:Int)<=i/\i < xs.length:=by
 unfold atI at h;cases e:ixN xs.length i with
 |none=>rw[e] at h;cases h
 |some j=>
  rw[e] at h;obtain ⟨h1,h2,h3,h4⟩:=Zel e
  exact ⟨j,h1,h,h2,h3,h4⟩
theorem Zhg {α:Type}{xs:List α}{j:Nat}{v:α}(h:xs[j]?=some v):atI xs (j:Int)=some v:=by
 have hj:j < xs.length:=(List.getElem?_eq_some_iff.mp h).1
 have e:ixN xs.length (j:Int)=some j:=by
  unfold ixN;rw[if_pos (by omega),if_pos (by omega)];simp
 unfold atI;rw[e];exact h
noncomputable def Zen (b:Expr):Prop:= ∀ o i,subscripted b false o i=operate [o,i] (getItem o i)
noncomputable def IxR (X:Cx)(r:R2):Prop:=
 ∀ (value slice:Expr) (pins:List (Addr × Obj)) (s:Shared) (σ:St) (H:Hp) (x y:V) (v u:Value) (Q:VK),Inv X pins σ H s->ZO x v->ZO y u->r x y H Q->
  subscripted slice false v u=operate [v,u] (getItem v u)->wpAny (model X.prog X.w) X.A (subscriptTail value slice v u) (EP X pins σ Q) X.xe s
noncomputable def MtR (X:Cx)(id:String)(r:V->List V->Hp->VK->Prop):Prop:=
 ∀ (pins:List (Addr × Obj)) (s:Shared) (σ:St) (H:Hp) (x:V) (xs:List V) (v:Value) (us:List Value) (Q:VK),Inv X pins σ H s->ZO x v->ZB xs us->r x xs H Q->
  wpAny (model X.prog X.w) X.A (call (.builtin id) (v :: us)) (EP X pins σ Q) X.xe s
section
variable {X:Cx}{a b:Expr}{ta tb:TE}{pos:Pos}
theorem IxR.or {r r':R2}(h:IxR X r)(h':IxR X r'):IxR X (fun x y H Q=>r x y H Q\/r' x y H Q):=by
 intro value slice pins s σ H x y v u Q I rx ry q hs
 rcases q with q | q
 ·exact h value slice pins s σ H x y v u Q I rx ry q hs
 ·exact h' value slice pins s σ H x y v u Q I rx ry q hs
theorem ZlS {r:R2}(hr:IxR X r)(ha:PE X a ta)(hb:PE X b tb)(hs:Zen b):PE X (.Subscript a b pos) (tOp r ta tb):=by
 intro pins s σ H Q I h;exact Subscript_ (Zln ha hb I h fun v u s2 x y H2 I2 rx ry q=>hr a b pins s2 σ H2 x y v u Q I2 rx ry q (hs _ _))
noncomputable def ZnH (K:PySem.W.Frag):R2:=fun x y H Q=> ∃ p xs i v,x= .ref p/\y= .int i/\SqL K H p xs/\atI xs i=some v/\Q v H
noncomputable def ZnI (K:PySem.W.Frag):R2:=fun x y H Q=> ∃ p xs i v,x= .ref p/\y= .int i/\SqT K H p xs/\atI xs i=some v/\Q v H
theorem Zhh:IxR X (ZnH X.K):=by
 intro value slice pins s σ H x y v u Q I rx ry h hs;obtain ⟨p,xs,i,z,rfl,rfl,hq,he,q⟩:=h
 cases rx
 obtain ⟨t,rfl⟩:=ry
 obtain ⟨its,r,pl,hz⟩:=I.list hq
 obtain ⟨j,h1,h2,h3,h4,h5⟩:=Zem he
 obtain ⟨w,ew,rw'⟩:=r.get h2
 have hl:=r.length
 have hn:=Zb8
 have fin:EP X pins σ Q w s:=⟨z,H,I,rw',q⟩
 by_cases h0:0<=i
 ·have hj:i.toNat=j:=by
   rw[seqIndex_of h0 h5] at h1;exact Option.some.inj h1
  exact item_listR pl.isList h0 (by omega) (by rw[hj];simpa using ew) fin hs
 ·have hj:(i + (its.toArray.size:Int)).toNat=j:=by
   rw[seqIndex_neg (by omega) h4] at h1
   rw[List.size_toArray,<- hl];exact Option.some.inj h1
  exact subscriptTail_builtinR (x:=w) pl.isList.typeIs slot_list_getitem.lookup
   (wpAny_getItem_list_neg (Q:=fun r s'=>r=w/\EP X pins σ Q r s') pl.isList (by omega) (by rw[List.size_toArray]<;>omega) (by omega) (by rw[hj];simpa using ew) ⟨rfl,fin⟩) hs
theorem ZiW:IxR X (ZnI X.K):=by
 intro value slice pins s σ H x y v u Q I rx ry h hs;obtain ⟨p,xs,i,z,rfl,rfl,hq,he,q⟩:=h
 cases rx
 obtain ⟨t,rfl⟩:=ry
 obtain ⟨its,r,pl,hz⟩:=I.tuple hq
 obtain ⟨j,h1,h2,h3,h4,h5⟩:=Zem he
 obtain ⟨w,ew,rw'⟩:=r.get h2
 have hl:=r.length
 have hn:=Zb8
 have fin:EP X pins σ Q w s:=⟨z,H,I,rw',q⟩
 exact subscriptTail_builtinR (x:=w) pl.typeIs slot_tuple_getitem.lookup
  (getItem_tuple (j:=j) (Q:=fun r s'=>r=w/\EP X pins σ Q r s') pl (by omega) (by omega) (by rw[List.size_toArray,<- hl];exact h1) (by simpa using ew) ⟨rfl,fin⟩) hs
theorem ZdG (its:List Value)(n j:Nat)(u:Value):Obj.mapSeq (·.setIfInBounds j u) { cls:= .type "list",data:= .seq its.toArray n }={ cls:= .type "list",data:= .seq (its.set j u).toArray n }:=by
 simp[Obj.mapSeq]
theorem Inv.lst {pins:List (Addr × Obj)}{σ:St}{H:Hp}{s:Shared}{p:Addr}{xs:List V}(I:Inv X pins σ H s)(h:H p=some (.lst xs)):
  ∃ (its:List Value) (n:Nat),ZB xs its/\s.heap.get? p=some { cls:= .type "list",data:= .seq its.toArray n }/\xs.length<=sizeLine:=by
 obtain ⟨z,its,n,r,e⟩:=I.hok p _ h
 exact ⟨its,n,r,e,z⟩
theorem Inv.lstUpd {pins:List (Addr × Obj)}{σ:St}{H:Hp}{s:Shared}{p:Addr}{xs ys:List V}{its its':List Value}{n n':Nat}{f:Obj->Obj}(I:Inv X pins σ H s)(h:H p=some (.lst xs))
  (ho:s.heap.get? p=some { cls:= .type "list",data:= .seq its.toArray n }) (hf:f { cls:= .type "list",data:= .seq its.toArray n }={ cls:= .type "list",data:= .seq its'.toArray n' }) (r:ZB ys its') (hz:ys.length<=sizeLine) (t:Nat):
  Inv X pins σ (upd H p (.lst ys)) { s with heap:=s.heap.update p f,toks:=t }:=by
 have e:(s.heap.update p f).get? p=some { cls:= .type "list",data:= .seq its'.toArray n' }:=by
  rw[Heap.get?_update_self f ho (by rw[hf]<;>rfl),hf]
 refine I.write (x:=p) (e:=p) (by rw[h];trivial) (.inl rfl) (fun b u hb q=>(Heap.get?_update_other _ _ (Ne.symm hb)).trans q) ⟨_,e⟩ ?_
 exact ⟨hz,its',n',r,e⟩
noncomputable def rSetL:V->V->V->Hp->(Hp->Prop)->Prop:=fun o i v H Q=> ∃ p xs k j,o= .ref p/\i= .int k/\H p=some (.lst xs)/\ixN xs.length k=some j/\Q (upd H p (.lst (xs.set j v)))
theorem ZfP:ZnD X rSetL:=by
 intro pins s σ H o i v ov iv u Q I ro ri rv h;obtain ⟨p,xs,k,j,rfl,rfl,hp,hj,q⟩:=h
 cases ro
 obtain ⟨t,rfl⟩:=ri
 obtain ⟨its,n,r,ho,hz⟩:=I.lst hp
 obtain ⟨h1,h2,h3,h4⟩:=Zel hj
 have hl:=r.length
 have hn:=Zb8
 have I':Inv X pins σ (upd H p (.lst (xs.set j v))) { s with heap:=s.heap.update p (Obj.mapSeq (·.setIfInBounds j u)) }:=
  I.lstUpd hp ho (ZdG its n j u) (r.set rv j) (by rw[List.length_set];exact hz) s.toks
 by_cases h0:0<=k
 ·have hk:k.toNat=j:=by
   rw[seqIndex_of h0 h4] at h1;exact Option.some.inj h1
  exact PySem.W.ki_setAt ho h0 (by omega) (by rw[List.size_toArray,<- hl];exact h4) (by rw[hk];exact ⟨_,I',q⟩)
 ·have hk:(k + (its.toArray.size:Int)).toNat=j:=by
   rw[seqIndex_neg (by omega) h3] at h1
   rw[List.size_toArray,<- hl];exact Option.some.inj h1
  exact PySem.W.ki_setBack ho (by omega) (by rw[List.size_toArray,<- hl];exact h3) (by omega) (by rw[hk];exact ⟨_,I',q⟩)
theorem Zcd (lo hi:Option Int)(n:Nat):(sliceBounds lo hi none n).1=((HT.sIx n 0 lo:Nat):Int)/\(sliceBounds lo hi none n).2.1=((HT.sIx n n hi:Nat):Int)/\(sliceBounds lo hi none n).2.2=1:=by
 refine ⟨?_,?_,rfl⟩
 ·cases lo with
  |none=>simp[sliceBounds,HT.sIx]
  |some i=>
   simp only[sliceBounds,HT.sIx,Option.getD_none,show (1:Int) > 0 by decide,if_true]
   by_cases h:i < 0
   ·simp only[h,if_true]<;>omega
   ·simp only[h,if_false]<;>omega
 ·cases hi with
  |none=>simp[sliceBounds,HT.sIx]
  |some i=>
   simp only[sliceBounds,HT.sIx,Option.getD_none,show (1:Int) > 0 by decide,if_true]
   by_cases h:i < 0
   ·simp only[h,if_true]<;>omega
   ·simp only[h,if_false]<;>omega
theorem ZbK (its:List Value)(lo hi:Option Int):slicePick its.toArray lo hi none=((its.drop (HT.sIx its.length 0 lo)).take (HT.sIx its.length its.length hi - HT.sIx its.length 0 lo)).toArray:=by
 obtain ⟨h1,h2,h3⟩:=Zcd lo hi its.toArray.size
 unfold slicePick;rw[h1,h2,h3];simp only[sliceRange_one,pick_run,List.size_toArray]<;>rfl
noncomputable def ZoT (K:PySem.W.Frag):V->Option Int->Option Int->Hp->VK->Prop:=fun x lo hi H Q=> ∃ a xs,x= .ref a/\SqL K H a xs/\ ∀ p,H p=none->Q (.ref p) (upd H p (.lst (Zlo xs lo hi)))
theorem ZlT:SlR X (ZoT X.K):=by
 intro pins s σ H x v vl vu lo hi sl Q I rx hs pl pu h;obtain ⟨a,xs,rfl,hx,q⟩:=h
 cases rx
 obtain ⟨its,r,ht,hz⟩:=I.list hx
 have hlen:=r.length
 refine ⟨"list",_,slot_list_getitem.lookup,ht.isList.typeIs,?_⟩
 refine wpAny_getItem_list_slice ht.isList hs pl pu .none (by simp) ?_ (by rw[List.size_toArray]<;>omega)
 rw[ZbK,<- hlen];refine ⟨.ref s.heap.objs.size,_,I.laid (t':=s.toks) (o:= .lst (Zlo xs lo hi)) (fun b ob q=>Heap.get?_push_of_some _ q) (Nat.le_refl _) ?_,rfl,q _ (I.hok.fresh (Nat.le_refl _))⟩
 exact ⟨Nat.le_trans (ZcP xs lo hi) hz,_,0,(r.drop (HT.sIx xs.length 0 lo)).take (HT.sIx xs.length xs.length hi - HT.sIx xs.length 0 lo),Heap.get?_push_size _ rfl⟩
theorem Zv:Zau X (.builtin "len") (fun xs H Q=> ∃ p ys,xs=[.ref p]/\(SqL X.K H p ys\/SqT X.K H p ys)/\Q (.int ys.length) H):=by
 intro pins s σ H xs us Q I r h;obtain ⟨p,ys,rfl,hq,q⟩:=h
 obtain ⟨u,rfl,rx⟩:=ZaS r
 cases rx
 have hn:=Zb8
 rcases hq with hq | hq
 ·obtain ⟨its,r',pl,hz⟩:=I.list hq
  have hlen:=r'.length
  exact Calls.call_len_list pl.isList (by simp only[List.size_toArray]<;>omega) ⟨.int ys.length,H,I.tok _,⟨s.toks + 1,by rw[List.size_toArray,hlen]⟩,q⟩
 ·obtain ⟨its,r',pl,hz⟩:=I.tuple hq
  have hlen:=r'.length
  exact len_tuple pl (by simp only[List.size_toArray]<;>omega) ⟨.int ys.length,H,I.tok _,⟨s.toks + 1,by rw[List.size_toArray,hlen]⟩,q⟩
theorem Za3:Zau X (.builtin "len") (fun xs H Q=> ∃ z,xs=[.str z]/\z.length<=sizeLine/\Q (.int z.length) H):=by
 intro pins s σ H xs us Q I r h;obtain ⟨z,rfl,hz,q⟩:=h
 obtain ⟨u,rfl,t,rfl⟩:=ZaS r
 have hn:=Zb8
 exact len_str (by omega) ⟨.int z.length,H,I.tok _,⟨_,rfl⟩,q⟩
theorem Za4:Zau X (.type "list") (fun xs H Q=> ∃ p ys,xs=[.ref p]/\(SqL X.K H p ys\/SqT X.K H p ys)/\ ∀ l,H l=none->Q (.ref l) (upd H l (.lst ys))):=by
 intro pins s σ H xs us Q I r h;obtain ⟨p,ys,rfl,hq,q⟩:=h
 obtain ⟨u,rfl,rx⟩:=ZaS r
 cases rx
 have fin: ∀ (its:List Value),ZB ys its->ys.length<=sizeLine-> ∀ (h':Heap) (c':Nat),(∀ b o',s.heap.get? b=some o'->h'.get? b=some o')->
   h'.get? s.heap.objs.size=some { cls:= .type "list",dict:=none,data:= .seq its.toArray c',slots:= #[] }->EP X pins σ Q (.ref s.heap.objs.size) { s with heap:=h' }:=fun its r' hz h' c' kp e=>
  ⟨.ref s.heap.objs.size,_,I.laid (t':=s.toks) kp (Nat.le_refl _) (show ZaA X.prog X.w _ h' _ (.lst ys) from ⟨hz,its,c',r',e⟩),rfl,q _ (I.hok.fresh (Nat.le_refl _))⟩
 rcases hq with hq | hq
 ·obtain ⟨its,r',pl,hz⟩:=I.list hq
  have hlen:=r'.length
  obtain ⟨o,ho,hc,n,hd⟩:=pl.isList
  exact call_list_seq p (.inl rfl) ho hc hd (fun h' c' kp e=>fin its r' hz h' c' kp e) (by simp only[List.size_toArray]<;>omega)
 ·obtain ⟨its,r',pl,hz⟩:=I.tuple hq
  have hlen:=r'.length
  obtain ⟨o,ho,hc,n,hd⟩:=pl
  exact call_list_seq p (.inr rfl) ho hc hd (fun h' c' kp e=>fin its r' hz h' c' kp e) (by simp only[List.size_toArray]<;>omega)
theorem ZbL:Zau X (.type "tuple") (fun xs H Q=> ∃ p ys,xs=[.ref p]/\((SqL X.K H p ys/\ ∀ l,H l=none->Q (.ref l) (upd H l (.tup ys)))\/(SqT X.K H p ys/\Q (.ref p) H))):=by
 intro pins s σ H xs us Q I r h;obtain ⟨p,ys,rfl,h⟩:=h
 obtain ⟨u,rfl,rx⟩:=ZaS r
 cases rx
 rcases h with ⟨hq,q⟩ | ⟨hq,q⟩
 ·obtain ⟨its,r',pl,hz⟩:=I.list hq
  have hlen:=r'.length
  refine call_tuple_list pl.isList (fun h' kp=> ?_) (by simp only[List.size_toArray]<;>omega)
  have I1:Inv X pins σ H { s with heap:=h' }:=I.kept (t':=s.toks) kp
  have I2:Inv X pins σ (upd H h'.objs.size (.tup ys)) { s with heap:=h'.push { cls:= .type "tuple",data:= .seq its.toArray } }:=
   I1.laid (t':=s.toks) (fun b o e=>Heap.get?_push_of_some _ e) (Nat.le_refl _) (show ZaA X.prog X.w _ _ _ (.tup ys) from ⟨hz,its,r',IsTup.new _ _⟩)
  exact ⟨.ref h'.objs.size,_,I2,rfl,q _ (I1.hok.fresh (Nat.le_refl _))⟩
 ·obtain ⟨its,r',pl,hz⟩:=I.tuple hq
  exact call_tuple_same pl ⟨.ref p,H,I,rfl,q⟩
noncomputable def tyV (K:PySem.W.Frag)(T:String)(x:V)(H:Hp):Prop:=match x with
 | .str _=>T="str"
 | .int _=>T="int"
 | .ref p=>(T="list"/\ ∃ xs,SqL K H p xs)\/(T="tuple"/\ ∃ o,K.lookup p=some o/\o.cls= .type "tuple"/\o.dict=none)\/
   (T="dict"/\((∃ kvs,H p=some (.dK kvs))\/ ∃ kvs,H p=some (.dT kvs)))\/(T="set"/\ ∃ S n,H p=some (.set S n))
 |_=>False
theorem ZiX {pins:List (Addr × Obj)}{σ:St}{H:Hp}{s:Shared}{T:String}{x:V}{v:Value}(I:Inv X pins σ H s)(r:ZO x v)(ty:tyV X.K T x H):
  s.TypeIs v T/\ ∀ a,v= .ref a-> ∃ ob,s.heap.get? a=some ob/\ob.dict=none:=by
 cases x with
 |str z=>
  obtain ⟨t,rfl⟩:=r
  cases (show T="str" from ty)
  exact ⟨typeIs_str s z t,fun _ e=>nomatch e⟩
 |int i=>
  obtain ⟨t,rfl⟩:=r
  cases (show T="int" from ty)
  exact ⟨typeIs_int s i t,fun _ e=>nomatch e⟩
 |ref p=>
  cases r
  rcases ty with ⟨rfl,xs,hq⟩ | ⟨rfl,o,hk,hc,hd⟩ | ⟨rfl,hk⟩ | ⟨rfl,S,n,hk⟩
  ·obtain ⟨its,_,pl,_⟩:=I.list hq
   refine ⟨pl.isList.typeIs,fun a e=> ?_⟩
   cases e
   obtain ⟨o,n,e,c,hd,_⟩:=pl
   exact ⟨o,e,hd⟩
  ·refine ⟨⟨o,I.kIn p o hk,hc⟩,fun a e=> ?_⟩
   cases e
   exact ⟨o,I.kIn _ o hk,hd⟩
  ·have z: ∃ o,s.heap.get? p=some o/\o.ExactDict:=by
    rcases hk with ⟨kvs,hk⟩ | ⟨kvs,hk⟩
    ·obtain ⟨_,_,_,_,o,_,_,e,ex,_⟩:=I.hok p _ hk
     exact ⟨o,e,ex⟩
    ·obtain ⟨_,_,_,_,o,_,_,e,ex,_⟩:=I.hok p _ hk
     exact ⟨o,e,ex⟩
   obtain ⟨o,e,ex⟩:=z
   refine ⟨⟨o,e,ex.1⟩,fun a e2=> ?_⟩
   cases e2
   exact ⟨o,e,ex.2.1⟩
  ·obtain ⟨o,_,_,_,e,ex,_⟩:=I.hok p _ hk
   refine ⟨⟨o,e,ex.1⟩,fun a e2=> ?_⟩
   cases e2
   exact ⟨o,e,ex.2.1⟩
 |_=>exact False.elim ty
noncomputable def tBM (K:PySem.W.Frag)(T:String)(r:V->List V->Hp->VK->Prop)(to:TE)(t:TA):TE:=fun σ H Q=>to σ H fun x H1=>tyV K T x H1/\t σ H1 fun xs H2=>r x xs H2 Q
variable {o e:Expr}{es:List Expr}{to:TE}{t:TA}{name:Str}{apos cpos:Pos}{T id:String}{r:V->List V->Hp->VK->Prop}
theorem ZiY (pa:PlainAttrs T)(slot:Slot T name id)(hty:typeOf (.builtin id)=pure (.type "method_descriptor"))(hm:MtR X id r)(ho:PE X o to)(ha:PA X (e :: es) t)
  (hbase:attributeBase o name X.env (eval o X.env)=eval o X.env:=by rfl)
  (hfew:((backTo cpos (starEach (e :: es) X.env)).all (fun x=> !x.1) && (backToKw cpos (keywordEach [] X.env)).all (fun x=>x.1.isSome)
   && decide ((e :: es).length + ([]:List Keyword).length + (if ([]:List Keyword).isEmpty then 0 else 1) < 30))=true:=by rfl)
  (hline:(apos.endLine == cpos.line)=true:=by rfl) (hs:starEach (e :: es) X.env=(false,eval e X.env) :: starEach es X.env:=by rfl) (hplain:(backTo cpos (starEach es X.env)).any (·.1)=false:=by rfl):
  PE X (.Call (.Attribute o name apos) (e :: es) [] cpos) (tBM X.K T r to t):=by
 intro pins s σ H Q I h;refine wpAny_Call_method_late hbase hfew hline rfl (thn (ho pins s σ H _ I h) fun v s1 ⟨x,H1,I1,r1,ty,q1⟩=> ?_)
 obtain ⟨h1,h2⟩:=ZiX I1 r1 ty
 refine ⟨T,id,pa,slot,hty,h1,h2,?_⟩
 have hA:=ha cpos pins s1 σ H1 _ I1 q1
 rw[hs] at hA ⊢;refine Calls.callWith_builtin (by show (false || (backTo cpos (starEach es X.env)).any (·.1))=false;rw[hplain]<;>rfl) (Calls.evalArgs_plain ?_)
 exact thn hA fun us s2 ⟨vs,H2,I2,r2,q2⟩=>hm pins s2 σ H2 x vs v us Q I2 r1 r2 q2
end
end L2
namespace L2
open PySem PySem.Spec PyProof.Rows
noncomputable def MtM (X:Cx)(id:String)(r:V->List V->Hp->VK->Prop):Prop:=
 ∀ (pins:List (Addr × Obj)) (s:Shared) (σ:St) (H:Hp) (x:V) (xs:List V) (v:Value) (us:List Value) (Q:VK),Inv X pins σ H s->ZO x v->ZB xs us->r x xs H Q->
  wpAny (model X.prog X.w) X.A (call (.builtin id) (v :: us)) (EP X pins σ Q) X.xe s
theorem ZB.one: ∀ {x:V} {us:List Value},ZB [x] us-> ∃ u,us=[u]/\ZO x u
 |_,_,.cons r .nil=>⟨_,rfl,r⟩
theorem ZB.rep {xs:List V}{us:List Value}(h:ZB xs us): ∀ k:Nat,ZB (List.replicate k xs).flatten (List.replicate k us).flatten
 |0=> .nil
 |k + 1=>by
  rw[List.replicate_succ,List.replicate_succ,List.flatten_cons,List.flatten_cons];exact ZB.append h (ZB.rep h k)
theorem Zce (its:List Value): ∀ (k:Nat) (acc:List Value),
  List.foldl (fun x1 x2=>x1 ++ x2) acc.toArray (List.replicate k its.toArray)=(acc ++ (List.replicate k its).flatten).toArray
 |0,acc=>by simp
 |k + 1,acc=>by
  have e:acc.toArray ++ its.toArray=(acc ++ its).toArray:=by simp
  have e2:(acc ++ its) ++ (List.replicate k its).flatten=acc ++ (List.replicate (k + 1) its).flatten:=by
   rw[List.replicate_succ,List.flatten_cons,List.append_assoc]
  rw[<- e2,<- Zce its k (acc ++ its),<- e,List.replicate_succ,List.foldl_cons]
section
variable {X:Cx}{pins:List (Addr × Obj)}{σ:St}{H:Hp}{s:Shared}{l b:Addr}{xs ys zs:List V}
theorem Inv.lset {its its':List Value}{n:Nat}{f:Array Value->Array Value}{t':Nat}(I:Inv X pins σ H s)(hH:H l=some (.lst xs))
  (e:s.heap.get? l=some { cls:= .type "list",data:= .seq its.toArray n }) (hf:f its.toArray=its'.toArray) (hv:ZB ys its') (hz:ys.length<=sizeLine):
  Inv X pins σ (upd H l (.lst ys)) { s with heap:=s.heap.update l (Obj.mapSeq f),toks:=t' }:=by
 have q:=PySem.IsL.update e f
 rw[hf] at q;refine I.write (x:=l) (e:=l) (by rw[hH];exact trivial) (.inl rfl) (fun b' u hb hu=>(Heap.get?_update_other s.heap (Obj.mapSeq f) (Ne.symm hb)).trans hu) ⟨_,q⟩ ?_
 exact ⟨hz,its',_,hv,q⟩
theorem Inv.lnew {its:List Value}{t':Nat}(I:Inv X pins σ H s)(hv:ZB ys its)(hz:ys.length<=sizeLine):
  Inv X pins σ (upd H s.heap.objs.size (.lst ys)) { s with heap:=s.heap.push { cls:= .type "list",data:= .seq its.toArray },toks:=t' }:=
 I.laid (fun _ _ q=>Heap.get?_push_of_some _ q) (Nat.le_refl _) ⟨hz,its,0,hv,Heap.get?_push_size _ rfl⟩
theorem Inv.fresh (I:Inv X pins σ H s):H s.heap.objs.size=none:=I.hok.fresh (Nat.le_refl _)
theorem Inv.lstM (I:Inv X pins σ H s)(hH:H l=some (.lst xs)):xs.length<=sizeLine/\ ∃ (its:List Value) (n:Nat),ZB xs its/\xs.length=its.length/\s.heap.get? l=some { cls:= .type "list",data:= .seq its.toArray n }:=by
 obtain ⟨z,its,n,r,e⟩:=I.hok l _ hH
 exact ⟨z,its,n,r,r.length,e⟩
theorem Zdc {n:Nat}(h:n<=sizeLine):Builtin.List.listTooLong n=false:=by
 unfold Builtin.List.listTooLong;exact decide_eq_false (by omega)
end
section
variable {X:Cx}
noncomputable def rAppend:V->List V->Hp->VK->Prop:=fun x vs H Q=> ∃ l xs y,x= .ref l/\vs=[y]/\H l=some (.lst xs)/\xs.length < sizeLine/\Q .non (upd H l (.lst (xs ++ [y])))
theorem Zcf:MtM X "list.append" rAppend:=by
 intro pins s σ H x vs v us Q I rx rv h;obtain ⟨l,xs,y,rfl,rfl,hH,hz,q⟩:=h
 cases rx
 obtain ⟨u,rfl,ru⟩:=rv.one
 obtain ⟨z,its,n,r,hl,e⟩:=I.lstM hH
 refine call_meets F.slot_list_append ⟨_,e,rfl⟩ F.entry_list_append (F.args_list_append_2 _ _) (PySem.list_append l its.toArray n u (by rw[List.size_toArray];omega)) ⟨e,?_⟩
 refine ⟨.non,_,I.lset (its':=its ++ [u]) hH e (by simp) (r.append (.cons ru .nil)) ?_,rfl,q⟩
 rw[List.length_append,List.length_singleton];omega
noncomputable def rExtend:V->List V->Hp->VK->Prop:=fun x vs H Q=> ∃ l b xs zs,x= .ref l/\vs=[.ref b]/\H l=some (.lst xs)/\H b=some (.lst zs)/\xs.length + zs.length<=sizeLine/\Q .non (upd H l (.lst (xs ++ zs)))
theorem ZiZ:MtM X "list.extend" rExtend:=by
 intro pins s σ H x vs v us Q I rx rv h;obtain ⟨l,b,xs,zs,rfl,rfl,hH,hB,hz,q⟩:=h
 cases rx
 obtain ⟨u,rfl,ru⟩:=rv.one
 cases ru
 obtain ⟨z,its,n,r,hl,e⟩:=I.lstM hH
 obtain ⟨z2,its2,n2,r2,hl2,e2⟩:=I.lstM hB
 have hsz:its.toArray.size + its2.toArray.size<=sizeLine:=by rw[List.size_toArray,List.size_toArray];omega
 have hlong: ¬ (!its.toArray.isEmpty && Builtin.List.listTooLong (its.toArray.size + its2.toArray.size))=true:=by
  rw[Zdc hsz,Bool.and_false];exact Bool.false_ne_true
 refine call_meets F.slot_list_extend ⟨_,e,rfl⟩ F.entry_list_extend (F.args_list_extend_2 _ _)
  (AutoSeq1.list_extend_list_list_0 l its.toArray n b its2.toArray n2 hlong (by rw[List.size_toArray];omega) (by omega)) ⟨e,e2,?_⟩
 refine ⟨.non,_,I.lset (its':=its ++ its2) hH e (by simp) (r.append r2) ?_,rfl,q⟩
 rw[List.length_append];omega
noncomputable def rCat:R2:=fun x y H Q=> ∃ l b xs zs,x= .ref l/\y= .ref b/\H l=some (.lst xs)/\H b=some (.lst zs)/\xs.length + zs.length<=sizeLine/\ ∀ p,H p=none->Q (.ref p) (upd H p (.lst (xs ++ zs)))
theorem Zi0:OpR X (binaryOp .Add) rCat:=by
 intro pins s σ H x y v u Q I rx ry h;obtain ⟨l,b,xs,zs,rfl,rfl,hH,hB,hz,q⟩:=h
 cases rx
 cases ry
 obtain ⟨z,its,n,r,hl,e⟩:=I.lstM hH
 obtain ⟨z2,its2,n2,r2,hl2,e2⟩:=I.lstM hB
 refine PySem.P.add_list e e2 ?_ (by rw[List.size_toArray,List.size_toArray];omega)
 have ea:its.toArray ++ its2.toArray=(its ++ its2).toArray:=by simp
 rw[ea];exact ⟨.ref _,_,I.lnew (t':=s.toks) (r.append r2) (by rw[List.length_append];omega),rfl,q _ I.fresh⟩
noncomputable def rRep:R2:=fun x y H Q=> ∃ l k xs,x= .ref l/\y= .int k/\H l=some (.lst xs)/\ -(2 ^ 63)<=k/\k < 2 ^ 63/\xs.length * k.toNat<=sizeLine/\
 ∀ p,H p=none->Q (.ref p) (upd H p (.lst (List.replicate k.toNat xs).flatten))
theorem Zhi {α:Type}(xs:List α)(k:Nat):(List.replicate k xs).flatten.length=k * xs.length:=by
 induction k with
 |zero=>simp
 |succ k ih=>rw[List.replicate_succ,List.flatten_cons,List.length_append,ih,Nat.succ_mul,Nat.add_comm]
theorem Zi1:OpR X (binaryOp .Mult) rRep:=by
 intro pins s σ H x y v u Q I rx ry h;obtain ⟨l,k,xs,rfl,rfl,hH,h1,h2,hz,q⟩:=h
 cases rx
 obtain ⟨t,rfl⟩:=ry
 obtain ⟨z,its,n,r,hl,e⟩:=I.lstM hH
 have hlen:its.toArray.size * k.toNat<=sizeLine:=by rw[List.size_toArray,<- hl];exact hz
 have hcap: ¬ its.toArray.size * k.toNat > (2 ^ 63 - 1) / 8:=by
  have:(sizeLine:Nat)<=(2 ^ 63 - 1) / 8:=by decide
  omega
 have hfit: ¬ (!Builtin.List.listFitsIndex k)=true:=by
  rw[fitsIndex_both h1 h2];exact Bool.false_ne_true
 have hlong: ¬ Builtin.List.listTooLong (its.toArray.size * k.toNat)=true:=by
  rw[Zdc hlen];exact Bool.false_ne_true
 have hnew:List.foldl (fun x1 x2=>x1 ++ x2) #[] (List.replicate (if its.toArray.isEmpty=true then 0 else k.toNat) its.toArray)=(List.replicate k.toNat its).flatten.toArray:=by
  have f0: ∀ m:Nat,List.foldl (fun x1 x2=>x1 ++ x2) #[] (List.replicate m its.toArray)=(List.replicate m its).flatten.toArray:=fun m=>by
   have:=Zce its m []
   rw[List.nil_append] at this;exact this
  rw[f0];cases its with
  |nil=>simp
  |cons a r'=>rw[if_neg (by simp)]
 refine wpAny_binaryOp_repeat_ref (T:="list") (U:="int") (by decide) ⟨_,e,rfl⟩ (fun s'=>typeIs_int s' k t) noFill_list_mul F.fills_int_mul F.slot_int_rmul repeat_list F.slot_int_index.lookup
  (call_meets F.slot_int_rmul (typeIs_int s k t) F.entry_int_rmul (F.args_int_rmul_2 _ _) (int___rmul___int_list k t l its.toArray n)
   ⟨e,rfl,⟨_,e,rfl⟩,call_meets F.slot_list_mul ⟨_,e,rfl⟩ F.entry_list_mul (F.args_list_mul_2 _ _) (AutoListH.list___mul___list_int_3 l its.toArray n k t hfit hcap hlong) ⟨e,?_⟩⟩)
 rw[hnew];exact ⟨.ref _,_,I.lnew (t':=s.toks) (r.rep k.toNat) (by rw[Zhi,Nat.mul_comm];exact hz),rfl,q _ I.fresh⟩
end
section
variable {prog:Program}{w:World}{A:Around}{E:Value->Shared->Prop}{s:Shared}
end
section
variable {X:Cx}
end
end L2
namespace Att
open PySem PySem.W PySem.Calls PyProof.Rows
theorem Zbm {P:Params}{h:Heap}: ∀ (ns:List Int) (vs:List Value),WellAll P h vs (ns.map WData.int)->IntsAre vs ns:=by
 intro ns
 induction ns with
 |nil=>
  intro vs w;rw[List.map_nil] at w;cases w
  exact .nil
 |cons n ns ih=>
  intro vs w;rw[List.map_cons] at w;cases w with
  |cons a b=>
   cases a
   exact .cons _ _ (ih _ b)
theorem Zeo {l:OpenLaw}{n:Nat}(hn:l.most=some n){P:Params}{h:Heap}{args:List WData}{vals:List Value}
  (hpre:l.row.toRowW.claim.pre args=true) (hwl:WellAll P h vals args):
  ∃ a vs ns,vals=[Value.ref a]/\args=[WData.list (ns.map WData.int)]/\h.get? a=some { cls:= .type "list",data:= .seq vs.toArray }/\IntsAre vs ns/\ns.length<=n:=by
 have hsh:WShape.hasAll [] args [.list .int]=true:=(pre_splitW hpre).1
 have hc:l.pre.holds [] { args:=args }=true:=(pre_splitW hpre).2
 obtain ⟨d,r,rfl,h1,h2⟩:=hasAllW_cons hsh
 obtain rfl:=hasAllW_nil h2
 obtain ⟨xs,rfl,h3⟩:=hasW_list h1
 obtain ⟨ns,rfl⟩:=items_int h3
 have hlen:ns.length<=n:=by
  unfold OpenLaw.pre at hc;have h4:(WTm.not (.lt (.lit (.int (n:Int))) (.len (.arg 0)))).holds [] { args:=[.list (ns.map .int)] }=true:=by
   have h4:=(holds_andW hc).1
   rw[hn] at h4;exact h4
  have h5:=condW_of h4 (w_not (w_lt w_lit (w_len_list (w_arg rfl))))
  rw[List.length_map] at h5;refine Nat.le_of_not_lt fun q=> ?_
  have q':(n:Int) < ((ns.length:Nat):Int):=by omega
  first
   | (rw[decide_eq_true q'] at h5;exact absurd h5 (by decide))
   | (simp at h5;omega)
 cases hwl with
 |cons w1 w2=>
  cases w2
  cases w1 with
  |list ho hall=>exact ⟨_,_,ns,rfl,rfl,ho,Zbm ns _ hall,hlen⟩
theorem Zep (l:OpenLaw)(args:List WData):l.row.toRowW.claim.post args (.bool true) args=true:=
 postW_of (r:=l.row.toRowW) (X:=(true == true))
  (show WShape.has [] (.bool true) .bool=true by first | rfl | decide | simp[WShape.has,WShape.arms,WShape.armsAll])
  (show (WTm.eq .res (.lit (.bool true))).value [] { args:=args,res:=some (.bool true),after:=args }=some (.bool (true == true)) from w_eq_bool (w_res rfl) w_lit) rfl
theorem ZcQ {l:OpenLaw}{n:Nat}{q:Program}{loose:List Str}{XP:(Str->Option Value)->Heap->Prop}{YP:World->Heap->Prop}{d:DefRec}
  (hn:l.most=some n) (hdf:d.params.defaults=[])
  (call: ∀ (w:World) (s₀ s₁:Shared) (mg mb:Str->Option Value) (fa:Addr) (o:Obj) (pm cd doc:Value) (a:Addr) (vs:List Value) (ns:List Int),
   Ground q loose [] XP w s₀ mg mb s₁.heap->YP w s₁.heap->
   s₁.heap.get? fa=some o->o.data= .func (docDef d.name d.params d.body d.scope pm cd doc)->s₁.heap.CodeRec cd d.name->mg d.name=some (.ref fa)->
   s₁.heap.get? a=some { cls:= .type "list",data:= .seq vs.toArray }->IntsAre vs ns->ns.length<=n->s₁.gens= #[]->
   codeAny (model l.prog w) callerA (.call (.ref fa) ⟨[.ref a],[]⟩) (fun r s'=>r= .ok (.ret (.bool true))/\OldK s₁.heap s'.heap/\s'.os=s₁.os/\AllBare s'.gens) s₁):
  WalkO q loose XP YP l.row.toRowW d [] (fun f vs=>PySem.call f vs):=by
 intro w s₀ s₁ mg mb G Y fa o pm cd doc dV kV ho hd hcd hD hmg hg args vals as hpre hlay hrd hwl hlo;obtain rfl:dV= .none:=Dflts.none hD hdf
 obtain rfl:kV= .none:=Dflts.noKw hD
 obtain ⟨a,vs,ns,rfl,rfl,hobj,hints,hlen⟩:=Zeo hn hpre hwl
 refine enter_call (codeAny_mono (call w s₀ s₁ mg mb fa o pm cd doc a vs ns G Y ho (fd_plain hd) hcd hmg hobj hints hlen hg) fun r s' hq=> ?_)
 obtain ⟨rfl,h2,h3,h4⟩:=hq
 exact ⟨.inl ⟨.bool true,.bool true,[],rfl,fun _=>rfl,.bool true,Zep l _,fun _=>⟨List.Pairwise.nil,fun _ hm=>(nomatch hm)⟩⟩,h2,h3,h4⟩
section
variable {prog:Program}{w:World}{A:Around}{E:Value->Shared->Prop}{s:Shared}{K:Frag}
end
end Att
namespace L2
open PySem PySem.Spec PyProof.Rows
theorem Zcg: ∀ {vs:List Value} {ns:List Int},IntsAre vs ns->ZB (ns.map V.int) vs
 |_,_,.nil=> .nil
 |_,_,.cons n t h=> .cons ⟨t,rfl⟩ (Zcg h)
noncomputable def Zlp (H:Hp):Prop:= ∀ b,H b=none\/ ∃ o xs,H b=some (.frz o (.lst xs))
theorem ZfQ {P:Program}{w:World}{K:PySem.W.Frag}{mg mb:Str->Option Value}{CX:CXT}{k:Nat}{fa a:Addr}{fd:FuncData}{x:Str}{sp:Sp}{s₁:Shared}{vs:List Value}{ns:List Int}
  (KX:K.In s₁.heap) (hns:s₁.heap.Ns mainGlobals mg) (hb:s₁.heap.Ns builtinsNs mb) (hbb: ∀ x:Str,x≠"__name__"->mb x=bootBuiltins x) (hlim:s₁.heap.NoLimit) (hg:s₁.gens= #[])
  (ha:s₁.heap.get? a=some { cls:= .type "list",data:= .seq vs.toArray }) (hi:IntsAre vs ns) (hl:ns.length<=sizeLine) (hr:Room k callerA)
  (F: ∀ base:Heap,K.In base->base.Ns mainGlobals mg->FnOk P w K mg base CX k fa fd [x] sp) (hbind: ∀ (s:Shared) (u:Value),BindsTo s fd ⟨[u],[]⟩ [(x,u)])
  (hsp: ∀ H:Hp,Zlp H->SqL K H a (ns.map V.int)->sp [.ref a] H (fun v _=>v= .bl true) fun _ _ _=>False)
  (hCX: ∀ H e s',CX [] H s₁ (fun _ _ _=>False) e s'->False):
  codeAny (model P w) callerA (.call (.ref fa) ⟨[.ref a],[]⟩) (fun r s'=>r= .ok (.ret (.bool true))/\OldK s₁.heap s'.heap/\s'.os=s₁.os/\AllBare s'.gens) s₁:=by
 have rv:=Zcg hi
 have lenV:=hi.length
 have core: ∀ H:Hp,Zlp H->SqL K H a (ns.map V.int)->HOk P w H s₁.heap->(∀ b,H b≠none->b=a)->(H a≠none->K.lookup a=none)->
   codeAny (model P w) callerA (.call (.ref fa) ⟨[.ref a],[]⟩) (fun r s'=>r= .ok (.ret (.bool true))/\OldK s₁.heap s'.heap/\s'.os=s₁.os/\AllBare s'.gens) s₁:=by
  intro H hO hS hok hA hK;have base_of: ∀ {b:Addr} {o:Obj},s₁.heap.get? b=some o->H b=none->(ZfA s₁.heap H).get? b=some o:=fun e n=>Zc6 e n
  have noA: ∀ {b:Addr} {o:Obj} {es:Array DictEntry} {ep:Nat},s₁.heap.get? b=some o->o.data= .dict es ep->H b=none:=fun {b o es ep} e d=>by
   cases q:H b with
   |none=>rfl
   |some u=>
    have e':b=a:=hA b (by rw[q];simp)
    subst e';rw[ha] at e;cases e;have d':Data.seq vs.toArray _=Data.dict es ep:=d
    cases d'
  have nsK: ∀ {b:Addr} {m:Str->Option Value},s₁.heap.Ns b m->(ZfA s₁.heap H).Ns b m:=fun {b m} ⟨o,es,ep,e,d,r⟩=>⟨o,es,ep,base_of e (noA e d),d,r⟩
  have hKb:K.In (ZfA s₁.heap H):=fun b o e=>base_of (KX b o e) (by
   cases q:H b with
   |none=>rfl
   |some u=>
    have e':b=a:=hA b (by rw[q];simp)
    subst e';rw[hK (by rw[q];simp)] at e;cases e)
  have hM:Mod K mg (ZfA s₁.heap H):=⟨hKb,nsK hns,⟨mb,nsK hb,hbb⟩,let ⟨mc,h1,h2⟩:=hlim;⟨mc,nsK h1,h2⟩⟩
  have e0:Env0 P w K mg (ZfA s₁.heap H) callerA [] s₁ H:=⟨rfl,hM,fun b o e=>Zea e,Nat.le_of_eq (Zd9 _ _),trivial,fun b hb=>absurd (show b∈([]:List Addr) from hb) (by simp),hok,.of_eq hg,.inl rfl⟩
  refine codeAny_mono ((F _ hKb (nsK hns)).run callerA [] s₁ H ⟨[.ref a],[]⟩ [.ref a] [.ref a] _ _ hr e0 (hbind s₁ (.ref a)) (.cons rfl .nil) (hsp H hO hS)) fun r s' h=> ?_
  cases r with
  |error e=>exact (hCX H e s' h).elim
  |ok fl=>
   cases fl with
   |next=>exact False.elim h
   |brk=>exact False.elim h
   |cont=>exact False.elim h
   |ret u=>
    obtain ⟨v,H',os,bare,un,hok',r',q⟩:=h
    have q':v= .bl true:=q
    subst q';obtain rfl:u=Value.bool true:=r'
    refine ⟨rfl,OldK.of_keep fun b o e=> ?_,os,bare⟩
    cases q:H b with
    |none=>exact un.keep b o e q (by intro z;exact absurd (show b∈([]:List Addr) from z) (by simp)) (by simp)
    |some u=>
     rcases hO b with z | ⟨ob,xs,z⟩
     ·rw[q] at z;cases z
     ·have z2:=un.frzs b ob _ z
      obtain ⟨e1,_⟩:=hok b _ z
      obtain ⟨e2,_⟩:=hok' b _ z2
      rw[e] at e1;cases e1;exact e2
 cases hk:K.lookup a with
 |some o=>
  have e:=KX a o hk
  rw[ha] at e;cases e
  refine core (fun _=>none) (fun _=> .inl rfl) (.inr ⟨_,vs.toArray,_,hk,rfl,rfl,rfl,by rw[List.size_toArray,lenV];exact hl,by simpa using rv⟩) (fun b u z=>by have z':(none:Option HO)=some u:=z;cases z') (fun b z=>absurd rfl z) fun z=>absurd rfl z
 |none=>
  refine core (fun b=>if b=a then some (.frz { cls:= .type "list",data:= .seq vs.toArray } (.lst (ns.map V.int))) else none) (fun b=> ?_) (.inl (.inr ⟨{ cls:= .type "list",data:= .seq vs.toArray },if_pos rfl⟩)) (fun b u z=> ?_) (fun b z=> ?_) fun _=>hk
  ·by_cases hb:b=a
   ·exact .inr ⟨_,_,if_pos hb⟩
   ·exact .inl (if_neg hb)
  ·by_cases hb:b=a
   ·have z':=(if_pos hb).symm.trans z
    cases z'
    subst hb;exact ⟨ha,by rw[List.length_map];exact hl,vs,_,rv,ha⟩
   ·have z':=(if_neg hb).symm.trans z
    cases z'
  ·by_cases hb:b=a
   ·exact hb
   ·exact absurd (if_neg hb) z
end L2
namespace L2
open PySem PySem.Spec PyProof.Rows
theorem Zhj {l:PySem.W.OpenLaw}{n k:Nat}{q:Program}{loose:List Str}{XP:(Str->Option Value)->Heap->Prop}{YP:World->Heap->Prop}{d:DefRec}{K:Params->PySem.W.Frag}{CX:World->CXT}{sp:World->Sp}{x:Str}
  (hn:l.most=some n) (hn2:n<=sizeLine) (hdf:d.params.defaults=[]) (hr:Room k callerA)
  (hY: ∀ (w:World) (h:Heap),YP w h->(K w.params).In h)
  (F: ∀ (w:World) (mg:Str->Option Value) (fa:Addr) (h:Heap),(K w.params).In h->h.Ns mainGlobals mg->mg d.name=some (.ref fa)->
   ∃ fd:FuncData,(∀ (s:Shared) (u:Value),BindsTo s fd ⟨[u],[]⟩ [(x,u)])/\
    ∀ base:Heap,(K w.params).In base->base.Ns mainGlobals mg->FnOk l.prog w (K w.params) mg base (CX w) k fa fd [x] (sp w))
  (hsp: ∀ (w:World) (H:Hp) (a:Addr) (ns:List Int),ns.length<=n->Zlp H->SqL (K w.params) H a (ns.map V.int)->sp w [.ref a] H (fun v _=>v= .bl true) fun _ _ _=>False)
  (hCX: ∀ (w:World) (H:Hp) (s:Shared) (e:Value) (s':Shared),CX w [] H s (fun _ _ _=>False) e s'->False):
  PySem.W.WalkO q loose XP YP l.row.toRowW d [] (fun f vs=>PySem.call f vs):=by
 refine Att.ZcQ hn hdf fun w s₀ s₁ mg mb fa o pm cd doc a vs ns G Y ho hd hcd hmg hobj hints hlen hg=> ?_
 have KX:=hY w _ Y
 obtain ⟨fd,hb,hF⟩:=F w mg fa _ KX G.T.g hmg
 exact ZfQ KX G.T.g G.T.b G.T.builtins G.T.nolimit hg hobj hints (Nat.le_trans hlen hn2) hr hF hb (fun H hO hS=>hsp w H a ns hlen hO hS) fun H e s'=>hCX w H s₁ e s'
end L2
namespace L2
open PySem PySem.Spec PyProof.Rows
noncomputable def ZaB (s:Stmt):Arguments:=match s with
 | .FunctionDef _ a _ _ _ _ _ _ _ _=>a
 |_=>{ posonlyargs:=[],args:=[],vararg:=none,kwonlyargs:=[],kw_defaults:=[],kwarg:=none,defaults:=[] }
noncomputable def Z6 (s:Stmt):List Stmt:=match s with
 | .FunctionDef _ _ b _ _ _ _ _ _ _=>b
 |_=>[]
noncomputable def Zn (s:Stmt):Scope:=match s with
 | .FunctionDef _ _ _ _ _ _ sc _ _ _=>sc
 |_=>{ kind:= .function,names:=[],isGenerator:=false,isCoroutine:=false }
noncomputable abbrev E0:XK:=fun _ _ _=>False
structure Fun (K:PySem.W.Frag) (x qual:Str) (st:Stmt) (f:Addr) (fd:FuncData):Prop where
 ex: ∃ (oc:Value) (od:Option Addr) (kV doc pm:Value) (an:Option Addr) (cdv ct:Value) (osl:Array (Option Value)),
  fd=PySem.W.fnOf x qual (ZaB st) (Z6 st) (Zn st) .none kV doc pm an cdv ct/\K.lookup f=some ⟨oc,od,.func fd,osl⟩/\PySem.W.codeIn K cdv qual=true
 kp:PySem.W.keepIn K (.ref f)=true
section
variable {P:Program}{w:World}{K:PySem.W.Frag}{mg:Str->Option Value}{base:Heap}
theorem Fun.binds {x qual:Str}{st:Stmt}{f:Addr}{fd:FuncData}{ps:List Str}(F:Fun K x qual st f fd)
  (h: ∀ (kV doc pm:Value) (an:Option Addr) (cdv ct:Value) (us:List Value),us.length=ps.length->bindArgs (PySem.W.fnOf x qual (ZaB st) (Z6 st) (Zn st) .none kV doc pm an cdv ct) ⟨us,[]⟩=pure (ps.zip us)):ZcO K fd ps []:=by
 obtain ⟨oc,od,kV,doc,pm,an,cdv,ct,osl,rfl,lk,hcd⟩:=F.ex
 exact .all (h kV doc pm an cdv ct)
theorem Zi2 {x qual:Str}{st:Stmt}{f:Addr}{oc:Value}{od an:Option Addr}{osl:Array (Option Value)}{kV doc pm cdv ct:Value}(l:K.lookup f=some ⟨oc,od,.func (PySem.W.fnOf x qual (ZaB st) (Z6 st) (Zn st) .none kV doc pm an cdv ct),osl⟩)
  (c:PySem.W.codeIn K cdv qual=true) (k:PySem.W.keepIn K (.ref f)=true):Fun K x qual st f (PySem.W.fnOf x qual (ZaB st) (Z6 st) (Zn st) .none kV doc pm an cdv ct):=⟨⟨oc,od,kV,doc,pm,an,cdv,ct,osl,rfl,l,c⟩,k⟩
end
theorem Zeq {n:Nat}(h:n<=1000):n < sizeLine:=Nat.lt_of_le_of_lt h (by decide)
section
variable {X:Cx}
end
theorem Zhk {A B:Prop}(h:B):if false=true then A else B:=by
 rw[if_neg Bool.false_ne_true];exact h
theorem Zhl {A B:Prop}(h:A):if true=true then A else B:=by
 rw[if_pos rfl];exact h
end L2
end
section
namespace L2
open PySem PySem.Spec PyProof.Rows
end L2
namespace L2
open PySem PySem.Spec PyProof.Rows
section
variable (P:Program)(w:World)
end
section
variable {P:Program}{w:World}{H H':Hp}{h h':Heap}{a:Addr}{o:HO}
end
section
variable {P:Program}{w:World}{H:Hp}{h h':Heap}{x e:Addr}{o':HO}
end
section
variable {fs fs' ex ex':List Addr}{H H1 H2:Hp}{h h1 h2 h':Heap}{a x e:Addr}{o:HO}
end
end L2
namespace L2
open PySem PySem.Spec PyProof.Rows
section
variable {X:Cx}{pins:List (Addr × Obj)}{σ:List (Option V)}{H H':Hp}{s:Shared}{h':Heap}
end
end L2
namespace L2
open PySem PySem.Spec PyProof.Rows
section
variable {X:Cx}
variable {a b:Expr}{ta tb:TE}{pos:Pos}
variable {tA tB':TT}{rest:List Expr}
end
end L2
namespace L2
open PySem PySem.Spec PyProof.Rows
section
variable {X:Cx}{pins:List (Addr × Obj)}{σ:St}{H:Hp}{s:Shared}{a:Addr}{xs ys:List V}
end
section
variable {X:Cx}{pins:List (Addr × Obj)}{σ:St}{H:Hp}{s:Shared}{E:Value->Shared->Prop}
end
section
variable {X:Cx}{st:Stmt}{rest:List Stmt}{t u:TS}{e:Expr}{te:TE}{pos:Pos}
end
section
variable {X:Cx}{pos:Pos}
end
section
variable {X:Cx}{pos:Pos}
end
end L2
namespace L2
open PySem PySem.Spec PyProof.Rows
section
variable {X:Cx}{tg:Expr}
end
end L2
namespace L2
open PySem PySem.Spec PyProof.Rows
section
variable {X:Cx}{a b c:Expr}{ta tb tc:TE}{pos:Pos}
end
section
variable {X:Cx}{a b c:Expr}{ta tb tc:TE}{pos:Pos}
end
end L2
namespace L2
open PySem PySem.Spec PyProof.Rows
section
variable {prog:Program}{w:World}{A:Around}{E:Value->Shared->Prop}{s:Shared}{K:PySem.W.Frag}{x dx C f:Addr}{mA:Str->Option Value}{name:Str}{v:Value}
end
section
variable {P:Program}{w:World}{H H':Hp}{h h':Heap}{a C dx:Addr}{fs fs':List (Str × V)}
end
section
variable {X:Cx}{pins:List (Addr × Obj)}{σ:St}{H:Hp}{s:Shared}{a C dx:Addr}{fs:List (Str × V)}{f:Str}{v:V}{A:Around}{E:Value->Shared->Prop}
end
section
variable {X:Cx}{o e value:Expr}{f:Str}{pos pos' tpos:Pos}{ta tv:TE}
end
section
variable {X:Cx}{pins:List (Addr × Obj)}{σ:St}{H:Hp}{s:Shared}{A:Around}{E:Value->Shared->Prop}{Q:Value->Shared->Prop}{c:Value}{b:Bool}
end
end L2
namespace L2
open PySem PySem.Spec PyProof.Rows
section
variable {X:Cx}{e:Expr}{es:List Expr}{te:TE}{t:TA}{pos:Pos}
end
section
variable {X:Cx}{pins:List (Addr × Obj)}{σ:St}{H:Hp}{s s':Shared}
end
section
variable {X:Cx}{CX:CXT}{k:Nat}{f C:Addr}{fd:FuncData}{ps:List Str}{sp:Sp}{dvs:List V}{ds:List Value}{E:XK}{x m:Str}{p pos apos:Pos}{e o:Expr}{es:List Expr}{ta:TE}{t:TA}
end
section
variable {X:Cx}{CX:CXT}{k:Nat}{f C:Addr}{fd:FuncData}{ps ks:List Str}{sp:Sp}{E:XK}{x m:Str}{p pos apos kpos:Pos}{e o:Expr}{es:List Expr}{kws:List Keyword}{te ta:TE}{t tk:TA}{nm:Option Str}
variable {g:List Value->List Value->List Value}{gV:List V->List V->List V}
end
end L2
namespace L2
open PySem PySem.Spec PyProof.Rows
section
variable {X:Cx}{x:Str}{p pos:Pos}{e:Expr}{es:List Expr}{t:TA}{id T:String}{r:List V->Hp->VK->Prop}
end
end L2
namespace L2
open PySem PySem.Spec PyProof.Rows
section
variable {κ:Type}[DecidableEq κ]
end
section
variable {P:Program}{w:World}{H:Hp}{h:Heap}{a:Addr}
end
section
variable {X:Cx}{pins:List (Addr × Obj)}{σ:St}{H:Hp}{s:Shared}{a:Addr}{y v:V}{u r:Value}{o:Option V}{A:Around}{E:Value->Shared->Prop}
end
section
variable {X:Cx}{pins:List (Addr × Obj)}{σ:St}{H:Hp}{s:Shared}{a:Addr}{kvs:List (Key × V)}{k:Key}{u:Value}{A:Around}{E:Value->Shared->Prop}
end
section
variable {X:Cx}{o i e value:Expr}{pos pos' tpos:Pos}{td ty tv:TE}
end
section
variable {X:Cx}{pos:Pos}
end
structure M1 (X:Cx) (o:Expr) (m:Str) (apos:Pos) (e:Expr) (cpos:Pos):Prop where
 base:attributeBase o m X.env (eval o X.env)=eval o X.env
 few:((backTo cpos (starEach [e] X.env)).all (fun x=> !x.1) && (backToKw cpos (keywordEach [] X.env)).all (fun x=>x.1.isSome)
  && decide (([e]:List Expr).length + ([]:List Keyword).length + (if ([]:List Keyword).isEmpty then 0 else 1) < 30))=true
 line:(apos.endLine == cpos.line)=true
 trees:backTo cpos (starEach [e] X.env)=[(false,eval e X.env)]
structure M2 (X:Cx) (o:Expr) (m:Str) (apos:Pos) (e f:Expr) (cpos:Pos):Prop where
 base:attributeBase o m X.env (eval o X.env)=eval o X.env
 few:((backTo cpos (starEach [e,f] X.env)).all (fun x=> !x.1) && (backToKw cpos (keywordEach [] X.env)).all (fun x=>x.1.isSome)
  && decide (([e,f]:List Expr).length + ([]:List Keyword).length + (if ([]:List Keyword).isEmpty then 0 else 1) < 30))=true
 line:(apos.endLine == cpos.line)=true
 trees:backTo cpos (starEach [e,f] X.env)=[(false,eval e X.env),(false,eval f X.env)]
section
variable {X:Cx}{pins:List (Addr × Obj)}{σ:St}{H:Hp}{s:Shared}{a:Addr}{y d:V}{u r:Value}{o:Option V}{A:Around}{E:Value->Shared->Prop}
end
section
variable {X:Cx}{o e f:Expr}{apos cpos:Pos}{td ty tx:TE}
end
section
variable {X:Cx}{pins:List (Addr × Obj)}{σ:St}{H:Hp}{s:Shared}{a:Addr}{kvs:List (Key × V)}{A:Around}{E:Value->Shared->Prop}
end
section
variable {X:Cx}{pins:List (Addr × Obj)}{σ:St}{H:Hp}{s:Shared}{a:Addr}{y:V}{u:Value}{A:Around}{E:Value->Shared->Prop}
end
end L2
namespace Att
open PySem PySem.W PySem.Calls PyProof.Rows
section
variable {prog:Program}{w:World}{A:Around}{E:Value->Shared->Prop}{s:Shared}{K:Frag}
end
end Att
namespace L2
open PySem PySem.Spec PyProof.Rows
end L2
namespace L2
open PySem PySem.Spec PyProof.Rows
end L2
namespace L2
open PySem PySem.Spec PyProof.Rows
section
variable {P:Program}{w:World}{K:PySem.W.Frag}{mg:Str->Option Value}{base:Heap}
end
section
variable {X:Cx}
end
section
variable {κ:Type}[DecidableEq κ]
end
end L2
end
section
namespace DQ
open PySem PySem.Spec PyProof.Rows
structure Fly (B:Heap) (l:List Env) (e:Addr) (cls:Value) (dct:Option Addr) (fl:Value) (h:Heap):Prop where
 stay:B.StaysIn h
 new:B.get? e=none
 frames:h.FunFrames B l
 obj: ∃ oe vs T oT ts,h.get? e=some oe/\oe.cls=cls/\oe.dict=dct/\oe.data= .fields vs/\vs[2]?=some .none/\vs[1]?=some (.ref T)/\B.get? T=none/\T≠e/\h.get? T=some oT/\oT.data= .fields ts/\ts[3]?=some fl
theorem Fly.tail {B:Heap}{env:Env}{l:List Env}{e:Addr}{cls:Value}{dct:Option Addr}{fl:Value}{h:Heap}(f:Fly B (env :: l) e cls dct fl h):Fly B l e cls dct fl h:=⟨f.stay,f.new,f.frames.2.2,f.obj⟩
section
variable {M:Model}{A:Around}{E:Value->Shared->Prop}{s:Shared}{B:Heap}{env:Env}{outer l:List Env}{L e:Addr}{cls:Value}{dct:Option Addr}{fl:Value}
theorem apart {h:Heap}{oe:Obj}{vs:Array Value}(hl:h.FunFrames B l)(he:h.get? e=some oe)(hd:oe.data= .fields vs):e ∉ l.filterMap (·.frame):=fun z=>by
 obtain ⟨_,o,h1,h2⟩:=hl.mem z
 rw[he] at h1;cases h1
 exact h2 vs hd
theorem Zch {oe:Obj}{vs:Array Value}{head:Value}{hn:Bool}{Q:Unit->Shared->Prop}(hfr:A.frames=some (env :: outer))(hl:s.heap.FunFrames B (env :: outer))(hf:env.frame=some L)
  (he:s.heap.get? e=some oe) (hs:B.StaysIn s.heap) (hb:B.get? e=none) (hd:oe.data= .fields vs) (hz:2 < vs.size) (h2:vs[2]?=some .none)
  (h: ∀ h',Fly B (env :: outer) e oe.cls oe.dict (rawInt L) h'->s.heap.UpToSlots h'->Q () { s with heap:=h' }):
  wpAny M A (frameOf env >>= fun a=>entryPlaceOf L hn >>= fun pl=>EntryCells.newEntry head a .none (rawInt L) .none pl >>= fun b=>setField (.ref e) 1 b) Q E s:=by
 have ne:=apart hl he hd
 refine wpAny_bind (wpAny_frameOf_fun hfr hl hf fun h1 k1=>wpAny_bind (wpAny_entryPlaceOf fun pl hpl=>wpAny_bind ?_))
 unfold EntryCells.newEntry newFields;refine wpAny_newObj_type ?_ (hpl.sizeOk5 _ _ _ _ _)
 generalize hT:([head,Value.ref L,Value.none,rawInt L,Value.none] ++ (if pl.isEmpty then List.replicate 6 Value.none else pl)).toArray=ts;have h3:ts[3]?=some (rawInt L):=by
  rw[<- hT]
  rcases hpl with rfl | ⟨_,_,_,_,_,_,_,rfl⟩<;>simp
 have e1:h1.get? e=some oe:=(k1.2.1 e ne).trans he
 have s1:B.StaysIn h1:=fun b o hbo=>(k1.2.1 b fun z=>by rw[(hl.mem z).1] at hbo;cases hbo).trans (hs b o hbo)
 generalize hoT:({ cls:= .type "traceback",dict:=none,data:= .fields ts }:Obj)=oT;have dT:oT.data= .fields ts:=by rw[<- hoT]
 have fT:oT.isFreed=false:=Obj.isFreed_of_fields dT
 have e2:(h1.push oT).get? e=some oe:=Heap.get?_push_of_some _ e1
 have nT:h1.objs.size≠e:=Nat.ne_of_gt (Heap.lt_size e1)
 refine wpAny_setField e2 hd (Nat.lt_trans (by decide) hz) (h _ ?_ ?_)
 ·have d3:=Obj.data_mapFields hd (·.setIfInBounds 1 (Value.ref h1.objs.size))
  have e3:=Heap.get?_update_self (Obj.mapFields (·.setIfInBounds 1 (Value.ref h1.objs.size))) e2 (Obj.isFreed_of_fields d3)
  have keep: ∀ b o,b≠e->h1.get? b=some o->((h1.push oT).update e (Obj.mapFields (·.setIfInBounds 1 (Value.ref h1.objs.size)))).get? b=some o:=fun b o hbe x=>by
   rw[Heap.get?_update_other _ _ (Ne.symm hbe)]
   exact Heap.get?_push_of_some _ x
  have gT:(h1.push oT).get? h1.objs.size=some oT:=Heap.get?_push_size _ fT
  refine ⟨fun b o x=>keep b o (fun z=>by rw[z,hb] at x;cases x) (s1 b o x),hb,hl.of_keeps fun b o x y=> ?_,_,_,h1.objs.size,oT,ts,e3,Obj.cls_mapFields _ _,?_,d3,?_,?_,s1.fresh,nT,?_,dT,h3⟩
  ·obtain ⟨sl,z⟩:=k1.2.2 b o x
   exact ⟨_,keep b _ (fun w=>y vs (by rw[w,he] at x;cases x;exact hd)) z,rfl⟩
  ·obtain ⟨c,d,dd,sl⟩:=oe
   cases hd
   rfl
  ·rw[Array.getElem?_setIfInBounds_ne (by decide)]
   exact h2
  ·rw[Array.getElem?_setIfInBounds_self_of_lt (Nat.lt_trans (by decide) hz)]
  ·rw[Heap.get?_update_other _ _ (Ne.symm nT)]
   exact gT
 ·intro b o x y
  obtain ⟨sl,z⟩:=k1.2.2 b o x
  refine ⟨sl,?_⟩
  rw[Heap.get?_update_other _ _ (fun w=>y vs (by rw[<- w,he] at x;cases x;exact hd))]
  exact Heap.get?_push_of_some _ z
theorem Zdd {Q:Unit->Shared->Prop}(f:Fly B l e cls dct fl s.heap)(h: ∀ h',Fly B l e cls dct .none h'->s.heap.UpToSlots h'->Q () { s with heap:=h' }):wpAny M A (setFlight (.ref e) none) Q E s:=by
 obtain ⟨st,nw,fr,oe,vs,T,oT,ts,g1,g2,g3,g4,g5,g6,g7,g8,g9,g10,g11⟩:=f
 have hz:3 < ts.size:=(Array.getElem?_eq_some_iff.mp g11).1
 unfold setFlight;refine wpAny_bind (wpAny_field g1 g4 g6 ?_)
 rw[if_pos (by simp)]
 have oth: ∀ b o,b≠T->s.heap.get? b=some o->(s.heap.update T (Obj.mapFields (·.setIfInBounds 3 Value.none))).get? b=some o:=fun b o hb x=>by
  rw[Heap.get?_update_other _ _ (Ne.symm hb)]
  exact x
 have nr: ∀ b o,s.heap.get? b=some o->(∀ vs,o.data≠ .fields vs)->b≠T:=fun b o x y z=>by
  rw[z,g9] at x;cases x
  exact y ts g10
 refine wpAny_setField g9 g10 hz (h _ ⟨fun b o x=>oth b o (fun z=>by rw[z,g7] at x;cases x) (st b o x),nw,fr.of_keeps fun b o x y=>⟨o,oth b o (nr b o x y) x,rfl⟩,?_⟩ fun b o x y=>⟨o.slots,oth b o (nr b o x y) x⟩)
 exact ⟨oe,vs,T,_,_,oth e oe (Ne.symm g8) g1,g2,g3,g4,g5,g6,g7,g8,Heap.get?_update_self _ g9 (Obj.isFreed_of_fields (Obj.data_mapFields g10 _)),Obj.data_mapFields g10 _,by rw[Array.getElem?_setIfInBounds_self_of_lt hz];rfl⟩
theorem ZfR {Q:Unit->Shared->Prop}(hfr:A.frames=some (env :: outer))(hf:env.frame=some L)(f:Fly B (env :: outer) e cls dct .none s.heap)
  (h: ∀ h',Fly B (env :: outer) e cls dct (rawInt L) h'->s.heap.UpToSlots h'->Q () { s with heap:=h' }):wpAny M A (noteFrame (.ref e) env) Q E s:=by
 obtain ⟨st,nw,fr,oe,vs,T,oT,ts,g1,g2,g3,g4,g5,g6,g7,g8,g9,g10,g11⟩:=f
 unfold noteFrame;simp only[hf];refine wpAny_bind (wpAny_field g1 g4 g6 ?_)
 rw[if_pos (by simp)]
 refine wpAny_bind (wpAny_field g9 g10 g11 ?_)
 rw[if_neg (by simp[rawInt])]
 have oth: ∀ b o,b≠T->s.heap.get? b=some o->(s.heap.update T (Obj.mapFields (·.setIfInBounds 3 Value.none))).get? b=some o:=fun b o hb x=>by
  rw[Heap.get?_update_other _ _ (Ne.symm hb)]
  exact x
 have nr: ∀ b o,s.heap.get? b=some o->(∀ vs,o.data≠ .fields vs)->b≠T:=fun b o x y z=>by
  rw[z,g9] at x;cases x
  exact y ts g10
 refine wpAny_bind (wpAny_setField g9 g10 (Array.getElem?_eq_some_iff.mp g11).1 ?_)
 refine Zch hfr (fr.of_keeps fun b o x y=>⟨o,oth b o (nr b o x y) x,rfl⟩) hf (oth e oe (Ne.symm g8) g1) (fun b o x=>oth b o (fun z=>by rw[z,g7] at x;cases x) (st b o x)) nw g4 (Array.getElem?_eq_some_iff.mp g5).1 g5 fun h' k1 k2=>h h' (g2 ▸ g3 ▸ k1) ?_
 intro b o x y;exact k2 b o (oth b o (nr b o x y) x) y
theorem Zer {Q:Unit->Shared->Prop}(hfr:A.frames=some (env :: outer))(hf:env.frame=some L)(f:Fly B (env :: outer) e cls dct .none s.heap)
  (h: ∀ h',Fly B outer e cls dct .none h'->s.heap.UpToSlots h'->Q () { s with heap:=h' }):wpAny M A (leaving env (.ref e)) Q E s:=by
 unfold leaving;refine wpAny_bind (ZfR hfr hf f fun h1 k1 u1=> ?_)
 exact Zdd (s:={ s with heap:=h1 }) k1 fun h2 k2 u2=>h h2 k2.tail (u1.trans u2)
theorem Zes {oe:Obj}{vs:Array Value}{Q:Unit->Shared->Prop}(hfr:A.frames=some (env :: outer))(hf:env.frame=some L)(hl:s.heap.FunFrames B (env :: outer))(he:s.heap.get? e=some oe)(hs:B.StaysIn s.heap)(hb:B.get? e=none)(hd:oe.data= .fields vs)(h1:vs[1]?=some .none)(h2:vs[2]?=some .none)
  (h: ∀ h',Fly B outer e oe.cls oe.dict .none h'->s.heap.UpToSlots h'->Q () { s with heap:=h' }):wpAny M A (leaving env (.ref e)) Q E s:=by
 unfold leaving noteFrame;simp only[hf];refine wpAny_bind (wpAny_bind (wpAny_field he hd h1 ?_))
 rw[if_neg (by decide)]
 refine Zch hfr hl hf he hs hb hd (Array.getElem?_eq_some_iff.mp h2).1 h2 fun h' k1 u1=> ?_
 exact Zdd (s:={ s with heap:=h' }) k1 fun h2 k2 u2=>h h2 k2.tail (u1.trans u2)
end
end DQ
end
section
namespace DQ
open PySem PySem.Spec PyProof.Rows
open PySem.W (Looks findIn mroIn specialIn takesIn clsIn looks_findIn looks_mroIn looks_find findObj KitX)
structure ExcC (K:PySem.W.Frag) (C:Addr):Prop where
 ga:findIn K (.ref C) "__getattribute__"=some (some (.builtin "BaseException.__getattribute__"))
 gt:findIn K (.ref C) "__getattr__"=some none
 cl:findIn K (.ref C) "__class__"=some (some (.builtin "object.__class__"))
 gs:specialIn K (.builtin "object.__class__") "__get__"=some (some (.builtin "getset_descriptor.__get__"))
 tk:takesIn K (.builtin "object.__class__")=some true
 bx:mroIn K C (.type "BaseException")=some true
 ob:mroIn K C (.type "object")=some true
 is:(clsIn K C).isSome=true
section
variable {prog:Program}{w:World}{A:Around}{E:Value->Shared->Prop}{s:Shared}{K:PySem.W.Frag}{e C:Addr}{oe:Obj}{od:Option Obj}
end
end DQ
end
section
namespace DL
open PySem PySem.Spec PyProof.Rows L2
inductive D where
 |non
 |bl (b:Bool)
 |int (i:Int)
 |str (x:Str)
 |tup (xs:List D)
 |rol (xs:List D)
 |con (xs:List D)
 |ref (n:Nat)
 |err (c:Str) (xs:List D)
 |dk (n:Nat)
 |dt (n:Nat)
 |fn (c:Str)
inductive SO where
 |lst (xs:List D)
noncomputable abbrev Sto:=List SO
noncomputable abbrev Ro:=List (Option D)
noncomputable def SqF (K:PySem.W.Frag)(H:Hp)(a:Addr)(xs:List V):Prop:=
 (∃ o,H a=some (.frz o (.lst xs)))\/ ∃ (o:Obj) (its:Array Value) (n:Nat),K.lookup a=some o/\o.cls= .type "list"/\o.dict=none/\o.data= .seq its n/\its.size<=sizeLine/\ZB xs its.toList
theorem SqF.sq {K:PySem.W.Frag}{H:Hp}{a:Addr}{xs:List V}(h:SqF K H a xs):SqL K H a xs:=by
 rcases h with ⟨o,h⟩ | h
 ·exact .inl (.inr ⟨o,h⟩)
 ·exact .inr h
noncomputable def SqK (K:PySem.W.Frag)(a:Addr)(xs:List V):Prop:= ∃ (o:Obj) (its:Array Value) (n:Nat),K.lookup a=some o/\o.cls= .type "tuple"/\o.data= .seq its n/\its.size<=sizeLine/\ZB xs its.toList/\o.dict=none
theorem SqK.sq {K:PySem.W.Frag}{H:Hp}{a:Addr}{xs:List V}(h:SqK K a xs):SqT K H a xs:=
 let ⟨o,its,n,h1,h2,h3,h4,h5,_⟩:=h
 .inr ⟨o,its,n,h1,h2,h3,h4,h5⟩
noncomputable def ZnJ:List Str:=[PySem.Str.ofString "where",PySem.Str.ofString "at"]
noncomputable def EOk (H:Hp)(p C:Addr)(xs:List V):Prop:= ∃ oe u vs,H p=some (.frz oe u)/\oe.cls= .ref C/\oe.data= .fields vs/\vs[2]?=some .none/\((xs=[]/\oe.dict=none)\/ ∃ dx fs,oe.dict=some dx/\H dx=some (.xd fs)/\fs.map (·.2)=xs/\fs.map (·.1)=ZnJ)
noncomputable def Kn (H:Hp)(p:Addr):Option Nat:=match H p with | some (.lst _)=>some 0 | some (.dK _)=>some 1 | some (.dT _)=>some 2 | some (.frz _ (.dK _))=>some 1 | some (.frz _ (.dT _))=>some 2 | _=>none
structure RefK (H:Hp) (α:List Addr) (j n:Nat) (p:Addr):Prop where
 at':α[n]?=some p
 kn:Kn H p=some j
theorem Kn.lst {H:Hp}{p:Addr}{xs:List V}(h:H p=some (.lst xs)):Kn H p=some 0:=by unfold Kn;rw[h]
theorem Kn.ne {H:Hp}{p q:Addr}{j:Nat}{o:HO}(h:Kn H p=some j)(hq:H q=none):Kn (upd H q o) p=some j:=by
 have:p≠q:=by
  intro z;unfold Kn at h;rw[z,hq] at h;cases h
 unfold Kn;rw[Zu this];exact h
mutual
inductive Rep (K:PySem.W.Frag) (H:Hp) (α:List Addr):V->D->Prop where
 |non:Rep K H α .non .non
 |bl (b:Bool):Rep K H α (.bl b) (.bl b)
 |int (i:Int):Rep K H α (.int i) (.int i)
 |str (x:Str):Rep K H α (.str x) (.str x)
 |tup {p:Addr} {xs:List V} {ds:List D}:H p=some (.tup xs)->Reps K H α xs ds->Rep K H α (.ref p) (.tup ds)
 |rol {p:Addr} {xs:List V} {ds:List D}:SqF K H p xs->Reps K H α xs ds->Rep K H α (.ref p) (.rol ds)
 |con {p:Addr} {xs:List V} {ds:List D}:SqK K p xs->Reps K H α xs ds->Rep K H α (.ref p) (.con ds)
 |ref {p:Addr} {n:Nat}:RefK H α 0 n p->Rep K H α (.ref p) (.ref n)
 |dk {p:Addr} {n:Nat}:RefK H α 1 n p->Rep K H α (.ref p) (.dk n)
 |dt {p:Addr} {n:Nat}:RefK H α 2 n p->Rep K H α (.ref p) (.dt n)
 |fn {p:Addr} {c:Str}:PySem.W.nsIn K mainGlobals c=some (some (.ref p))->Rep K H α (.ref p) (.fn c)
 |err {p C:Addr} {c:Str} {xs:List V} {ds:List D}:PySem.W.nsIn K mainGlobals c=some (some (.ref C))->EOk H p C xs->Reps K H α xs ds->Rep K H α (.ref p) (.err c ds)
inductive Reps (K:PySem.W.Frag) (H:Hp) (α:List Addr):List V->List D->Prop where
 |nil:Reps K H α [] []
 |cons {v:V} {d:D} {vs:List V} {ds:List D}:Rep K H α v d->Reps K H α vs ds->Reps K H α (v :: vs) (d :: ds)
end
structure Ext (K:PySem.W.Frag) (H H':Hp) (α α':List Addr):Prop where
 tup: ∀ p xs,H p=some (.tup xs)->H' p=some (.tup xs)
 rol: ∀ p xs,SqF K H p xs->SqF K H' p xs
 err: ∀ p C xs,EOk H p C xs->EOk H' p C xs
 kn: ∀ p j,Kn H p=some j->Kn H' p=some j
 fz: ∀ p o u,H p=some (.frz o u)->H' p=some (.frz o u)
 al: ∃ β,α'=α ++ β
section
variable {K:PySem.W.Frag}{H H1 H2 H':Hp}{α α1 α2 α':List Addr}
theorem Ext.refl:Ext K H H α α:=⟨fun _ _ h=>h,fun _ _ h=>h,fun _ _ _ h=>h,fun _ _ h=>h,fun _ _ _ h=>h,[],(List.append_nil _).symm⟩
theorem Ext.trans (a:Ext K H H1 α α1)(b:Ext K H1 H2 α1 α2):Ext K H H2 α α2:=by
 obtain ⟨b1,e1⟩:=a.al
 obtain ⟨b2,e2⟩:=b.al
 exact ⟨fun p xs h=>b.tup p xs (a.tup p xs h),fun p xs h=>b.rol p xs (a.rol p xs h),fun p C xs h=>b.err p C xs (a.err p C xs h),fun p j h=>b.kn p j (a.kn p j h),fun p o u h=>b.fz p o u (a.fz p o u h),b1 ++ b2,by rw[e2,e1,List.append_assoc]⟩
theorem Ext.get0 (e:Ext K H H' α α'){n:Nat}{p:Addr}(h:α[n]?=some p):α'[n]?=some p:=by
 obtain ⟨β,e1⟩:=e.al
 have hl:n < α.length:=(List.getElem?_eq_some_iff.mp h).1
 rw[e1,List.getElem?_append_left hl]
 exact h
theorem Ext.get (e:Ext K H H' α α'){j n:Nat}{p:Addr}(h:RefK H α j n p):RefK H' α' j n p:=⟨e.get0 h.at',e.kn _ _ h.kn⟩
mutual
theorem Rep.mono (e:Ext K H H' α α'): ∀ {v:V} {d:D},Rep K H α v d->Rep K H' α' v d
 |_,_,.non=> .non
 |_,_,.bl b=> .bl b
 |_,_,.int i=> .int i
 |_,_,.str x=> .str x
 |_,_,.tup h r=> .tup (e.tup _ _ h) (Reps.mono e r)
 |_,_,.rol h r=> .rol (e.rol _ _ h) (Reps.mono e r)
 |_,_,.con h r=> .con h (Reps.mono e r)
 |_,_,.ref h=> .ref (e.get h)
 |_,_,.dk h=> .dk (e.get h)
 |_,_,.dt h=> .dt (e.get h)
 |_,_,.fn h=> .fn h
 |_,_,.err n h r=> .err n (e.err _ _ _ h) (Reps.mono e r)
theorem Reps.mono (e:Ext K H H' α α'): ∀ {vs:List V} {ds:List D},Reps K H α vs ds->Reps K H' α' vs ds
 |_,_,.nil=> .nil
 |_,_,.cons r t=> .cons (Rep.mono e r) (Reps.mono e t)
end
theorem Reps.length: ∀ {vs:List V} {ds:List D},Reps K H α vs ds->vs.length=ds.length
 |_,_,.nil=>rfl
 |_,_,.cons _ t=>by rw[List.length_cons,List.length_cons,Reps.length t]
theorem Reps.get: ∀ {vs:List V} {ds:List D} {i:Nat} {d:D},Reps K H α vs ds->ds[i]?=some d-> ∃ v,vs[i]?=some v/\Rep K H α v d
 |_,_,_,_,.nil,e=>by simp at e
 |_,_,0,_,.cons r _,e=>by simp at e;subst e;exact ⟨_,rfl,r⟩
 |_,_,i + 1,d,.cons _ t,e=>by
  obtain ⟨u,h1,h2⟩:=Reps.get (i:=i) (d:=d) t (by simpa using e)
  exact ⟨u,by simpa using h1,h2⟩
theorem Reps.set {v:V}{d:D}(r:Rep K H α v d): ∀ {vs:List V} {ds:List D} (i:Nat),Reps K H α vs ds->Reps K H α (vs.set i v) (ds.set i d)
 |_,_,_,.nil=> .nil
 |_,_,0,.cons _ t=> .cons r t
 |_,_,i + 1,.cons q t=> .cons q (Reps.set r i t)
theorem Reps.append: ∀ {vs ws:List V} {ds es:List D},Reps K H α vs ds->Reps K H α ws es->Reps K H α (vs ++ ws) (ds ++ es)
 |_,_,_,_,.nil,s=>s
 |_,_,_,_,.cons r t,s=> .cons r (Reps.append t s)
theorem Reps.ints: ∀ (ns:List Int),Reps K H α (ns.map V.int) (ns.map D.int)
 | []=> .nil
 |n :: r=> .cons (.int n) (Reps.ints r)
theorem Zet {p q:Addr}{xs:List V}{o:HO}(h:H q=some (.tup xs))(hp: ∀ u,H p=some u->(∀ ys,u≠ .tup ys)/\ ∀ ob w,u≠ .frz ob w):upd H p o q=some (.tup xs):=by
 rw[Zu (fun e=>(hp _ (e ▸ h)).1 _ rfl)]
 exact h
theorem Zeu {p q:Addr}{xs:List V}{o:HO}(h:SqF K H q xs)(hp: ∀ u,H p=some u-> ∀ ob w,u≠ .frz ob w):SqF K (upd H p o) q xs:=by
 rcases h with ⟨ob,h⟩ | h
 ·refine .inl ⟨ob,?_⟩
  rw[Zu (fun e=>hp _ (e ▸ h) _ _ rfl)]
  exact h
 ·exact .inr h
theorem Zgz {p q:Addr}{ob:Obj}{u o:HO}(h:H q=some (.frz ob u))(hp: ∀ u,H p=some u-> ∀ ob w,u≠ .frz ob w):upd H p o q=some (.frz ob u):=by
 rw[Zu (fun e=>hp _ (e ▸ h) _ _ rfl)]
 exact h
theorem Zev {p q C:Addr}{xs:List V}{o:HO}(h:EOk H q C xs)(hp: ∀ u,H p=some u->(∀ ob w,u≠ .frz ob w)/\ ∀ fs,u≠ .xd fs):EOk (upd H p o) q C xs:=by
 obtain ⟨oe,u,vs,h1,h2,h3,h4,h5⟩:=h
 refine ⟨oe,u,vs,?_,h2,h3,h4,?_⟩
 ·rw[Zu (fun e=>(hp _ (e ▸ h1)).1 _ _ rfl)]
  exact h1
 ·rcases h5 with h5 | ⟨dx,fs,k1,k2,k3⟩
  ·exact .inl h5
  ·refine .inr ⟨dx,fs,k1,?_,k3⟩
   rw[Zu (fun e=>(hp _ (e ▸ k2)).2 _ rfl)]
   exact k2
theorem Ext.new {p:Addr}{o:HO}(h:H p=none){β:List Addr}:Ext K H (upd H p o) α (α ++ β):=
 ⟨fun q xs z=>Zet z (fun u e=>(by rw[h] at e;cases e)),fun q xs z=>Zeu z (fun u e=>(by rw[h] at e;cases e)),fun q C xs z=>Zev z (fun u e=>(by rw[h] at e;cases e)),fun q j z=>Kn.ne z h,fun q o u z=>Zgz z (fun u e=>(by rw[h] at e;cases e)),β,rfl⟩
theorem Ext.new0 {p:Addr}{o:HO}(h:H p=none):Ext K H (upd H p o) α α:=by
 have e:=Ext.new (K:=K) (H:=H) (α:=α) (o:=o) h (β:=[])
 rw[List.append_nil] at e;exact e
theorem Ext.wrK {p:Addr}{o:HO}{j:Nat}(h:Kn H p=some j)(nf: ∀ ob w,H p≠some (.frz ob w))(h':Kn (upd H p o) p=some j):Ext K H (upd H p o) α α:=by
 have ne (u:HO) (e:H p=some u):(∀ ys,u≠ .tup ys)/\(∀ ob w,u≠ .frz ob w)/\ ∀ fs,u≠ .xd fs:=by
  unfold Kn at h;rw[e] at h;refine ⟨fun ys z=> ?_,fun ob w z=>nf ob w (by rw[e,z]),fun fs z=> ?_⟩<;>subst z<;>cases h
 refine ⟨fun q xs z=>Zet z fun u e=>⟨(ne u e).1,(ne u e).2.1⟩,fun q xs z=>Zeu z fun u e=>(ne u e).2.1,fun q C xs z=>Zev z fun u e=>⟨(ne u e).2.1,(ne u e).2.2⟩,fun q i z=> ?_,fun q ob u z=>Zgz z fun u e=>(ne u e).2.1,[],(List.append_nil _).symm⟩
 by_cases c:q=p
 ·subst c
  rw[h] at z;cases z
  exact h'
 ·unfold Kn
  rw[Zu c];exact z
theorem Ext.wr {p:Addr}{xs ys:List V}(h:H p=some (.lst xs)):Ext K H (upd H p (.lst ys)) α α:=Ext.wrK (Kn.lst h) (fun ob w z=>by rw[h] at z;cases z) (Kn.lst Zr)
noncomputable def ZlU:Key->D
 | .inl i=> .int i
 | .inr x=> .str x
noncomputable def Zi3 (ks:List Key):D:= .tup (ks.map ZlU)
noncomputable def Zde (K:PySem.W.Frag)(H:Hp)(α:List Addr){κ:Type}(key:κ->D)(kvs:List (κ × V))(ds:List D):Prop:=
 ∃ es:List D,ds=List.zipWith (fun kv e=>D.tup [key kv.1,e]) kvs es/\Reps K H α (kvs.map (·.2)) es
noncomputable def SOk (K:PySem.W.Frag)(H:Hp)(α:List Addr)(p:Addr):SO->Prop
 | .lst ds=>(∃ xs,H p=some (.lst xs)/\Reps K H α xs ds)\/(∃ kvs,H p=some (.dK kvs)/\Zde K H α ZlU kvs ds)\/(∃ kvs,H p=some (.dT kvs)/\Zde K H α Zi3 kvs ds)\/(∃ o kvs r,H p=some (.frz o (.dK kvs))/\ds= .non :: r/\Zde K H α ZlU kvs r)\/(∃ o kvs r,H p=some (.frz o (.dT kvs))/\ds= .non :: r/\Zde K H α Zi3 kvs r)
theorem SOk.there {p:Addr}{o:SO}(h:SOk K H α p o): ∃ u,H p=some u:=by
 cases o with
 |lst ds=>rcases h with ⟨_,e,_⟩ | ⟨_,e,_⟩ | ⟨_,e,_⟩ | ⟨_,_,_,e,_⟩ | ⟨_,_,_,e,_⟩<;>exact ⟨_,e⟩
theorem SOk.mono {p:Addr}{o:SO}(h:SOk K H α p o)(ex:Ext K H H' α α')(e:H' p=H p):SOk K H' α' p o:=by
 cases o with
 |lst ds=>
  rcases h with ⟨xs,h1,h2⟩ | ⟨kvs,h1,es,h2,h3⟩ | ⟨kvs,h1,es,h2,h3⟩ | ⟨o,kvs,r,h1,h0,es,h2,h3⟩ | ⟨o,kvs,r,h1,h0,es,h2,h3⟩
  ·exact .inl ⟨xs,e.trans h1,Reps.mono ex h2⟩
  ·exact .inr (.inl ⟨kvs,e.trans h1,es,h2,Reps.mono ex h3⟩)
  ·exact .inr (.inr (.inl ⟨kvs,e.trans h1,es,h2,Reps.mono ex h3⟩))
  ·exact .inr (.inr (.inr (.inl ⟨o,kvs,r,e.trans h1,h0,es,h2,Reps.mono ex h3⟩)))
  ·exact .inr (.inr (.inr (.inr ⟨o,kvs,r,e.trans h1,h0,es,h2,Reps.mono ex h3⟩)))
structure HR (K:PySem.W.Frag) (H:Hp) (α:List Addr) (M:Sto):Prop where
 len:α.length=M.length
 nd:α.Nodup
 ob: ∀ (n:Nat) (p:Addr) (o:SO),α[n]?=some p->M[n]?=some o->SOk K H α p o
theorem HR.nil:HR K H [] []:=⟨rfl,List.nodup_nil,fun n p o h=>by simp at h⟩
theorem Kn.at {H:Hp}{p:Addr}{j:Nat}{u:HO}(k:Kn H p=some j)(e:H p=some u):(match some u with | some (.lst _)=>some 0 | some (.dK _)=>some 1 | some (.dT _)=>some 2 | some (.frz _ (.dK _))=>some 1 | some (.frz _ (.dT _))=>some 2 | _=>none)=some j:=by
 unfold Kn at k;rw[e] at k;exact k
theorem HR.at (h:HR K H α M){n:Nat}{p:Addr}{ds:List D}(e:RefK H α 0 n p)(m:M[n]?=some (.lst ds)): ∃ xs,H p=some (.lst xs)/\Reps K H α xs ds:=by
 rcases h.ob n p _ e.at' m with h1 | ⟨_,h1,_⟩ | ⟨_,h1,_⟩ | ⟨_,_,_,h1,_⟩ | ⟨_,_,_,h1,_⟩
 ·exact h1
 all_goals exact absurd (Kn.at e.kn h1) (fun z=>nomatch z)
theorem RefK.lst {n:Nat}{p:Addr}(e:RefK H α 0 n p): ∃ xs,H p=some (.lst xs):=by
 have:=e.kn
 unfold Kn at this
 split at this
 ·rename_i xs h;exact ⟨xs,h⟩
 all_goals cases this
theorem HR.some_at {M:Sto}(h:HR K H α M){n:Nat}{p:Addr}(e:RefK H α 0 n p): ∃ xs,H p=some (.lst xs):=e.lst
theorem HR.there {M:Sto}(h:HR K H α M){n:Nat}{p:Addr}(e:α[n]?=some p): ∃ u,H p=some u:=by
 have hl:n < α.length:=(List.getElem?_eq_some_iff.mp e).1
 have hm:n < M.length:=by rw[<- h.len];exact hl
 exact (h.ob n p M[n] e (List.getElem?_eq_getElem hm)).there
theorem HR.tup {M:Sto}{p:Addr}{o:HO}(h:HR K H α M)(hp:H p=none):HR K (upd H p o) α M:=
 ⟨h.len,h.nd,fun n q so e m=>by
  obtain ⟨u,hu⟩:=h.there e
  exact (h.ob n q so e m).mono (Ext.new0 hp) (Zu (ZE hu hp))⟩
theorem HR.newO {M:Sto}{p:Addr}{o:HO}{so:SO}(h:HR K H α M)(hp:H p=none)(r:SOk K (upd H p o) (α ++ [p]) p so):HR K (upd H p o) (α ++ [p]) (M ++ [so]):=by
 have ex:Ext K H (upd H p o) α (α ++ [p]):=Ext.new hp
 refine ⟨by rw[List.length_append,List.length_append,h.len];rfl,?_,fun n q so' e m=> ?_⟩
 ·refine List.nodup_append.mpr ⟨h.nd,by simp,fun a ha b hb=> ?_⟩
  have hb':b=p:=by simpa using hb
  obtain ⟨n,hn,e⟩:=List.getElem_of_mem ha
  obtain ⟨u,z⟩:=h.there (n:=n) (p:=a) (by rw[List.getElem?_eq_getElem hn,e])
  rw[hb'];exact ZE z hp
 ·by_cases hn:n < α.length
  ·rw[List.getElem?_append_left hn] at e
   rw[List.getElem?_append_left (by rw[<- h.len];exact hn)] at m
   obtain ⟨u,hu⟩:=h.there e
   exact (h.ob n q so' e m).mono ex (Zu (ZE hu hp))
  ·have en:n=α.length:=by
    have:n < (α ++ [p]).length:=(List.getElem?_eq_some_iff.mp e).1
    rw[List.length_append,List.length_singleton] at this;omega
   subst en;rw[List.getElem?_append_right (Nat.le_refl _),Nat.sub_self] at e
   rw[h.len,List.getElem?_append_right (Nat.le_refl _),Nat.sub_self] at m
   cases e
   cases m
   exact r
theorem HR.new {M:Sto}{p:Addr}{xs:List V}{ds:List D}(h:HR K H α M)(hp:H p=none)(r:Reps K H α xs ds):HR K (upd H p (.lst xs)) (α ++ [p]) (M ++ [.lst ds]):=
 h.newO hp (.inl ⟨xs,Zr,Reps.mono (Ext.new hp) r⟩)
theorem ZfS {n m:Nat}{p:Addr}(h:α.Nodup)(a:α[n]?=some p)(b:α[m]?=some p):n=m:=by
 obtain ⟨h1,e1⟩:=List.getElem?_eq_some_iff.mp a
 obtain ⟨h2,e2⟩:=List.getElem?_eq_some_iff.mp b
 exact (List.getElem_inj h).mp (e1.trans e2.symm)
theorem HR.wrO {M:Sto}{n:Nat}{p:Addr}{o:HO}{so:SO}(h:HR K H α M)(e:α[n]?=some p)(ex:Ext K H (upd H p o) α α)(r:SOk K (upd H p o) α p so):HR K (upd H p o) α (M.set n so):=by
 have hn:n < M.length:=by rw[<- h.len];exact (List.getElem?_eq_some_iff.mp e).1
 refine ⟨by rw[List.length_set];exact h.len,h.nd,fun k q so' e' m=> ?_⟩
 by_cases hk:k=n
 ·subst hk
  rw[e] at e';cases e'
  rw[List.getElem?_set_self hn] at m
  cases m
  exact r
 ·rw[List.getElem?_set_ne (Ne.symm hk)] at m
  have hq:q≠p:=fun z=>hk (ZfS h.nd (z ▸ e') e)
  exact (h.ob k q so' e' m).mono ex (Zu hq)
theorem HR.wr {M:Sto}{n:Nat}{p:Addr}{xs ys:List V}{ds:List D}(h:HR K H α M)(e:RefK H α 0 n p)(hp:H p=some (.lst ys))(r:Reps K H α xs ds):HR K (upd H p (.lst xs)) α (M.set n (.lst ds)):=
 h.wrO e.at' (Ext.wr hp) (.inl ⟨xs,Zr,Reps.mono (Ext.wr hp) r⟩)
end
inductive Out (β:Type) where
 |ok (a:β) (M:Sto)
 |exc (c:Str) (M:Sto)
 |bad
noncomputable def Out.bind {β γ:Type}(o:Out β)(f:β->Sto->Out γ):Out γ:=match o with
 | .ok a M=>f a M
 | .exc c M=> .exc c M
 | .bad=> .bad
inductive Fl where
 |nx (ρ:Ro) (M:Sto)
 |ret (d:D) (M:Sto)
 |brk (ρ:Ro) (M:Sto)
 |cnt (ρ:Ro) (M:Sto)
 |exc (c:Str) (M:Sto)
 |bad
noncomputable def ZfT (c:Str):Bool:=c == PySem.Str.ofString "NoRound"
noncomputable def XO (K:PySem.W.Frag)(H:Hp)(α:List Addr)(c:Str)(M:Sto)(dct:Option Addr):Prop:=
 (ZfT c=false/\HR K H α M/\dct=none)\/(ZfT c=true/\ ∃ (M0:Sto) (ds:List D) (dx:Addr) (fs:List (Str × V)),M=M0 ++ [.lst ds]/\HR K H α M0/\dct=some dx/\H dx=some (.xd fs)/\fs.map (·.1)=ZnJ/\Reps K H α (fs.map (·.2)) ds)
noncomputable def OG {β γ:Type}(K:PySem.W.Frag)(R:Hp->List Addr->γ->β->Prop)(H:Hp)(α:List Addr)(ξ:XK)(Q:γ->Hp->Prop):Out β->Prop
 | .ok d M'=> ∀ v H' α',Ext K H H' α α'->HR K H' α' M'->R H' α' v d->Q v H'
 | .exc c M'=> ∀ C H' α',PySem.W.nsIn K mainGlobals c=some (some (.ref C))->Ext K H H' α α'-> ∀ dct,XO K H' α' c M' dct->ξ (.ref C) dct H'
 | .bad=>False
theorem OG.ext {β γ:Type}{K:PySem.W.Frag}{R:Hp->List Addr->γ->β->Prop}{H H1:Hp}{α α1:List Addr}{ξ:XK}{Q:γ->Hp->Prop}{o:Out β}(h:OG K R H α ξ Q o)(e:Ext K H H1 α α1):OG K R H1 α1 ξ Q o:=by
 cases o with
 |ok d M'=>exact fun v H' α' e'=>h v H' α' (e.trans e')
 |exc c M'=>exact fun C H' α' n e'=>h C H' α' n (e.trans e')
 |bad=>exact h
noncomputable abbrev OP (K:PySem.W.Frag):=OG K (Rep K)
noncomputable abbrev OT (K:PySem.W.Frag):=OG (β:=Bool) (γ:=Bool) K (fun _ _ v d=>v=d)
noncomputable abbrev OA (K:PySem.W.Frag):=OG K (Reps K)
noncomputable def SR (K:PySem.W.Frag)(H:Hp)(α:List Addr)(σ:L2.St)(ρ:Ro):Prop:=σ.length=ρ.length/\ ∀ (i:Nat) (d:D),ρ[i]?=some (some d)-> ∃ v,σ[i]?=some (some v)/\Rep K H α v d
theorem SR.mono {K:PySem.W.Frag}{H H':Hp}{α α':List Addr}{σ:L2.St}{ρ:Ro}(h:SR K H α σ ρ)(e:Ext K H H' α α'):SR K H' α' σ ρ:=
 ⟨h.1,fun i d q=>let ⟨v,a,b⟩:=h.2 i d q;⟨v,a,Rep.mono e b⟩⟩
theorem SR.set {K:PySem.W.Frag}{H:Hp}{α:List Addr}{σ:L2.St}{ρ:Ro}{v:V}{d:D}(h:SR K H α σ ρ)(i:Nat)(r:Rep K H α v d):SR K H α (σ.set i (some v)) (ρ.set i (some d)):=by
 refine ⟨by rw[List.length_set,List.length_set];exact h.1,fun j e q=> ?_⟩
 by_cases hj:j=i
 ·subst hj
  have hl:j < ρ.length:=by
   have:=(List.getElem?_eq_some_iff.mp q).1
   rw[List.length_set] at this;exact this
  rw[List.getElem?_set_self hl] at q
  cases q
  exact ⟨v,by rw[List.getElem?_set_self (by rw[h.1];exact hl)],r⟩
 ·rw[List.getElem?_set_ne (Ne.symm hj)] at q
  rw[List.getElem?_set_ne (Ne.symm hj)]
  exact h.2 j e q
noncomputable abbrev Ev:=Ro->Sto->Out D
noncomputable abbrev Tv:=Ro->Sto->Out Bool
noncomputable abbrev Av:=Ro->Sto->Out (List D)
noncomputable abbrev Sv:=Ro->Sto->Fl
noncomputable def DE (X:Cx)(ξ:XK)(e:Expr)(f:Ev):Prop:= ∃ t:TE,PE X e t/\ ∀ σ ρ H α M Q,SR X.K H α σ ρ->HR X.K H α M->OP X.K H α ξ Q (f ρ M)->t σ H Q
noncomputable def DT (X:Cx)(ξ:XK)(e:Expr)(f:Tv):Prop:= ∃ t:TT,PT X e t/\ ∀ σ ρ H α M Q,SR X.K H α σ ρ->HR X.K H α M->OT X.K H α ξ Q (f ρ M)->t σ H Q
noncomputable def DW (X:Cx)(ξ:XK)(e:Expr)(f:Tv):Prop:= ∃ t:TT,PW X e t/\ ∀ σ ρ H α M Q,SR X.K H α σ ρ->HR X.K H α M->OT X.K H α ξ Q (f ρ M)->t σ H Q
noncomputable def DA (X:Cx)(ξ:XK)(es:List Expr)(f:Av):Prop:= ∃ t:TA,PA X es t/\ ∀ σ ρ H α M Q,SR X.K H α σ ρ->HR X.K H α M->OA X.K H α ξ Q (f ρ M)->t σ H Q
theorem OG.seq {β γ β' γ':Type}{K:PySem.W.Frag}{R:Hp->List Addr->γ->β->Prop}{R':Hp->List Addr->γ'->β'->Prop}{H:Hp}{α:List Addr}{ξ:XK}{Q:γ'->Hp->Prop}{Q1:γ->Hp->Prop}{o:Out β}{f:β->Sto->Out β'}
  (h:OG K R' H α ξ Q (o.bind f)) (k: ∀ d M' v H' α',Ext K H H' α α'->HR K H' α' M'->R H' α' v d->OG K R' H' α' ξ Q (f d M')->Q1 v H'):OG K R H α ξ Q1 o:=by
 cases o with
 |ok d M'=>exact fun v H' α' e hr r=>k d M' v H' α' e hr r (OG.ext (o:=f d M') h e)
 |exc c M'=>exact h
 |bad=>exact h
section
variable {X:Cx}{ξ:XK}{a b e:Expr}{fa fb:Ev}{pos:Pos}
noncomputable def Zh (i:Nat):Ev:=fun ρ M=>match ρ[i]? with | some (some d)=> .ok d M | _=> .bad
noncomputable def eC (d:D):Ev:=fun _ M=> .ok d M
theorem Zb (i:Nat){x:Str}(hN:X.N[i]?=some x:=by rfl)(hv:Vis X.env.scope x:=by first | exact Or.inl rfl | exact Or.inr (Or.inl rfl) | exact Or.inr (Or.inr rfl))(hd:(x == ("__debug__":Str))=false:=by decide)
  (hcd:(x == ("__classdict__":Str))=false:=by decide):DE X ξ (.Name x pos) (Zh i):=by
 refine ⟨_,Ziw hN hv hd hcd,fun σ ρ H α M Q s h q=> ?_⟩
 unfold Zh at q;cases e:ρ[i]? with
 |none=>rw[e] at q;exact q.elim
 |some o=>
  cases o with
  |none=>rw[e] at q;exact q.elim
  |some d=>
   rw[e] at q;obtain ⟨v,h1,h2⟩:=s.2 i d e
   exact ⟨v,h1,q v H α Ext.refl h h2⟩
theorem Ze {i:Int}{j pos}:DE X ξ (.Constant (.int i) j pos) (eC (.int i)):=⟨_,Zix,fun _ _ H α M _ _ h q=>q _ H α Ext.refl h (.int i)⟩
theorem ZcR {i:Bool}{j pos}:DE X ξ (.Constant (.bool i) j pos) (eC (.bl i)):=⟨_,ZlD,fun _ _ H α M _ _ h q=>q _ H α Ext.refl h (.bl i)⟩
theorem ZF {x:Str}{j pos}:DE X ξ (.Constant (.str x) j pos) (eC (.str x)):=⟨_,Ziy,fun _ _ H α M _ _ h q=>q _ H α Ext.refl h (.str x)⟩
noncomputable abbrev Bo:=D->D->Sto->Out D
noncomputable def e2 (f:Bo)(fa fb:Ev):Ev:=fun ρ M=>(fa ρ M).bind fun x M1=>(fb ρ M1).bind fun y M2=>f x y M2
noncomputable def BO (X:Cx)(ξ:XK)(r:R2)(f:Bo):Prop:= ∀ H α M v w x y Q,HR X.K H α M->Rep X.K H α v x->Rep X.K H α w y->OP X.K H α ξ Q (f x y M)->r v w H Q
theorem two {r:R2}{f:Bo}(hb:BO X ξ r f){ta tb:TE}(qa: ∀ σ ρ H α M Q,SR X.K H α σ ρ->HR X.K H α M->OP X.K H α ξ Q (fa ρ M)->ta σ H Q)
  (qb: ∀ σ ρ H α M Q,SR X.K H α σ ρ->HR X.K H α M->OP X.K H α ξ Q (fb ρ M)->tb σ H Q): ∀ σ ρ H α M Q,SR X.K H α σ ρ->HR X.K H α M->OP X.K H α ξ Q (e2 f fa fb ρ M)->tOp r ta tb σ H Q:=by
 intro σ ρ H α M Q s h q;refine qa σ ρ H α M _ s h (OG.seq q fun x M1 v H1 α1 e1 h1 r1 q1=> ?_)
 refine qb σ ρ H1 α1 M1 _ (s.mono e1) h1 (OG.seq q1 fun y M2 w H2 α2 e2 h2 r2 q2=> ?_)
 exact hb H2 α2 M2 v w x y Q h2 (Rep.mono e2 r1) r2 q2
theorem ZcS {op:Operator}{r:R2}{f:Bo}(ho:OpR X (binaryOp op) r)(hf:BO X ξ r f)(ha:DE X ξ a fa)(hb:DE X ξ b fb):DE X ξ (.BinOp a op b pos) (e2 f fa fb):=by
 obtain ⟨ta,ha,qa⟩:=ha
 obtain ⟨tb,hb,qb⟩:=hb
 exact ⟨_,ZlL ho ha hb,two hf qa qb⟩
theorem Zax {op:CmpOp}{r:R2}{f:Bo}(ho:OpR X (compareOp op) r)(hf:BO X ξ r f)(ha:DE X ξ a fa)(hb:DE X ξ b fb)(hm:behindInMarks op b=false:=by first | exact Zgx _ | with_unfolding_all rfl):DE X ξ (.Compare a [op] [b] pos) (e2 f fa fb):=by
 obtain ⟨ta,ha,qa⟩:=ha
 obtain ⟨tb,hb,qb⟩:=hb
 exact ⟨_,Zg7 ho ha hb hm,two hf qa qb⟩
noncomputable def tv (f:Ev):Tv:=fun ρ M=>(f ρ M).bind fun x M1=>match x with | .bl k=> .ok k M1 | _=> .bad
theorem Zi4 {t:TE}{f:Ev}(qa: ∀ σ ρ H α M Q,SR X.K H α σ ρ->HR X.K H α M->OP X.K H α ξ Q (f ρ M)->t σ H Q): ∀ σ ρ H α M Q,SR X.K H α σ ρ->HR X.K H α M->OT X.K H α ξ Q (tv f ρ M)->ZiR t σ H Q:=by
 intro σ ρ H α M Q s h q;refine qa σ ρ H α M _ s h (OG.seq q fun x M1 v H1 α1 e1 h1 r1 q1=> ?_)
 cases r1 with
 |bl k=>exact ⟨k,rfl,q1 k H1 α1 Ext.refl h1 rfl⟩
 |_=>exact q1.elim
theorem Zw {op:CmpOp}{r:R2}{f:Bo}(ho:OpR X (compareOp op) r)(hf:BO X ξ r f)(ha:DE X ξ a fa)(hb:DE X ξ b fb)(hm:behindInMarks op b=false:=by first | exact Zgx _ | with_unfolding_all rfl):DT X ξ (.Compare a [op] [b] pos) (tv (e2 f fa fb)):=by
 obtain ⟨ta,ha,qa⟩:=ha
 obtain ⟨tb,hb,qb⟩:=hb
 exact ⟨_,Zg8 ho ha hb hm,Zi4 (two hf qa qb)⟩
theorem Z1 (h:DE X ξ e fa)(he: ∀ whole,isTrue e X.env whole=(do let v <- whole;standAt e.pos;holding [v] (truthy v)):=by intro _;rfl):DT X ξ e (tv fa):=by
 obtain ⟨ta,ha,qa⟩:=h
 exact ⟨_,Ziz ha he,Zi4 qa⟩
variable {ga gb:Tv}{rest:List Expr}
noncomputable def Zbn (f g:Tv):Tv:=fun ρ M=>(f ρ M).bind fun k M1=>if k=true then g ρ M1 else .ok false M1
noncomputable def Zbo (f g:Tv):Tv:=fun ρ M=>(f ρ M).bind fun k M1=>if k=true then .ok true M1 else g ρ M1
noncomputable def ZV (f:Tv):Tv:=fun ρ M=>(f ρ M).bind fun k M1=> .ok (!k) M1
theorem Zhm (ha:DT X ξ a ga):DW X ξ (.BoolOp .And [a] pos) ga:=let ⟨_,h,q⟩:=ha;⟨_,pw_and1 h,q⟩
theorem Za5 (ha:DT X ξ a ga):DW X ξ (.BoolOp .Or [a] pos) ga:=let ⟨_,h,q⟩:=ha;⟨_,pw_or1 h,q⟩
theorem Zi5 (ha:DT X ξ a ga)(hb:DW X ξ (.BoolOp .And (b :: rest) pos) gb):DW X ξ (.BoolOp .And (a :: b :: rest) pos) (Zbn ga gb):=by
 obtain ⟨ta,ha,qa⟩:=ha
 obtain ⟨tb,hb,qb⟩:=hb
 refine ⟨_,pw_and ha hb,fun σ ρ H α M Q s h q=> ?_⟩
 refine qa σ ρ H α M _ s h (OG.seq q fun k M1 v H1 α1 e1 h1 r1 q1=> ?_)
 cases r1
 cases k with
 |true=>exact Zhl (qb σ ρ H1 α1 M1 Q (s.mono e1) h1 q1)
 |false=>exact Zhk (q1 false H1 α1 Ext.refl h1 rfl)
theorem ZaT (ha:DT X ξ a ga)(hb:DW X ξ (.BoolOp .Or (b :: rest) pos) gb):DW X ξ (.BoolOp .Or (a :: b :: rest) pos) (Zbo ga gb):=by
 obtain ⟨ta,ha,qa⟩:=ha
 obtain ⟨tb,hb,qb⟩:=hb
 refine ⟨_,pw_or ha hb,fun σ ρ H α M Q s h q=> ?_⟩
 refine qa σ ρ H α M _ s h (OG.seq q fun k M1 v H1 α1 e1 h1 r1 q1=> ?_)
 cases r1
 cases k with
 |true=>exact Zhl (q1 true H1 α1 Ext.refl h1 rfl)
 |false=>exact Zhk (qb σ ρ H1 α1 M1 Q (s.mono e1) h1 q1)
theorem ZfU (h:DW X ξ e ga):DT X ξ e ga:=let ⟨_,h,q⟩:=h;⟨_,h.pt,q⟩
theorem Zae (ha:DT X ξ a ga):DT X ξ (.UnaryOp .Not a pos) (ZV ga):=by
 obtain ⟨ta,ha,qa⟩:=ha
 refine ⟨_,ZiA ha,fun σ ρ H α M Q s h q=> ?_⟩
 refine qa σ ρ H α M _ s h (OG.seq q fun k M1 v H1 α1 e1 h1 r1 q1=> ?_)
 cases r1
 exact q1 (!k) H1 α1 Ext.refl h1 rfl
noncomputable def Zaj (f g:Ev):Ev:=fun ρ M=>(f ρ M).bind fun x M1=>match x with | .bl k=>if k=true then g ρ M1 else .ok (.bl false) M1 | _=> .bad
noncomputable def ZfV (f g:Ev):Ev:=fun ρ M=>(f ρ M).bind fun x M1=>match x with | .bl k=>if k=true then .ok (.bl true) M1 else g ρ M1 | _=> .bad
noncomputable def Zbe (f:Ev):Ev:=fun ρ M=>(f ρ M).bind fun x M1=>match x with | .bl k=> .ok (.bl (!k)) M1 | _=> .bad
theorem ZbE {op}(ha:DE X ξ a fa):DE X ξ (.BoolOp op [a] pos) fa:=let ⟨_,h,q⟩:=ha;⟨_,ZiB h,q⟩
theorem Zbp (ha:DE X ξ a fa)(hb:DE X ξ (.BoolOp .And (b :: rest) pos) fb):DE X ξ (.BoolOp .And (a :: b :: rest) pos) (Zaj fa fb):=by
 obtain ⟨ta,ha,qa⟩:=ha
 obtain ⟨tb,hb,qb⟩:=hb
 refine ⟨_,ZiC ha hb,fun σ ρ H α M Q s h q=> ?_⟩
 refine qa σ ρ H α M _ s h (OG.seq q fun x M1 v H1 α1 e1 h1 r1 q1=> ?_)
 cases r1 with
 |bl k=>
  refine ⟨k,rfl,?_⟩
  cases k with
  |true=>exact Zhl (qb σ ρ H1 α1 M1 Q (s.mono e1) h1 q1)
  |false=>exact Zhk (q1 _ H1 α1 Ext.refl h1 (.bl false))
 |_=>exact q1.elim
theorem ZgA (ha:DE X ξ a fa):DE X ξ (.UnaryOp .Not a pos) (Zbe fa):=by
 obtain ⟨ta,ha,qa⟩:=ha
 refine ⟨_,ZiD ha,fun σ ρ H α M Q s h q=> ?_⟩
 refine qa σ ρ H α M _ s h (OG.seq q fun x M1 v H1 α1 e1 h1 r1 q1=> ?_)
 cases r1 with
 |bl k=>exact ⟨k,rfl,q1 _ H1 α1 Ext.refl h1 (.bl (!k))⟩
 |_=>exact q1.elim
noncomputable def eIf (c:Tv)(f g:Ev):Ev:=fun ρ M=>(c ρ M).bind fun k M1=>if k=true then f ρ M1 else g ρ M1
theorem ZlV {c:Expr}(hc:DT X ξ c ga)(ha:DE X ξ a fa)(hb:DE X ξ b fb):DE X ξ (.IfExp c a b pos) (eIf ga fa fb):=by
 obtain ⟨tc,hc,qc⟩:=hc
 obtain ⟨ta,ha,qa⟩:=ha
 obtain ⟨tb,hb,qb⟩:=hb
 refine ⟨_,ZfG hc ha hb,fun σ ρ H α M Q s h q=> ?_⟩
 refine qc σ ρ H α M _ s h (OG.seq q fun k M1 v H1 α1 e1 h1 r1 q1=> ?_)
 cases r1
 cases k with
 |true=>exact Zhl (qa σ ρ H1 α1 M1 Q (s.mono e1) h1 q1)
 |false=>exact Zhk (qb σ ρ H1 α1 M1 Q (s.mono e1) h1 q1)
variable {es:List Expr}{fs:Av}
noncomputable def aNil:Av:=fun _ M=> .ok [] M
noncomputable def Zc (f:Ev)(g:Av):Av:=fun ρ M=>(f ρ M).bind fun x M1=>(g ρ M1).bind fun xs M2=> .ok (x :: xs) M2
theorem Zd:DA X ξ [] aNil:=⟨_,Zgy,fun _ _ H α M _ _ h q=>q _ H α Ext.refl h .nil⟩
theorem Za (ha:DE X ξ e fa)(hr:DA X ξ es fs)(hs:starEach (e :: es) X.env=(false,eval e X.env) :: starEach es X.env:=by rfl):DA X ξ (e :: es) (Zc fa fs):=by
 obtain ⟨ta,ha,qa⟩:=ha
 obtain ⟨tb,hb,qb⟩:=hr
 refine ⟨_,ZcN ha hb hs,fun σ ρ H α M Q s h q=> ?_⟩
 refine qa σ ρ H α M _ s h (OG.seq q fun x M1 v H1 α1 e1 h1 r1 q1=> ?_)
 refine qb σ ρ H1 α1 M1 _ (s.mono e1) h1 (OG.seq q1 fun y M2 w H2 α2 e2 h2 r2 q2=> ?_)
 exact q2 _ H2 α2 Ext.refl h2 (.cons (Rep.mono e2 r1) r2)
noncomputable def Zdf (f:Av):Ev:=fun ρ M=>(f ρ M).bind fun xs M1=>if xs.length<=1000 then .ok (.tup xs) M1 else .bad
noncomputable def Zbg (f:Av):Ev:=fun ρ M=>(f ρ M).bind fun xs M1=>if xs.length<=1000 then .ok (.ref M1.length) (M1 ++ [.lst xs]) else .bad
theorem Zhn {n:Nat}(h:n<=1000):n<=sizeLine:=Nat.le_of_lt (Zeq h)
theorem Zew {x1}(ha:DA X ξ es fs):DE X ξ (.Tuple es x1 pos) (Zdf fs):=by
 obtain ⟨ta,ha,qa⟩:=ha
 refine ⟨_,ZiS ha,fun σ ρ H α M Q s h q=> ?_⟩
 refine qa σ ρ H α M _ s h (OG.seq q fun xs M1 vs H1 α1 e1 h1 r1 q1=> ?_)
 by_cases hl:xs.length<=1000
 ·rw[if_pos hl] at q1
  refine ⟨by rw[r1.length];exact Zhn hl,fun p hp=>q1 _ _ α1 (Ext.new0 hp) (h1.tup hp) (.tup Zr (Reps.mono (Ext.new0 hp) r1))⟩
 ·rw[if_neg hl] at q1
  exact q1.elim
theorem HR.last {K:PySem.W.Frag}{H:Hp}{α:List Addr}{M:Sto}(h:HR K H α M)(p:Addr):(α ++ [p])[M.length]?=some p:=by
 rw[<- h.len,List.getElem?_append_right (Nat.le_refl _),Nat.sub_self]
 rfl
theorem Zak (ha:DA X ξ es fs):DE X ξ (.List es pos) (Zbg fs):=by
 obtain ⟨ta,ha,qa⟩:=ha
 refine ⟨_,ZiT ha,fun σ ρ H α M Q s h q=> ?_⟩
 refine qa σ ρ H α M _ s h (OG.seq q fun xs M1 vs H1 α1 e1 h1 r1 q1=> ?_)
 by_cases hl:xs.length<=1000
 ·rw[if_pos hl] at q1
  refine ⟨by rw[r1.length];exact Zhn hl,fun p hp=>q1 _ _ (α1 ++ [p]) (Ext.new hp) (h1.new hp r1) (.ref ⟨h1.last p,Kn.lst Zr⟩)⟩
 ·rw[if_neg hl] at q1
  exact q1.elim
end
end DL
end
section
namespace DL
open PySem PySem.Spec PyProof.Rows L2
open PySem.SeqAt (EqAt RcAt RcNeAt)
noncomputable def Zs (i j:Int):Prop:=Builtin.Int.intBits i<=64\/Builtin.Int.intBits j<=64\/(Builtin.Int.intBits i<=60000000/\Builtin.Int.intBits j<=60000000)
noncomputable instance (i j:Int):Decidable (Zs i j):=by unfold Zs;infer_instance
theorem Zs.ok {i j:Int}(h:Zs i j):IntMulOk i j:=by
 rcases h with h | h | ⟨h1,h2⟩
 ·exact .of_left h
 ·exact .of_right h
 ·exact .of_le h1 h2 (by decide)
noncomputable def ZK (j:Int):Prop:=j≠0/\j.natAbs.log2 < 9000
noncomputable instance (j:Int):Decidable (ZK j):=by unfold ZK;infer_instance
theorem ZdH {j:Int}(h0:j≠0)(h:j.natAbs < 2 ^ 9000):ZK j:=⟨h0,(Nat.log2_lt (by omega)).mpr h⟩
section
variable {X:Cx}
theorem Zho:OpR X (binaryOp .Mult) (rI Zs fun i j=> .int (i * j)):=opI fun _ _ _ _ _ _ _ hc q=>mul_int q hc.ok
theorem ZfW:OpR X (binaryOp .FloorDiv) (rI (fun _ j=>ZK j) fun i j=> .int (i.fdiv j)):=opI fun _ _ _ _ _ _ _ hc q=>floordiv_int hc.1 q (.inl (PyProof.noPylong_of_log2 hc.2))
end
noncomputable def dAdd:Bo:=fun x y M=>match x,y with
 | .int i,.int j=> .ok (.int (i + j)) M
 | .str i,.str j=>if i.length + j.length<=100000 then .ok (.str (i ++ j)) M else .bad
 | .ref n,.ref m=>match M[n]?,M[m]? with
  |some (.lst xs),some (.lst ys)=>if xs.length + ys.length<=10000000 then .ok (.ref M.length) (M ++ [.lst (xs ++ ys)]) else .bad
  |_,_=> .bad
 | .tup xs,.tup ys=>if xs.length + ys.length<=100000/\xs≠[] then .ok (.tup (xs ++ ys)) M else .bad
 |_,_=> .bad
noncomputable def dSub:Bo:=fun x y M=>match x,y with | .int i,.int j=> .ok (.int (i - j)) M | _,_=> .bad
noncomputable def dMul:Bo:=fun x y M=>match x,y with | .int i,.int j=>if Zs i j then .ok (.int (i * j)) M else .bad | _,_=> .bad
noncomputable def dDiv:Bo:=fun x y M=>match x,y with | .int i,.int j=>if ZK j then .ok (.int (i.fdiv j)) M else .bad | _,_=> .bad
noncomputable def dMod:Bo:=fun x y M=>match x,y with | .int i,.int j=>if j≠0 then .ok (.int (i.fmod j)) M else .bad | _,_=> .bad
noncomputable def dPow:Bo:=fun x y M=>match x,y with | .int i,.int j=>if 0<=j/\j<=1000000/\i.natAbs < 2 ^ 64 then .ok (.int (i ^ j.toNat)) M else .bad | _,_=> .bad
noncomputable def dLt:Bo:=fun x y M=>match x,y with | .int i,.int j=> .ok (.bl (decide (i < j))) M | _,_=> .bad
noncomputable def dLe:Bo:=fun x y M=>match x,y with | .int i,.int j=> .ok (.bl (decide (i<=j))) M | _,_=> .bad
noncomputable def dGt:Bo:=fun x y M=>match x,y with | .int i,.int j=> .ok (.bl (decide (j < i))) M | _,_=> .bad
noncomputable def dGe:Bo:=fun x y M=>match x,y with | .int i,.int j=> .ok (.bl (decide (j<=i))) M | _,_=> .bad
theorem Zex {n:Nat}(h:n<=100000):n<=sizeLine:=Nat.le_trans h (by decide)
section
variable {X:Cx}{ξ:XK}
theorem Za6 {r:R2}{f:Bo}{C:Int->Int->Prop}[∀ i j,Decidable (C i j)]{g:Int->Int->D}{gV:Int->Int->V}(hg: ∀ H α i j,Rep X.K H α (gV i j) (g i j))
  (hf: ∀ x y M,f x y M=match x,y with | .int i,.int j=>if C i j then .ok (g i j) M else .bad | _,_=> .bad) (hr: ∀ i j H Q,C i j->Q (gV i j) H->r (.int i) (.int j) H Q):BO X ξ r f:=by
 intro H α M v w x y Q h rv rw' q;rw[hf] at q;cases rv<;>first | exact q.elim | skip
 cases rw'<;>first | exact q.elim | skip
 rename_i i j
 by_cases c:C i j
 ·simp only[if_pos c] at q
  exact hr i j H Q c (q _ H α Ext.refl h (hg H α i j))
 ·simp only[if_neg c] at q
  exact q.elim
theorem Zi6:BO X ξ (rI0 fun i j=> .int (i - j)) dSub:=Za6 (C:=fun _ _=>True) (fun _ _ i j=> .int (i - j)) (fun x y M=>by cases x<;>cases y<;>simp[dSub]) fun i j H Q _ q=>⟨i,j,rfl,rfl,q⟩
theorem Zi7:BO X ξ (rI Zs fun i j=> .int (i * j)) dMul:=Za6 (C:=Zs) (fun _ _ i j=> .int (i * j)) (fun x y M=>by cases x<;>cases y<;>rfl) fun i j H Q c q=>⟨i,j,rfl,rfl,c,q⟩
theorem Zi8:BO X ξ (rI (fun _ j=>ZK j) fun i j=> .int (i.fdiv j)) dDiv:=Za6 (C:=fun _ j=>ZK j) (fun _ _ i j=> .int (i.fdiv j)) (fun x y M=>by cases x<;>cases y<;>rfl) fun i j H Q c q=>⟨i,j,rfl,rfl,c,q⟩
theorem Zi9:BO X ξ (rI (fun _ j=>j≠0) fun i j=> .int (i.fmod j)) dMod:=Za6 (C:=fun _ j=>j≠0) (fun _ _ i j=> .int (i.fmod j)) (fun x y M=>by cases x<;>cases y<;>rfl) fun i j H Q c q=>⟨i,j,rfl,rfl,c,q⟩
theorem Zja:BO X ξ (rI ZnG fun i j=> .int (i ^ j.toNat)) dPow:=Za6 (C:=fun i j=>0<=j/\j<=1000000/\i.natAbs < 2 ^ 64) (fun _ _ i j=> .int (i ^ j.toNat)) (fun x y M=>by cases x<;>cases y<;>rfl) fun i j H Q c q=>⟨i,j,rfl,rfl,c,q⟩
theorem Zjb:BO X ξ (rI0 fun i j=> .bl (decide (i < j))) dLt:=Za6 (C:=fun _ _=>True) (fun _ _ i j=> .bl _) (fun x y M=>by cases x<;>cases y<;>simp[dLt]) fun i j H Q _ q=>⟨i,j,rfl,rfl,q⟩
theorem ZfX:BO X ξ (rI0 fun i j=> .bl (decide (j < i))) dGt:=Za6 (C:=fun _ _=>True) (fun _ _ i j=> .bl _) (fun x y M=>by cases x<;>cases y<;>simp[dGt]) fun i j H Q _ q=>⟨i,j,rfl,rfl,q⟩
theorem Zhp:BO X ξ (rI0 fun i j=> .bl (decide (j<=i))) dGe:=Za6 (C:=fun _ _=>True) (fun _ _ i j=> .bl _) (fun x y M=>by cases x<;>cases y<;>simp[dGe]) fun i j H Q _ q=>⟨i,j,rfl,rfl,q⟩
theorem Zhq:OpR X (binaryOp .Add) (fun x y H Q=>(rI0 (fun i j=> .int (i + j)) x y H Q\/(∃ i j,x= .str i/\y= .str j/\i.length + j.length<=sizeLine/\Q (.str (i ++ j)) H))\/(rCat x y H Q\/Zhe X.K x y H Q)):=
 OpR.or (OpR.or ZiL ZdF) (OpR.or Zi0 Zhf)
theorem Zjc:BO X ξ (fun x y H Q=>(rI0 (fun i j=> .int (i + j)) x y H Q\/(∃ i j,x= .str i/\y= .str j/\i.length + j.length<=sizeLine/\Q (.str (i ++ j)) H))\/(rCat x y H Q\/Zhe X.K x y H Q)) dAdd:=by
 intro H α M v w x y Q h rv rw' q;unfold dAdd at q
 split at q
 ·rename_i i j
  cases rv
  cases rw'
  exact .inl (.inl ⟨i,j,rfl,rfl,q _ H α Ext.refl h (.int (i + j))⟩)
 ·rename_i i j
  cases rv
  cases rw'
  split at q
  ·rename_i c
   exact .inl (.inr ⟨i,j,rfl,rfl,Zex c,q _ H α Ext.refl h (.str _)⟩)
  ·exact q.elim
 ·rename_i n m
  cases rv with
  | @ref p _ hp=>
   cases rw' with
   | @ref p2 _ hp2=>
    split at q
    ·rename_i ds ds2 e1 e2
     split at q
     ·rename_i c
      obtain ⟨xs,g1,r1⟩:=h.at hp e1
      obtain ⟨ys,g2,r2⟩:=h.at hp2 e2
      refine .inr (.inl ⟨p,p2,xs,ys,rfl,rfl,g1,g2,by rw[r1.length,r2.length];exact Nat.le_trans c (by decide),fun l hl=> ?_⟩)
      exact q _ _ (α ++ [l]) (Ext.new hl) (h.new hl (r1.append r2)) (.ref ⟨h.last l,Kn.lst Zr⟩)
     ·exact q.elim
    ·exact q.elim
 ·rename_i ds ds2
  cases rv with
  | @tup p xs _ hp rp=>
   cases rw' with
   | @tup p2 xs2 _ hp2 rp2=>
    split at q
    ·rename_i c
     have nx:xs≠[]:=fun z=>c.2 (by have:=rp.length;rw[z] at this;exact List.eq_nil_of_length_eq_zero this.symm)
     refine .inr (.inr ⟨p,p2,xs,xs2,rfl,rfl,(SqT.of hp),(SqT.of hp2),nx,by rw[rp.length,rp2.length];exact Zex c.1,fun z=> ?_,fun _ l hl=> ?_⟩)
     ·subst z
      cases rp2
      rw[List.append_nil] at q;exact q _ H α Ext.refl h (.tup hp rp)
     ·exact q _ _ α (Ext.new0 hl) (h.tup hl) (.tup Zr (Reps.mono (Ext.new0 hl) (rp.append rp2)))
    ·exact q.elim
 ·exact q.elim
variable {a b e:Expr}{fa fb:Ev}{pos:Pos}
theorem Z2 (ha:DE X ξ a fa)(hb:DE X ξ b fb):DE X ξ (.BinOp a .Add b pos) (e2 dAdd fa fb):=ZcS Zhq Zjc ha hb
theorem Zci (ha:DE X ξ a fa)(hb:DE X ξ b fb):DE X ξ (.BinOp a .Sub b pos) (e2 dSub fa fb):=ZcS ZiM Zi6 ha hb
theorem Zal (ha:DE X ξ a fa)(hb:DE X ξ b fb):DE X ξ (.BinOp a .Mult b pos) (e2 dMul fa fb):=ZcS Zho Zi7 ha hb
theorem Zdg (ha:DE X ξ a fa)(hb:DE X ξ b fb):DE X ξ (.BinOp a .FloorDiv b pos) (e2 dDiv fa fb):=ZcS ZfW Zi8 ha hb
theorem ZaG (ha:DE X ξ a fa)(hb:DE X ξ b fb):DE X ξ (.BinOp a .Mod b pos) (e2 dMod fa fb):=ZcS Zg5 Zi9 ha hb
theorem ZaH (ha:DE X ξ a fa)(hb:DE X ξ b fb):DE X ξ (.BinOp a .Pow b pos) (e2 dPow fa fb):=ZcS ZiN Zja ha hb
noncomputable def Zey (f:Ev):Ev:=fun ρ M=>(f ρ M).bind fun x M1=>match x with | .int i=> .ok (.int (-i)) M1 | _=> .bad
theorem Zjd (ha:DE X ξ a fa):DE X ξ (.UnaryOp .USub a pos) (Zey fa):=by
 obtain ⟨ta,ha,qa⟩:=ha
 refine ⟨_,ZlM ZiO ha,fun σ ρ H α M Q s h q=> ?_⟩
 refine qa σ ρ H α M _ s h (OG.seq q fun x M1 v H1 α1 e1 h1 r1 q1=> ?_)
 cases r1 with
 |int i=>exact ⟨i,rfl,q1 _ H1 α1 Ext.refl h1 (.int (-i))⟩
 |_=>exact q1.elim
noncomputable def atD (xs:List D)(i:Int)(M:Sto):Out D:=match atI xs i with | some d=> .ok d M | none=> .bad
noncomputable def dIx:Bo:=fun x y M=>match x,y with
 | .tup xs,.int i=>atD xs i M
 | .rol xs,.int i=>atD xs i M
 | .ref n,.int i=>match M[n]? with | some (.lst xs)=>atD xs i M | _=> .bad
 |_,_=> .bad
theorem Reps.atI {K:PySem.W.Frag}{H:Hp}{α:List Addr}{vs:List V}{ds:List D}{i:Int}{d:D}(r:Reps K H α vs ds)(h:L2.atI ds i=some d): ∃ v,L2.atI vs i=some v/\Rep K H α v d:=by
 unfold L2.atI at h ⊢;rw[r.length];cases e:ixN ds.length i with
 |none=>rw[e] at h;cases h
 |some j=>
  rw[e] at h;exact r.get h
theorem ZlW:BO X ξ (fun x y H Q=>ZnH X.K x y H Q\/ZnI X.K x y H Q) dIx:=by
 intro H α M v w x y Q h rv rw' q;have at': ∀ {ds:List D} {i:Int},OP X.K H α ξ Q (atD ds i M)-> ∃ d,L2.atI ds i=some d/\OP X.K H α ξ Q (.ok d M):=fun {ds i} q=>by
  unfold atD at q;cases e:L2.atI ds i with
  |none=>rw[e] at q;exact q.elim
  |some d=>rw[e] at q;exact ⟨d,rfl,q⟩
 unfold dIx at q
 split at q
 ·rename_i ds i
  cases rw'
  cases rv with
  | @tup p xs _ hp rp=>
   obtain ⟨d,e,q⟩:=at' q
   obtain ⟨v,h1,h2⟩:=rp.atI e
   exact .inr ⟨p,xs,i,v,rfl,rfl,(SqT.of hp),h1,q v H α Ext.refl h h2⟩
 ·rename_i ds i
  cases rw'
  cases rv with
  | @rol p xs _ hp rp=>
   obtain ⟨d,e,q⟩:=at' q
   obtain ⟨v,h1,h2⟩:=rp.atI e
   exact .inl ⟨p,xs,i,v,rfl,rfl,hp.sq,h1,q v H α Ext.refl h h2⟩
 ·rename_i n i
  cases rw'
  cases rv with
  | @ref p _ hp=>
   split at q
   ·rename_i ds e1
    obtain ⟨d,e,q⟩:=at' q
    obtain ⟨xs,g1,r1⟩:=h.at hp e1
    obtain ⟨v,h1,h2⟩:=r1.atI e
    exact .inl ⟨p,xs,i,v,rfl,rfl,SqL.of g1,h1,q v H α Ext.refl h h2⟩
   ·exact q.elim
 ·exact q.elim
theorem ZL (ha:DE X ξ a fa)(hb:DE X ξ b fb)(hs:Zen b:=by exact fun _ _=>rfl):DE X ξ (.Subscript a b pos) (e2 dIx fa fb):=by
 obtain ⟨ta,ha,qa⟩:=ha
 obtain ⟨tb,hb,qb⟩:=hb
 exact ⟨_,ZlS (IxR.or Zhh ZiW) ha hb hs,two ZlW qa qb⟩
end
inductive Kd where
 |non | bl (b:Bool) | int (i:Int) | str (x:Str) | tup (xs:List D) | lst (xs:List D)
noncomputable def kd (M:Sto):D->Option Kd
 | .non=>some .non
 | .bl b=>some (.bl b)
 | .int i=>some (.int i)
 | .str x=>some (.str x)
 | .tup xs=>some (.tup xs)
 | .rol xs=>some (.lst xs)
 | .con xs=>some (.tup xs)
 | .ref n=>match M[n]? with | some (.lst xs)=>some (.lst xs) | _=>none
 | .err _ _=>none
 | .dk _=>none
 | .dt _=>none
 | .fn _=>none
noncomputable def eqL (f:D->D->Option Bool):List D->List D->Option Bool
 | [],[]=>some true
 |x :: xs,y :: ys=>match f x y with | some a=>(match eqL f xs ys with | some b=>some (a && b) | none=>none) | none=>none
 |_,_=>some false
noncomputable def eqK (f:D->D->Option Bool):Kd->Kd->Option Bool
 | .non,.non=>some true
 | .bl a,.bl b=>some (a == b)
 | .bl a,.int b=>some ((if a then 1 else 0) == b)
 | .int a,.bl b=>some (a == (if b then 1 else 0))
 | .int a,.int b=>some (a == b)
 | .str a,.str b=>some (a == b)
 | .tup xs,.tup ys=>eqL f xs ys
 | .lst xs,.lst ys=>if xs.length=ys.length then eqL f xs ys else some false
 |_,_=>some false
noncomputable def eqF:Nat->Sto->D->D->Option Bool
 |0,_,_,_=>none
 |n + 1,M,x,y=>match kd M x,kd M y with | some a,some b=>eqK (eqF n M) a b | _,_=>none
inductive Vw (X:Cx) (H:Hp) (α:List Addr) (s:Shared):Kd->Value->Prop where
 |non:Vw X H α s .non .none
 |bl (b:Bool):Vw X H α s (.bl b) (.bool b)
 |int (i:Int) (t:Tok):Vw X H α s (.int i) (.int i t)
 |str (x:Str) (t:Tok):Vw X H α s (.str x) (.str x t)
 |tup {p:Addr} {xs:List V} {ds:List D} {its:List Value}:s.heap.IsTuple p its.toArray->ZB xs its->Reps X.K H α xs ds->Vw X H α s (.tup ds) (.ref p)
 |lst {p:Addr} {xs:List V} {ds:List D} {its:List Value}:s.heap.IsList p its.toArray->ZB xs its->Reps X.K H α xs ds->Vw X H α s (.lst ds) (.ref p)
section
variable {X:Cx}{ξ:XK}{pins:List (Addr × Obj)}{σ:L2.St}{H:Hp}{s:Shared}{α:List Addr}{M:Sto}
theorem vw (I:Inv X pins σ H s)(h:HR X.K H α M){v:V}{x:D}{u:Value}{k:Kd}(r:Rep X.K H α v x)(ru:ZO v u)(e:kd M x=some k):Vw X H α s k u:=by
 cases r with
 |non=>cases e;cases ru;exact .non
 |bl b=>cases e;cases ru;exact .bl b
 |int i=>cases e;obtain ⟨t,rfl⟩:=ru;exact .int i t
 |str x=>cases e;obtain ⟨t,rfl⟩:=ru;exact .str x t
 |err _ _ _=>cases e
 |dk _=>cases e
 |dt _=>cases e
 |fn _=>cases e
 | @tup p xs ds hp rp=>
  cases e;cases ru
  obtain ⟨its,h1,h2,_⟩:=I.tuple (SqT.of hp)
  exact .tup h2 h1 rp
 | @con p xs ds hp rp=>
  cases e;cases ru
  obtain ⟨its,h1,h2,_⟩:=I.tuple hp.sq
  exact .tup h2 h1 rp
 | @rol p xs ds hp rp=>
  cases e;cases ru
  obtain ⟨its,h1,h2,_⟩:=I.list hp.sq
  exact .lst h2.isList h1 rp
 | @ref p n hp=>
  cases ru
  cases e1:M[n]? with
  |none=>simp only[kd,e1] at e;cases e
  |some o=>
   cases o with
   |lst ds=>
    simp only[kd,e1] at e;cases e
    obtain ⟨xs,g1,r1⟩:=h.at hp e1
    obtain ⟨its,h1,h2,_⟩:=I.list (SqL.of g1)
    exact .lst h2.isList h1 r1
noncomputable def Eq3 (A:Around)(s:Shared)(u z:Value)(b:Bool):Prop:=EqAt A s u z b/\RcAt A s u z b/\RcNeAt A s u z (!b)
theorem Zez {f:D->D->Option Bool}: ∀ {xs ys:List D} {b:Bool},eqL f xs ys=some b->
  (∀ (j:Nat) x y,xs[j]?=some x->ys[j]?=some y-> ∃ c,f x y=some c)/\
  b=((List.range (min xs.length ys.length)).all (fun j=>match xs[j]?,ys[j]? with | some x,some y=>(f x y).getD false | _,_=>false) && xs.length == ys.length)
 | [],[],b,e=>by
  simp only[eqL,Option.some.injEq] at e;subst e;exact ⟨fun j x y h=>(by simp at h),(by simp)⟩
 |x :: xs,[],b,e=>by
  simp only[eqL,Option.some.injEq] at e;subst e;exact ⟨fun j x y h1 h2=>(by simp at h2),(by simp)⟩
 | [],y :: ys,b,e=>by
  simp only[eqL,Option.some.injEq] at e;subst e;exact ⟨fun j x y h1 h2=>(by simp at h1),(by simp)⟩
 |x :: xs,y :: ys,b,e=>by
  cases e1:f x y with
  |none=>simp only[eqL,e1] at e;cases e
  |some a=>
   cases e2:eqL f xs ys with
   |none=>simp only[eqL,e1,e2] at e;cases e
   |some c=>
    simp only[eqL,e1,e2,Option.some.injEq] at e;subst e;obtain ⟨h1,h2⟩:=Zez e2
    refine ⟨fun j x' y' g1 g2=> ?_,?_⟩
    ·cases j with
     |zero=>
      simp at g1 g2
      subst g1 g2;exact ⟨a,e1⟩
     |succ j=>
      simp at g1 g2
      exact h1 j x' y' g1 g2
    ·have em:min (x :: xs).length (y :: ys).length=min xs.length ys.length + 1:=by simp only[List.length_cons];omega
     rw[em,List.range_succ_eq_map,List.all_cons,List.all_map,h2]
     simp[e1,Bool.and_assoc,Function.comp_def]
theorem ZfY (I:Inv X pins σ H s)(h:HR X.K H α M): ∀ (n:Nat) {v:V} {x y:D} {b:Bool},Rep X.K H α v x->Rep X.K H α v y->eqF n M x y=some b->b=true:=by
 intro n
 induction n with
 |zero=>intro v x y b _ _ e;simp only[eqF] at e;cases e
 |succ n ih=>
  have lists: ∀ (vs:List V) (xs ys:List D) (b:Bool),Reps X.K H α vs xs->Reps X.K H α vs ys->eqL (eqF n M) xs ys=some b->b=true:=by
   intro vs
   induction vs with
   |nil=>
    intro xs ys b r1 r2 e;cases r1;cases r2
    simp only[eqL,Option.some.injEq] at e;exact e.symm
   |cons v vs iv=>
    intro xs ys b r1 r2 e;cases r1 with
    |cons p1 t1=>
     cases r2 with
     |cons p2 t2=>
      rename_i d1 ds1 d2 ds2;cases e1:eqF n M d1 d2 with
      |none=>simp only[eqL,e1] at e;cases e
      |some a=>
       cases e2:eqL (eqF n M) ds1 ds2 with
       |none=>simp only[eqL,e1,e2] at e;cases e
       |some c=>
        simp only[eqL,e1,e2,Option.some.injEq] at e;rw[<- e,ih p1 p2 e1,iv _ _ _ t1 t2 e2];rfl
  intro v x y b r1 r2 e;have nl: ∀ {p:Addr} {xs ys:List V},SqT X.K H p xs->SqL X.K H p ys->False:=fun {p xs ys} a c=>by
   obtain ⟨i1,_,⟨o1,g1,c1,_⟩,_⟩:=I.tuple a
   obtain ⟨i2,_,⟨o2,_,g2,c2,_⟩,_⟩:=I.list c
   rw[g1] at g2;cases g2
   rw[c1] at c2;exact absurd c2 (by decide)
  have ll: ∀ {p:Addr} {n:Nat} {ds:List D},RefK H α 0 n p->M[n]?=some (.lst ds)-> ∃ vs,SqL X.K H p vs/\Reps X.K H α vs ds:=fun {p n ds} a c=>by
   obtain ⟨xs,g1,r1⟩:=h.at a c
   exact ⟨xs,SqL.of g1,r1⟩
  cases r1 with
  |non=>cases r2;simp only[eqF,kd,eqK,Option.some.injEq] at e;exact e.symm
  |bl c=>cases r2;simp only[eqF,kd,eqK,Option.some.injEq,beq_self_eq_true] at e;exact e.symm
  |int c=>cases r2;simp only[eqF,kd,eqK,Option.some.injEq,beq_self_eq_true] at e;exact e.symm
  |str c=>cases r2;simp only[eqF,kd,eqK,Option.some.injEq,beq_self_eq_true] at e;exact e.symm
  |err _ _ _=>simp[eqF,kd] at e
  |dk _=>simp[eqF,kd] at e
  |dt _=>simp[eqF,kd] at e
  |fn _=>simp[eqF,kd] at e
  | @tup p xs ds hp rp=>
   cases r2 with
   | @tup _ xs2 ds2 hp2 rp2=>
    cases I.tuple_inj (SqT.of hp) (SqT.of hp2)
    simp only[eqF,kd,eqK] at e;exact lists _ _ _ _ rp rp2 e
   | @con _ xs2 ds2 hp2 rp2=>
    cases I.tuple_inj (SqT.of hp) hp2.sq
    simp only[eqF,kd,eqK] at e;exact lists _ _ _ _ rp rp2 e
   | @rol _ xs2 ds2 hp2 rp2=>exact (nl (SqT.of hp) hp2.sq).elim
   |err _ _ _=>simp[eqF,kd] at e
   |dk _=>simp[eqF,kd] at e
   |dt _=>simp[eqF,kd] at e
   |fn _=>simp[eqF,kd] at e
   | @ref _ n2 hp2=>
    obtain ⟨ys,g⟩:=h.some_at hp2
    exact (nl (SqT.of hp) (SqL.of g)).elim
  | @con p xs ds hp rp=>
   cases r2 with
   | @tup _ xs2 ds2 hp2 rp2=>
    cases I.tuple_inj hp.sq (SqT.of hp2)
    simp only[eqF,kd,eqK] at e;exact lists _ _ _ _ rp rp2 e
   | @con _ xs2 ds2 hp2 rp2=>
    cases I.tuple_inj hp.sq hp2.sq
    simp only[eqF,kd,eqK] at e;exact lists _ _ _ _ rp rp2 e
   | @rol _ xs2 ds2 hp2 rp2=>exact (nl hp.sq hp2.sq).elim
   |err _ _ _=>simp[eqF,kd] at e
   |dk _=>simp[eqF,kd] at e
   |dt _=>simp[eqF,kd] at e
   |fn _=>simp[eqF,kd] at e
   | @ref _ n2 hp2=>
    obtain ⟨ys,g⟩:=h.some_at hp2
    exact (nl hp.sq (SqL.of g)).elim
  | @rol p xs ds hp rp=>
   cases r2 with
   | @tup _ xs2 ds2 hp2 rp2=>exact (nl (SqT.of hp2) hp.sq).elim
   | @con _ xs2 ds2 hp2 rp2=>exact (nl hp2.sq hp.sq).elim
   |err _ _ _=>simp[eqF,kd] at e
   |dk _=>simp[eqF,kd] at e
   |dt _=>simp[eqF,kd] at e
   |fn _=>simp[eqF,kd] at e
   | @rol _ xs2 ds2 hp2 rp2=>
    cases I.list_inj hp.sq hp2.sq
    simp only[eqF,kd,eqK,if_pos (rp.length.symm.trans rp2.length)] at e;exact lists _ _ _ _ rp rp2 e
   | @ref _ n2 hp2=>
    cases e1:M[n2]? with
    |none=>simp only[eqF,kd,e1] at e;cases e
    |some o=>
     cases o with
     |lst ds2=>
      obtain ⟨ys,g,r⟩:=ll hp2 e1
      cases I.list_inj hp.sq g
      simp only[eqF,kd,e1,eqK,if_pos (rp.length.symm.trans r.length)] at e;exact lists _ _ _ _ rp r e
  | @ref p n1 hp=>
   cases e0:M[n1]? with
   |none=>simp only[eqF,kd,e0] at e;cases e
   |some o0=>
    cases o0 with
    |lst ds=>
     obtain ⟨xs,g0,rp⟩:=ll hp e0
     cases r2 with
     | @tup _ xs2 ds2 hp2 rp2=>exact (nl (SqT.of hp2) g0).elim
     | @con _ xs2 ds2 hp2 rp2=>exact (nl hp2.sq g0).elim
     |err _ _ _=>simp[eqF,kd,e0] at e
     |dk _=>simp[eqF,kd,e0] at e
     |dt _=>simp[eqF,kd,e0] at e
     |fn _=>simp[eqF,kd,e0] at e
     | @rol _ xs2 ds2 hp2 rp2=>
      cases I.list_inj g0 hp2.sq
      simp only[eqF,kd,e0,eqK,if_pos (rp.length.symm.trans rp2.length)] at e;exact lists _ _ _ _ rp rp2 e
     | @ref _ n2 hp2=>
      cases e1:M[n2]? with
      |none=>simp only[eqF,kd,e0,e1] at e;cases e
      |some o=>
       cases o with
       |lst ds2=>
        obtain ⟨ys,g,r⟩:=ll hp2 e1
        cases I.list_inj g0 g
        simp only[eqF,kd,e0,e1,eqK,if_pos (rp.length.symm.trans r.length)] at e;exact lists _ _ _ _ rp r e
end
end DL
end
section
namespace DL
open PySem PySem.Spec PyProof.Rows L2
open PySem.SeqAt (EqAt RcAt RcNeAt)
section
variable {X:Cx}{ξ:XK}{pins:List (Addr × Obj)}{σ:L2.St}{H:Hp}{s:Shared}{α:List Addr}{M:Sto}
theorem Zdh {A:Around}{n:Nat}{xs1 xs2:List V}{ds1 ds2:List D}{i1 i2:List Value}{b:Bool}(v1:ZB xs1 i1)(v2:ZB xs2 i2)(r1:Reps X.K H α xs1 ds1)(r2:Reps X.K H α xs2 ds2)
  (ih: ∀ (x y:D) (v w:V) (u z:Value) (b:Bool),eqF n M x y=some b->Rep X.K H α v x->Rep X.K H α w y->ZO v u->ZO w z->EqAt A s u z b) (e:eqL (eqF n M) ds1 ds2=some b):
  ∃ f:Nat->Bool,(∀ (j:Nat) (h1:j < i1.toArray.size) (h2:j < i2.toArray.size),EqAt A s i1.toArray[j] i2.toArray[j] (f j))/\b=((List.range (min i1.toArray.size i2.toArray.size)).all f && i1.toArray.size == i2.toArray.size):=by
 obtain ⟨g1,g2⟩:=Zez e
 have l1:i1.toArray.size=ds1.length:=by rw[List.size_toArray,<- v1.length,r1.length]
 have l2:i2.toArray.size=ds2.length:=by rw[List.size_toArray,<- v2.length,r2.length]
 refine ⟨_,fun j h1 h2=> ?_,by rw[l1,l2];exact g2⟩
 have k1:j < ds1.length:=by rw[<- l1];exact h1
 have k2:j < ds2.length:=by rw[<- l2];exact h2
 obtain ⟨c,hc⟩:=g1 j _ _ (List.getElem?_eq_getElem k1) (List.getElem?_eq_getElem k2)
 obtain ⟨v,a1,a2⟩:=r1.get (List.getElem?_eq_getElem k1)
 obtain ⟨w,b1,b2⟩:=r2.get (List.getElem?_eq_getElem k2)
 obtain ⟨u,a3,a4⟩:=v1.get a1
 obtain ⟨z,b3,b4⟩:=v2.get b1
 have q:=ih _ _ v w u z c hc a2 b2 a4 b4
 simp only[List.getElem?_eq_getElem k1,List.getElem?_eq_getElem k2,hc,Option.getD_some]
 have e1:i1.toArray[j]=u:=by
  have:=List.getElem?_eq_some_iff.mp a3
  obtain ⟨_,z⟩:=this
  simpa using z
 have e2:i2.toArray[j]=z:=by
  have:=List.getElem?_eq_some_iff.mp b3
  obtain ⟨_,z⟩:=this
  simpa using z
 rw[e1,e2];exact q
theorem ZeA (I:Inv X pins σ H s)(h:HR X.K H α M){n:Nat}{x y:D}{v w:V}{p q:Addr}{b:Bool}{A:Around}(e:eqF n M x y=some b)(rx:Rep X.K H α v x)(ry:Rep X.K H α w y)(rv:ZO v (.ref p))(rw':ZO w (.ref q))
  (k:RcAt A s (.ref p) (.ref q) b) (k':RcNeAt A s (.ref p) (.ref q) (!b)):Eq3 A s (.ref p) (.ref q) b:=by
 refine ⟨?_,k,k'⟩
 by_cases c:p=q
 ·subst c
  cases ZO.inj rv rw'
  rw[ZfY I h n rx ry e];exact EqAt.same _
 ·exact EqAt.of_refs c k
theorem eq3 (I:Inv X pins σ H s)(h:HR X.K H α M): ∀ (n:Nat) (x y:D) (v w:V) (u z:Value) (b:Bool) (A:Around),A.units + n < cLine->eqF n M x y=some b->Rep X.K H α v x->Rep X.K H α w y->ZO v u->ZO w z->Eq3 A s u z b:=by
 intro n
 induction n with
 |zero=>intro x y v w u z b A _ e;simp only[eqF] at e;cases e
 |succ n ih=>
  intro x y v w u z b A hn e rx ry rv rw';have hu:A.units < cLine:=by omega
  have e0:=e
  unfold eqF at e;cases ka:kd M x with
  |none=>rw[ka] at e;cases e
  |some ka'=>
   cases kb:kd M y with
   |none=>rw[ka,kb] at e;cases e
   |some kb'=>
    rw[ka,kb] at e;have va:=vw I h rx rv ka
    have vb:=vw I h ry rw' kb
    have deep: ∀ (x y:D) (v w:V) (u z:Value) (b:Bool),eqF n M x y=some b->Rep X.K H α v x->Rep X.K H α w y->ZO v u->ZO w z->EqAt A.in1 s u z b:=fun x y v w u z b e a1 a2 a3 a4=>
     (ih x y v w u z b A.in1 (by rw[Around.in1_units];omega) e a1 a2 a3 a4).1
    cases va with
    |non=>
     cases vb<;>simp only[eqK,Option.some.injEq] at e<;>subst e
     ·exact ⟨EqAt.same _,.none_none,.none_none⟩
     ·exact ⟨.none_bool _,.none_bool _,.none_bool _⟩
     ·exact ⟨.none_int _ _,.none_int _ _,.none_int _ _⟩
     ·exact ⟨.none_str _ _,.none_str _ _,.none_str _ _⟩
     ·rename_i g _ _;exact ⟨.none_tuple g hu,.none_tuple g hu,.none_tuple g hu⟩
     ·rename_i g _ _;exact ⟨.none_list g hu,.none_list g hu,.none_list g hu⟩
    |bl c=>
     cases vb<;>simp only[eqK,Option.some.injEq] at e<;>subst e
     ·exact ⟨.bool_none _,.bool_none _,.bool_none _⟩
     ·exact ⟨.bool_bool _ _,.bool_bool _ _,.bool_bool _ _⟩
     ·exact ⟨.bool_int _ _ _,.bool_int _ _ _,.bool_int _ _ _⟩
     ·exact ⟨.bool_str _ _ _,.bool_str _ _ _,.bool_str _ _ _⟩
     ·rename_i g _ _;exact ⟨.bool_tuple _ g hu,.bool_tuple _ g hu,.bool_tuple _ g hu⟩
     ·rename_i g _ _;exact ⟨.bool_list _ g hu,.bool_list _ g hu,.bool_list _ g hu⟩
    |int c t=>
     cases vb<;>simp only[eqK,Option.some.injEq] at e<;>subst e
     ·exact ⟨.int_none _ _,.int_none _ _,.int_none _ _⟩
     ·exact ⟨.int_bool _ _ _,.int_bool _ _ _,.int_bool _ _ _⟩
     ·exact ⟨.int_int _ _ _ _,.int_int _ _ _ _,.int_int _ _ _ _⟩
     ·exact ⟨.int_str _ _ _ _,.int_str _ _ _ _,.int_str _ _ _ _⟩
     ·rename_i g _ _;exact ⟨.int_tuple _ _ g hu,.int_tuple _ _ g hu,.int_tuple _ _ g hu⟩
     ·rename_i g _ _;exact ⟨.int_list _ _ g hu,.int_list _ _ g hu,.int_list _ _ g hu⟩
    |str c t=>
     cases vb<;>simp only[eqK,Option.some.injEq] at e<;>subst e
     ·exact ⟨.str_none _ _,.str_none _ _,.str_none _ _⟩
     ·exact ⟨.str_bool _ _ _,.str_bool _ _ _,.str_bool _ _ _⟩
     ·exact ⟨.str_int _ _ _ _,.str_int _ _ _ _,.str_int _ _ _ _⟩
     ·exact ⟨.str_str _ _ _ _,.str_str _ _ _ _,.str_str _ _ _ _⟩
     ·rename_i g _ _;exact ⟨.str_tuple _ _ g hu,.str_tuple _ _ g hu,.str_tuple _ _ g hu⟩
     ·rename_i g _ _;exact ⟨.str_list _ _ g hu,.str_list _ _ g hu,.str_list _ _ g hu⟩
    | @tup p xs ds its g1 w1 q1=>
     cases vb with
     | @tup p2 xs2 ds2 its2 g2 w2 q2=>
      simp only[eqK] at e;obtain ⟨f,hf,hb⟩:=Zdh w1 w2 q1 q2 deep e
      subst hb;exact ZeA I h e0 rx ry rv rw' (.tuples g1 g2 hu hf) (.tuples g1 g2 hu hf)
     | @lst p2 xs2 ds2 its2 g2 w2 q2=>
      simp only[eqK,Option.some.injEq] at e;subst e;exact ZeA I h e0 rx ry rv rw' (.tuple_list g1 g2 hu) (.tuple_list g1 g2 hu)
     |non=>simp only[eqK,Option.some.injEq] at e;subst e;exact ⟨.tuple_none g1 hu,.tuple_none g1 hu,.tuple_none g1 hu⟩
     |bl c=>simp only[eqK,Option.some.injEq] at e;subst e;exact ⟨.tuple_bool _ g1 hu,.tuple_bool _ g1 hu,.tuple_bool _ g1 hu⟩
     |int c t=>simp only[eqK,Option.some.injEq] at e;subst e;exact ⟨.tuple_int _ _ g1 hu,.tuple_int _ _ g1 hu,.tuple_int _ _ g1 hu⟩
     |str c t=>simp only[eqK,Option.some.injEq] at e;subst e;exact ⟨.tuple_str _ _ g1 hu,.tuple_str _ _ g1 hu,.tuple_str _ _ g1 hu⟩
    | @lst p xs ds its g1 w1 q1=>
     cases vb with
     | @lst p2 xs2 ds2 its2 g2 w2 q2=>
      simp only[eqK] at e;have l1:its.toArray.size=ds.length:=by rw[List.size_toArray,<- w1.length,q1.length]
      have l2:its2.toArray.size=ds2.length:=by rw[List.size_toArray,<- w2.length,q2.length]
      by_cases c:ds.length=ds2.length
      ·rw[if_pos c] at e
       have hs:its.toArray.size=its2.toArray.size:=by rw[l1,l2,c]
       obtain ⟨f,hf,hb⟩:=Zdh w1 w2 q1 q2 deep e
       rw[hs,Nat.min_self,beq_self_eq_true,Bool.and_true,<- hs] at hb;subst hb;exact ZeA I h e0 rx ry rv rw' (.lists g1 g2 hs hu hf) (.lists g1 g2 hs hu hf)
      ·rw[if_neg c] at e
       have e':false=b:=Option.some.inj e
       subst e';have hs:(its.toArray.size != its2.toArray.size)=true:=by rw[l1,l2];simpa using c
       exact ZeA I h e0 rx ry rv rw' (.lists_lengths g1 g2 hs hu) (.lists_lengths g1 g2 hs hu)
     | @tup p2 xs2 ds2 its2 g2 w2 q2=>
      simp only[eqK,Option.some.injEq] at e;subst e;exact ZeA I h e0 rx ry rv rw' (.list_tuple g1 g2 hu) (.list_tuple g1 g2 hu)
     |non=>simp only[eqK,Option.some.injEq] at e;subst e;exact ⟨.list_none g1 hu,.list_none g1 hu,.list_none g1 hu⟩
     |bl c=>simp only[eqK,Option.some.injEq] at e;subst e;exact ⟨.list_bool _ g1 hu,.list_bool _ g1 hu,.list_bool _ g1 hu⟩
     |int c t=>simp only[eqK,Option.some.injEq] at e;subst e;exact ⟨.list_int _ _ g1 hu,.list_int _ _ g1 hu,.list_int _ _ g1 hu⟩
     |str c t=>simp only[eqK,Option.some.injEq] at e;subst e;exact ⟨.list_str _ _ g1 hu,.list_str _ _ g1 hu,.list_str _ _ g1 hu⟩
end
section
variable {X:Cx}{ξ:XK}
noncomputable def Zlq (X:Cx)(neg:Bool):R2:=fun v w H Q=> ∃ α M x y b,HR X.K H α M/\Rep X.K H α v x/\Rep X.K H α w y/\eqF 12 M x y=some b/\Q (.bl (neg ^^ b)) H
theorem ZJ (hu:X.A.units + 64 < cLine):OpR X (compareOp .Eq) (Zlq X false):=by
 intro pins s σ H v w u z Q I rv rw' ⟨α,M,x,y,b,h,rx,ry,e,q⟩;refine (eq3 I h 12 x y v w u z b X.A (by omega) e rx ry rv rw').2.1 _ _ _ _ ⟨.bl b,H,I,rfl,?_⟩
 simpa using q
theorem Za7 (hu:X.A.units + 64 < cLine):OpR X (compareOp .NotEq) (Zlq X true):=by
 intro pins s σ H v w u z Q I rv rw' ⟨α,M,x,y,b,h,rx,ry,e,q⟩;refine (eq3 I h 12 x y v w u z b X.A (by omega) e rx ry rv rw').2.2 _ _ _ _ ⟨.bl (!b),H,I,rfl,?_⟩
 simpa using q
noncomputable def dEq:Bo:=fun x y M=>match eqF 12 M x y with | some b=> .ok (.bl b) M | none=> .bad
noncomputable def dNe:Bo:=fun x y M=>match eqF 12 M x y with | some b=> .ok (.bl (!b)) M | none=> .bad
theorem Zah:BO X ξ (Zlq X false) dEq:=by
 intro H α M v w x y Q h rv rw' q;unfold dEq at q;cases e:eqF 12 M x y with
 |none=>rw[e] at q;exact q.elim
 |some b=>rw[e] at q;exact ⟨α,M,x,y,b,h,rv,rw',e,by simpa using q _ H α Ext.refl h (.bl b)⟩
theorem Zcj:BO X ξ (Zlq X true) dNe:=by
 intro H α M v w x y Q h rv rw' q;unfold dNe at q;cases e:eqF 12 M x y with
 |none=>rw[e] at q;exact q.elim
 |some b=>rw[e] at q;exact ⟨α,M,x,y,b,h,rv,rw',e,by simpa using q _ H α Ext.refl h (.bl (!b))⟩
noncomputable def isP:D->D->Option Bool
 | .non,.non=>some true
 | .bl a,.bl b=>some (a == b)
 |_,.non=>some false
 |_,.bl _=>some false
 |_,_=>none
noncomputable def dIs:Bo:=fun x y M=>match isP x y with | some b=> .ok (.bl b) M | none=> .bad
noncomputable def ZaI:Bo:=fun x y M=>match isP x y with | some b=> .ok (.bl (!b)) M | none=> .bad
noncomputable def Zje:D->Bool
 | .non=>true
 | .bl _=>true
 | .int _=>true
 | .str _=>true
 |_=>false
noncomputable def ZoU:D->D->Bool
 | .non,.non=>true
 | .bl a,.bl b=>a == b
 | .bl a,.int b=>(if a then 1 else 0) == b
 | .int a,.bl b=>a == (if b then 1 else 0)
 | .int a,.int b=>a == b
 | .str a,.str b=>a == b
 |_,_=>false
noncomputable def Zbq (M:Sto):D->Option (List D)
 | .tup xs=>some xs
 | .rol xs=>some xs
 | .con xs=>some xs
 | .ref n=>match M[n]? with | some (.lst xs)=>some xs | _=>none
 |_=>none
theorem ZeB {K:PySem.W.Frag}{H:Hp}{α:List Addr}{M:Sto}(h:HR K H α M){v:V}{x:D}{ds:List D}(r:Rep K H α v x)(e:Zbq M x=some ds): ∃ p xs,v= .ref p/\(SqL K H p xs\/SqT K H p xs)/\Reps K H α xs ds:=by
 cases r with
 | @tup p xs ds hp rp=>cases e;exact ⟨p,xs,rfl,.inr (SqT.of hp),rp⟩
 | @con p xs ds hp rp=>cases e;exact ⟨p,xs,rfl,.inr hp.sq,rp⟩
 | @rol p xs ds hp rp=>cases e;exact ⟨p,xs,rfl,.inl hp.sq,rp⟩
 | @ref p n hp=>
  cases e1:M[n]? with
  |none=>simp only[Zbq,e1] at e;cases e
  |some o=>
   cases o with
   |lst es=>
    simp only[Zbq,e1] at e;cases e
    obtain ⟨xs,g1,r1⟩:=h.at hp e1
    exact ⟨p,xs,rfl,.inl (SqL.of g1),r1⟩
 |_=>cases e
theorem ZfZ {K:PySem.W.Frag}{H:Hp}{α:List Addr}{M:Sto}(h:HR K H α M){v:V}{x:D}{ds:List D}(r:Rep K H α v x)(e:Zbq M x=some ds)(nc: ∀ ys,x≠ .con ys): ∃ p xs,v= .ref p/\(SqL K H p xs\/H p=some (.tup xs))/\Reps K H α xs ds:=by
 cases r with
 |con _ _=>exact absurd rfl (nc _)
 | @tup p xs ds hp rp=>cases e;exact ⟨p,xs,rfl,.inr hp,rp⟩
 | @rol p xs ds hp rp=>cases e;exact ⟨p,xs,rfl,.inl hp.sq,rp⟩
 | @ref p n hp=>
  cases e1:M[n]? with
  |none=>simp only[Zbq,e1] at e;cases e
  |some o=>
   cases o with
   |lst es=>
    simp only[Zbq,e1] at e;cases e
    obtain ⟨xs,g1,r1⟩:=h.at hp e1
    exact ⟨p,xs,rfl,.inl (SqL.of g1),r1⟩
 |_=>cases e
noncomputable def inD (x y:D)(M:Sto):Option Bool:=match Zbq M y with | some ds=>if Zje x=true/\ds.all Zje=true then some (ds.any fun y=>ZoU y x) else none | none=>none
variable {e:Expr}{es:List Expr}{fs:Av}{fa:Ev}{p pos:Pos}{x:Str}{id T:String}{r:List V->Hp->VK->Prop}{f:List D->Sto->Out D}
noncomputable def Zj (f:List D->Sto->Out D)(fs:Av):Ev:=fun ρ M=>(fs ρ M).bind f
noncomputable def CO (X:Cx)(ξ:XK)(r:List V->Hp->VK->Prop)(f:List D->Sto->Out D):Prop:= ∀ H α M vs ds Q,HR X.K H α M->Reps X.K H α vs ds->OP X.K H α ξ Q (f ds M)->r vs H Q
theorem Zo (hc:Zau X (.builtin id) r)(hf:CO X ξ r f)(hm:X.mg x=none)(hv:bootBuiltins x=some (.builtin id))(ha:DA X ξ (e :: es) fs)(hg:Gl X x:=by rfl)(hn:x≠"__name__":=by decide)(hdb:(x == ("__debug__":Str))=false:=by decide)
  (he:starEach (e :: es) X.env=(false,eval e X.env) :: starEach es X.env:=by rfl) (hpl:(backTo pos (starEach es X.env)).any (·.1)=false:=by rfl):DE X ξ (.Call (.Name x p) (e :: es) [] pos) (Zj f fs):=by
 obtain ⟨ta,ha,qa⟩:=ha
 refine ⟨_,Zdb hc hg hm hv ha hn hdb he hpl,fun σ ρ H α M Q s h q=> ?_⟩
 exact qa σ ρ H α M _ s h (OG.seq q fun ds M1 vs H1 α1 e1 h1 r1 q1=>hf H1 α1 M1 vs ds Q h1 r1 q1)
theorem Zy (hc:Zau X (.type T) r)(hf:CO X ξ r f)(hm:X.mg x=none)(hv:bootBuiltins x=some (.type T))(ha:DA X ξ (e :: es) fs)(hg:Gl X x:=by rfl)(hn:x≠"__name__":=by decide)(hdb:(x == ("__debug__":Str))=false:=by decide)
  (he:starEach (e :: es) X.env=(false,eval e X.env) :: starEach es X.env:=by rfl) (hpl:(backTo pos (starEach es X.env)).any (·.1)=false:=by rfl):DE X ξ (.Call (.Name x p) (e :: es) [] pos) (Zj f fs):=by
 obtain ⟨ta,ha,qa⟩:=ha
 refine ⟨_,Zek hc hg hm hv ha hn hdb he hpl,fun σ ρ H α M Q s h q=> ?_⟩
 exact qa σ ρ H α M _ s h (OG.seq q fun ds M1 vs H1 α1 e1 h1 r1 q1=>hf H1 α1 M1 vs ds Q h1 r1 q1)
noncomputable def bLen:List D->Sto->Out D:=fun ds M=>match ds with
 | [x]=>match Zbq M x with | some xs=> .ok (.int xs.length) M | none=> .bad
 |_=> .bad
theorem Za8:CO X ξ (fun xs H Q=> ∃ p ys,xs=[.ref p]/\(SqL X.K H p ys\/SqT X.K H p ys)/\Q (.int ys.length) H) bLen:=by
 intro H α M vs ds Q h rs q;unfold bLen at q;cases rs with
 |nil=>exact q.elim
 | @cons v x vs ds r t=>
  cases t with
  |cons _ _=>exact q.elim
  |nil=>
  cases e:Zbq M x with
  |none=>simp only[e] at q;exact q.elim
  |some ys=>
   simp only[e] at q;obtain ⟨p,xs,rfl,h2,h3⟩:=ZeB h r e
   exact ⟨p,xs,rfl,h2,by rw[h3.length];exact q _ H α Ext.refl h (.int _)⟩
noncomputable def bAbs:List D->Sto->Out D:=fun ds M=>match ds with | [.int i]=> .ok (.int (if i < 0 then -i else i)) M | _=> .bad
theorem Zck:CO X ξ (fun xs H Q=> ∃ i,xs=[.int i]/\Q (.int (if i < 0 then -i else i)) H) bAbs:=by
 intro H α M vs ds Q h rs q;unfold bAbs at q
 split at q
 ·cases rs with
  |cons r t=>
   cases t
   cases r
   exact ⟨_,rfl,q _ H α Ext.refl h (.int _)⟩
 ·exact q.elim
noncomputable def bMax:List D->Sto->Out D:=fun ds M=>match ds with | [.int i,.int j]=> .ok (.int (if j > i then j else i)) M | _=> .bad
noncomputable def bMin:List D->Sto->Out D:=fun ds M=>match ds with | [.int i,.int j]=> .ok (.int (if j < i then j else i)) M | _=> .bad
theorem ZgB {g:Int->Int->Int}{f:List D->Sto->Out D}(hf: ∀ ds M,f ds M=match ds with | [.int i,.int j]=> .ok (.int (g i j)) M | _=> .bad):CO X ξ (fun xs H Q=> ∃ i j,xs=[.int i,.int j]/\Q (.int (g i j)) H) f:=by
 intro H α M vs ds Q h rs q;rw[hf] at q
 split at q
 ·rename_i i j
  cases rs with
  |cons r t=>
   cases t with
   |cons r' t'=>
    cases t'
    cases r
    cases r'
    exact ⟨i,j,rfl,q _ H α Ext.refl h (.int _)⟩
 ·exact q.elim
theorem Zjf:CO X ξ (fun xs H Q=> ∃ i j,xs=[.int i,.int j]/\Q (.int (if j > i then j else i)) H) bMax:=ZgB (g:=fun i j=>if j > i then j else i) fun ds M=>rfl
theorem Zjg:CO X ξ (fun xs H Q=> ∃ i j,xs=[.int i,.int j]/\Q (.int (if j < i then j else i)) H) bMin:=ZgB (g:=fun i j=>if j < i then j else i) fun ds M=>rfl
noncomputable def bInt:List D->Sto->Out D:=fun ds M=>match ds with | [.int i]=> .ok (.int i) M | [.bl k]=> .ok (.int (if k then 1 else 0)) M | _=> .bad
theorem ZeC:CO X ξ (fun xs H Q=>(∃ i,xs=[.int i]/\Q (.int i) H)\/ ∃ k,xs=[.bl k]/\Q (.int (if k then 1 else 0)) H) bInt:=by
 intro H α M vs ds Q h rs q;unfold bInt at q
 split at q
 ·cases rs with
  |cons r t=>
   cases t
   cases r
   exact .inl ⟨_,rfl,q _ H α Ext.refl h (.int _)⟩
 ·cases rs with
  |cons r t=>
   cases t
   cases r
   exact .inr ⟨_,rfl,q _ H α Ext.refl h (.int _)⟩
 ·exact q.elim
noncomputable def bList:List D->Sto->Out D:=fun ds M=>match ds with
 | [x]=>match Zbq M x with | some xs=> .ok (.ref M.length) (M ++ [.lst xs]) | none=> .bad
 |_=> .bad
theorem ZeD:CO X ξ (fun xs H Q=> ∃ p ys,xs=[.ref p]/\(SqL X.K H p ys\/SqT X.K H p ys)/\ ∀ l,H l=none->Q (.ref l) (upd H l (.lst ys))) bList:=by
 intro H α M vs ds Q h rs q;unfold bList at q;cases rs with
 |nil=>exact q.elim
 | @cons v x vs ds r t=>
  cases t with
  |cons _ _=>exact q.elim
  |nil=>
  cases e:Zbq M x with
  |none=>simp only[e] at q;exact q.elim
  |some ys=>
   simp only[e] at q;obtain ⟨p,xs,rfl,h2,h3⟩:=ZeB h r e
   exact ⟨p,xs,rfl,h2,fun l hl=>q _ _ (α ++ [l]) (Ext.new hl) (h.new hl h3) (.ref ⟨h.last l,Kn.lst Zr⟩)⟩
noncomputable def ZG (M:Sto)(x:D):Option String:=match kd M x with
 |some .non=>some "NoneType"
 |some (.bl _)=>some "bool"
 |some (.int _)=>some "int"
 |some (.str _)=>some "str"
 |some (.tup _)=>some "tuple"
 |some (.lst _)=>some "list"
 |none=>none
noncomputable def ZaC (t T:String):Bool:=t == T || (t == "bool" && T == "int")
noncomputable def ZbM (T:String)(f:Ev):Ev:=fun ρ M=>(f ρ M).bind fun x M1=>match ZG M1 x with | some t=> .ok (.bl (ZaC t T)) M1 | none=> .bad
noncomputable def ZoV (X:Cx)(T:String):List V->Hp->VK->Prop:=fun vs H Q=> ∃ v α M x t,vs=[v,.ty T]/\HR X.K H α M/\Rep X.K H α v x/\ZG M x=some t/\Q (.bl (ZaC t T)) H
structure Kit (K:PySem.W.Frag) (T:String):Prop where
 non:PySem.W.kitOne K (.type "NoneType") (.type T)=some (ZaC "NoneType" T)
 bl:PySem.W.kitOne K (.type "bool") (.type T)=some (ZaC "bool" T)
 int:PySem.W.kitOne K (.type "int") (.type T)=some (ZaC "int" T)
 str:PySem.W.kitOne K (.type "str") (.type T)=some (ZaC "str" T)
 tup:PySem.W.kitOne K (.type "tuple") (.type T)=some (ZaC "tuple" T)
 lst:PySem.W.kitOne K (.type "list") (.type T)=some (ZaC "list" T)
theorem ZeE {K:PySem.W.Frag}:Kit K "int":=⟨rfl,rfl,rfl,rfl,rfl,rfl⟩
theorem Zdi {K:PySem.W.Frag}:Kit K "bool":=⟨rfl,rfl,rfl,rfl,rfl,rfl⟩
theorem Zcl {K:PySem.W.Frag}:Kit K "tuple":=⟨rfl,rfl,rfl,rfl,rfl,rfl⟩
theorem Zdj {K:PySem.W.Frag}:Kit K "list":=⟨rfl,rfl,rfl,rfl,rfl,rfl⟩
theorem Zhr {K:PySem.W.Frag}:Kit K "str":=⟨rfl,rfl,rfl,rfl,rfl,rfl⟩
theorem Zf0 (kt:Kit X.K T):Zau X (.builtin "isinstance") (ZoV X T):=by
 intro pins s σ H vs us Q I rs ⟨v,α,M,x,t,e1,h,rx,et,q⟩;subst e1;obtain ⟨u,w,rfl,ru,rw'⟩:=Zg9 rs
 cases rw'
 unfold ZG at et;cases ek:kd M x with
 |none=>rw[ek] at et;cases et
 |some k=>
  rw[ek] at et;have va:=vw I h rx ru ek
  have fin: ∀ tk,EP X pins σ Q (.bool (ZaC t T)) { s with toks:=tk }:=fun tk=>⟨.bl _,H,I.tok tk,rfl,q⟩
  cases va with
  |non=>cases et;exact PySem.W.kia_one PySem.W.kitx_none I.kIn True.intro kt.non (fun z=>nomatch z) fin
  |bl b=>cases et;exact PySem.W.kia_one PySem.W.kitx_bool I.kIn True.intro kt.bl (fun z=>nomatch z) fin
  |int i t=>cases et;exact PySem.W.kia_one PySem.W.kitx_int I.kIn True.intro kt.int (fun z=>nomatch z) fin
  |str i t=>cases et;exact PySem.W.kia_one PySem.W.kitx_str I.kIn True.intro kt.str (fun z=>nomatch z) fin
  |tup g _ _=>cases et;obtain ⟨o,h1,h2,_⟩:=g;exact PySem.W.kia_one PySem.W.kitx_tuple I.kIn ⟨o,h1,h2⟩ kt.tup (fun z=>nomatch z) fin
  |lst g _ _=>cases et;obtain ⟨o,h1,h2,_⟩:=g;exact PySem.W.kia_one PySem.W.kitx_list I.kIn ⟨o,h1,h2⟩ kt.lst (fun z=>nomatch z) fin
theorem ZaJ {y:Str}{p2:Pos}(kt:Kit X.K T)(hm:X.mg "isinstance"=none)(hmT:X.mg y=none)(hvT:bootBuiltins y=some (.type T))(ha:DE X ξ e fa)(hg:Gl X "isinstance":=by rfl)(hgT:Gl X y:=by rfl)(hn:y≠"__name__":=by decide)(hdb:(y == ("__debug__":Str))=false:=by decide)
  (he:starEach [e,.Name y p2] X.env=(false,eval e X.env) :: starEach [.Name y p2] X.env:=by rfl) (he2:starEach [.Name y p2] X.env=(false,eval (.Name y p2) X.env) :: starEach [] X.env:=by rfl) (hpl:(backTo pos (starEach [.Name y p2] X.env)).any (·.1)=false:=by rfl):DE X ξ (.Call (.Name "isinstance" p) [e,.Name y p2] [] pos) (ZbM T fa):=by
 obtain ⟨ta,ha,qa⟩:=ha
 refine ⟨_,Zdb (Zf0 kt) hg hm (by with_unfolding_all rfl) (ZcN ha (ZcN (ZgY hgT hmT hvT (v:= .ty T) rfl hn hdb) Zgy he2) he) (by decide) (by decide) he hpl,fun σ ρ H α M Q s h q=> ?_⟩
 refine qa σ ρ H α M _ s h (OG.seq q fun x M1 v H1 α1 e1 h1 r1 q1=> ?_)
 cases et:ZG M1 x with
 |none=>simp only[et] at q1;exact q1.elim
 |some t=>
  simp only[et] at q1;exact ⟨v,α1,M1,x,t,rfl,h1,r1,et,q1 _ H1 α1 Ext.refl h1 (.bl _)⟩
end
end DL
end
section
namespace DL
open PySem PySem.Spec PyProof.Rows L2
noncomputable def CXE (P:Program)(w:World):CXT:=fun outer H s E e s'=> ∃ (ea C:Addr) (dct:Option Addr) (B:Heap) (H':Hp),e= .ref ea/\s'.os=s.os/\AllBare s'.gens/\Un (frs outer) [] H H' s.heap s'.heap/\HOk P w H' s'.heap/\
 DQ.Fly B outer ea (.ref C) dct .none s'.heap/\(∀ b u,H' b=some u-> ∃ o,B.get? b=some o)/\(∀ b o,s.heap.get? b=some o->b ∉ frs outer-> ∃ o',B.get? b=some o')/\E (.ref C) dct H'
structure Thr (X:Cx) (ξ:XK):Prop where
 own:PassesOwn (model X.prog X.w) X.A X.env X.xe
 ps:Zei (CXE X.prog X.w) X ξ
 mak: ∀ (pins:List (Addr × Obj)) (σ:L2.St) (H H':Hp) (s s':Shared) (e:Addr) (oe:Obj) (vs:Array Value) (C:Addr),Inv X pins σ H s->s'.os=s.os->AllBare s'.gens->Un (frs X.stack) [] H H' s.heap s'.heap->HOk X.prog X.w H' s'.heap->s.heap.get? e=none->s'.heap.get? e=some oe->oe.cls= .ref C->
  oe.data= .fields vs->vs[1]?=some .none->vs[2]?=some .none->H' e=none->ξ (.ref C) oe.dict H'->X.xe (.ref e) s'
theorem Zcm {h b1 b2:Heap}: ∀ {l:List Env},h.FunFrames b1 l->(∀ b∈frs l,b2.get? b=none)->h.FunFrames b2 l
 | [],_,_=>trivial
 |env :: r,⟨h1,⟨L,o,h2,h3,h4,h5⟩,h6⟩,k=>⟨h1,⟨L,o,h2,k L (by unfold frs;rw[List.filterMap_cons,h2];exact List.mem_cons_self),h4,h5⟩,Zcm h6 fun b hb=>k b (by
   unfold frs;rw[List.filterMap_cons,h2];exact List.mem_cons_of_mem _ hb)⟩
section
variable {X:Cx}{pins:List (Addr × Obj)}{σ:L2.St}{H H':Hp}{s:Shared}{h1 h2 B:Heap}
theorem ZgC (hx:X.ex=[])(I:Inv X pins σ H s)(u:Un (frs X.stack) [] H H' s.heap h1)(hok:HOk X.prog X.w H' h1)(t1: ∀ b q,H' b=some q-> ∃ o,B.get? b=some o)(t2: ∀ b o,s.heap.get? b=some o->b ∉ frs X.stack-> ∃ o',B.get? b=some o')
  (st1:B.StaysIn h1) (st2:B.StaysIn h2) (up:h1.UpToSlots h2):Un X.fs [] X.H₀ H' X.s₀.heap h2/\HOk X.prog X.w H' h2/\ ∀ b o,X.s₀.heap.get? b=some o->b ∉ X.fs-> ∃ o',B.get? b=some o':=by
 have kB: ∀ b ob o,B.get? b=some ob->h1.get? b=some o->h2.get? b=some o:=fun b ob o e x=>by
  have z:=st1 b ob e
  rw[x] at z;cases z
  exact st2 b _ e
 have nx: ∀ b,b ∉ X.ex:=fun b=>by rw[hx];simp
 have nL: ∀ b o,X.s₀.heap.get? b=some o->b ∉ X.fs->b ∉ frs X.stack:=fun b o e n z=>by
  rcases List.mem_cons.mp (I.stkSub b z) with q | q
  ·exact absurd (Heap.lt_size e) (by rw[q];exact Nat.not_lt_of_le I.ok.above)
  ·exact n q
 have th: ∀ b o,X.s₀.heap.get? b=some o->b ∉ X.fs-> ∃ o',B.get? b=some o':=fun b o e n=>by
  obtain ⟨o',e'⟩:=I.base.there b o e (nx b)
  exact t2 b o' e' (nL b o e n)
 have sl: ∀ b o,X.s₀.heap.get? b=some o->X.H₀ b=none->b∈X.fs-> ∃ sl,h2.get? b=some { o with slots:=sl }:=fun b o e n hb=>by
  obtain ⟨s1,e1⟩:=I.base.slot b o e n hb (nx b)
  obtain ⟨s2,e2⟩:=u.any e1 (I.base.free b o e n (nx b)) (by simp)
  obtain ⟨_,o',g1,g2⟩:=I.ok.funs.mem hb
  rw[e] at g1;cases g1
  obtain ⟨s3,e3⟩:=up b _ e2 g2
  exact ⟨s3,e3⟩
 refine ⟨⟨fun b o e n hb _=> ?_,fun b o e n hb _=>sl b o e n hb,fun b o e n _=> ?_,fun b o e _=> ?_,fun b xs e=>u.tups b xs (I.base.tups b xs e),fun b o xs e=>u.frzs b o xs (I.base.frzs b o xs e),fun b ps e=> ?_⟩,fun a o e=> ?_,th⟩
 ·obtain ⟨ob,g⟩:=th b o e hb
  exact kB b ob o g (u.keep b o (I.base.keep b o e n hb (nx b)) (I.base.free b o e n (nx b)) (nL b o e hb) (by simp))
 ·obtain ⟨o',e'⟩:=I.base.there b o e (nx b)
  exact u.free b o' e' (I.base.free b o e n (nx b)) (by simp)
 ·by_cases hb:b∈X.fs
  ·obtain ⟨s1,e1⟩:=sl b o e (I.ok.frf b hb) hb
   exact ⟨_,e1⟩
  ·obtain ⟨ob,g⟩:=th b o e hb
   exact ⟨ob,st2 b ob g⟩
 ·obtain ⟨m1,e1⟩:=I.base.tbls b ps e
  obtain ⟨m2,e2⟩:=u.tbls b _ e1
  exact ⟨m1 ++ m2,by rw[e2,Array.append_assoc]⟩
 ·refine (hok a o e).stay (fun b q hb x=> ?_) (fun _ q=>q) fun _ _ q=>q
  have tr: ∃ q,H' b=some q:=by
   rcases hb with z | z
   ·exact ⟨o,z ▸ e⟩
   ·exact ⟨_,z⟩
  obtain ⟨q',z⟩:=tr
  obtain ⟨ob,g⟩:=t1 b q' z
  exact kB b ob q g x
end
theorem Zdk {P:Program}{w:World}{H:Hp}{h:Heap}{a:Addr}{o:HO}(x:ZaA P w H h a o): ∃ ob,h.get? a=some ob:=by
 cases o with
 |lst xs=>obtain ⟨_,_,_,_,e⟩:=x;exact ⟨_,e⟩
 |tup xs=>obtain ⟨_,_,_,ob,e,_⟩:=x;exact ⟨_,e⟩
 |dK kvs=>obtain ⟨_,_,_,_,o,_,_,e,_⟩:=x;exact ⟨_,e⟩
 |dT kvs=>obtain ⟨_,_,_,_,o,_,_,e,_⟩:=x;exact ⟨_,e⟩
 |set S n=>obtain ⟨o,_,_,_,e,_⟩:=x;exact ⟨_,e⟩
 |ins C dx fs=>obtain ⟨_,_,_,e,_⟩:=x;exact ⟨_,e⟩
 |own y=>exact x
 |xd fs=>obtain ⟨_,⟨_,_,_,e,_⟩,_⟩:=x;exact ⟨_,e⟩
 |rng lo hi=>obtain ⟨_,_,_,e⟩:=x;exact ⟨_,e⟩
 |frz ob u=>obtain ⟨e,_⟩:=x;exact ⟨_,e⟩
 |tbl ps=>exact ⟨_,(show h.get? a=some _ from x)⟩
 |met f y=>exact ⟨_,(show h.get? a=some _ from x)⟩
 |ext φ=>obtain ⟨_,e,_⟩:=x;exact e
noncomputable def Zf1 (h:Heap)(l:List Addr):Heap:=ZfA h fun b=>if b∈l then some (.own 0) else none
theorem Zdl {h:Heap}{l:List Addr}{b:Addr}{o:Obj}(e:h.get? b=some o)(n:b ∉ l):(Zf1 h l).get? b=some o:=Zc6 e (if_neg n)
theorem ZeF {h:Heap}{l:List Addr}{b:Addr}{o:Obj}(e:(Zf1 h l).get? b=some o):h.get? b=some o/\b ∉ l:=by
 obtain ⟨a,n⟩:=Zea e
 refine ⟨a,fun z=> ?_⟩
 simp only[if_pos z] at n;cases n
theorem Zcn {h:Heap}{l:List Addr}{b:Addr}(n:b∈l):(Zf1 h l).get? b=none:=by
 cases q:(Zf1 h l).get? b with
 |none=>rfl
 |some o=>exact absurd n (ZeF q).2
theorem Zco {h h' b1:Heap}: ∀ {l:List Env},h.FunFrames b1 l->(∀ b o,b∈frs l->h.get? b=some o-> ∃ o',h'.get? b=some o'/\o'.data=o.data)->h'.FunFrames b1 l
 | [],_,_=>trivial
 |env :: r,⟨h1,⟨L,o,h2,h3,h4,h5⟩,h6⟩,k=>by
  have m:frs (env :: r)=L :: frs r:=by unfold frs;rw[List.filterMap_cons,h2]
  obtain ⟨o',g1,g2⟩:=k L o (by rw[m];exact List.mem_cons_self) h4
  exact ⟨h1,⟨L,o',h2,h3,g1,fun vs=>g2 ▸ h5 vs⟩,Zco h6 fun b o hb=>k b o (by rw[m];exact List.mem_cons_of_mem _ hb)⟩
theorem ZeG {X:Cx}{pins:List (Addr × Obj)}{σ:L2.St}{H H':Hp}{s s':Shared}{e:Addr}{oe:Obj}(I:Inv X pins σ H s)(un:Un (frs X.stack) [] H H' s.heap s'.heap)(hok:HOk X.prog X.w H' s'.heap)(hn:s.heap.get? e=none)(he:s'.heap.get? e=some oe)(hne:H' e=none):
  (∀ b u,H' b=some u-> ∃ o,(Zf1 s'.heap (e :: frs X.stack)).get? b=some o)/\(∀ b o,s.heap.get? b=some o->b ∉ frs X.stack-> ∃ o',(Zf1 s'.heap (e :: frs X.stack)).get? b=some o')/\
  (Zf1 s'.heap (e :: frs X.stack)).StaysIn s'.heap/\s'.heap.FunFrames (Zf1 s'.heap (e :: frs X.stack)) X.stack/\(Zf1 s'.heap (e :: frs X.stack)).get? e=none:=by
 have nfr: ∀ b∈frs X.stack,H' b=none:=fun b hb=>by
  obtain ⟨_,o',g1,g2⟩:=I.stack.mem hb
  exact un.free b o' g1 (I.stkFree b hb) (by simp)
 refine ⟨fun b u x=> ?_,fun b o x n=> ?_,fun b o x=>(ZeF x).1,Zco (Zcm I.stack fun b hb=>Zcn (List.mem_cons_of_mem _ hb)) fun b o hb x=> ?_,Zcn (by simp)⟩
 ·obtain ⟨o,g⟩:=Zdk (hok b u x)
  refine ⟨o,Zdl g fun z=> ?_⟩
  rcases List.mem_cons.mp z with z | z
  ·rw[z,hne] at x;cases x
  ·rw[nfr b z] at x;cases x
 ·obtain ⟨o',g⟩:=un.there b o x (by simp)
  refine ⟨o',Zdl g fun z=> ?_⟩
  rcases List.mem_cons.mp z with z | z
  ·rw[z,hn] at x;cases x
  ·exact n z
 ·obtain ⟨sl,g⟩:=un.any x (I.stkFree b hb) (by simp)
  exact ⟨_,g,rfl⟩
theorem Zjh {P:Program}{w:World}{K:PySem.W.Frag}{mg:Str->Option Value}{base:Heap}{N:List Str}{qual:Str}{scope:Scope}{f:Addr}{cd:Value}{A:Around}{outer:List Env}{s:Shared}{H:Hp}{E:XK}:
  Thr (ZfB (CXE P w) P w K mg base N qual scope f cd A outer s H E) E:=by
 refine ⟨PassesOwn.leaving,fun pins σ H1 s1 e s2 I h=> ?_,fun pins σ H1 H' s1 s' e oe vs C I os bare un hok hn he hc hd v1 v2 hne q=> ?_⟩
 ·obtain ⟨ea,C,dct,B,H2,rfl,os,bare,un,hok,fl,t1,t2,q⟩:=h
  refine DQ.Zer (outer:=outer) I.ok.frames rfl fl fun h3 f3 up=> ?_
  obtain ⟨a1,a2,a3⟩:=ZgC rfl I un hok t1 t2 fl.stay f3.stay up
  exact ⟨ea,C,dct,B,H2,rfl,os.trans I.os,bare,a1,a2,f3,t1,a3,q⟩
 ·obtain ⟨t1,t2,hs,hl,hb⟩:=ZeG I un hok hn he hne
  refine DQ.Zes (s:=s') (outer:=outer) I.ok.frames rfl hl he hs hb hd v1 v2 fun h3 f3 up=> ?_
  obtain ⟨a1,a2,a3⟩:=ZgC rfl I un hok t1 t2 hs f3.stay up
  rw[hc] at f3;exact ⟨e,C,oe.dict,_,H',rfl,os.trans I.os,bare,a1,a2,f3,t1,a3,q⟩
end DL
end
section
namespace DL
open PySem PySem.Spec PyProof.Rows L2
noncomputable def FP (K:PySem.W.Frag)(H:Hp)(α:List Addr)(ξ:XK)(Dn:Ends):Fl->Prop
 | .nx ρ' M'=> ∀ σ' H' α',Ext K H H' α α'->HR K H' α' M'->SR K H' α' σ' ρ'->Dn.nx σ' H'
 | .brk ρ' M'=> ∀ σ' H' α',Ext K H H' α α'->HR K H' α' M'->SR K H' α' σ' ρ'->Dn.bk σ' H'
 | .cnt ρ' M'=> ∀ σ' H' α',Ext K H H' α α'->HR K H' α' M'->SR K H' α' σ' ρ'->Dn.ct σ' H'
 | .ret d M'=> ∀ v H' α',Ext K H H' α α'->HR K H' α' M'->Rep K H' α' v d->Dn.rt v H'
 | .exc c M'=> ∀ C H' α',PySem.W.nsIn K mainGlobals c=some (some (.ref C))->Ext K H H' α α'-> ∀ dct,XO K H' α' c M' dct->ξ (.ref C) dct H'
 | .bad=>False
theorem FP.ext {K:PySem.W.Frag}{H H1:Hp}{α α1:List Addr}{ξ:XK}{Dn:Ends}{o:Fl}(h:FP K H α ξ Dn o)(e:Ext K H H1 α α1):FP K H1 α1 ξ Dn o:=by
 cases o with
 |nx ρ M=>exact fun σ' H' α' e'=>h σ' H' α' (e.trans e')
 |brk ρ M=>exact fun σ' H' α' e'=>h σ' H' α' (e.trans e')
 |cnt ρ M=>exact fun σ' H' α' e'=>h σ' H' α' (e.trans e')
 |ret d M=>exact fun v H' α' e'=>h v H' α' (e.trans e')
 |exc c M=>exact fun C H' α' n e'=>h C H' α' n (e.trans e')
 |bad=>exact h
noncomputable def DS (X:Cx)(ξ:XK)(st:Stmt)(g:Sv):Prop:= ∃ t:TS,PS X st t/\ ∀ σ ρ H α M Dn,SR X.K H α σ ρ->HR X.K H α M->FP X.K H α ξ Dn (g ρ M)->t Dn σ H
noncomputable def DSs (X:Cx)(ξ:XK)(st:List Stmt)(g:Sv):Prop:= ∃ t:TS,PSs X st t/\ ∀ σ ρ H α M Dn,SR X.K H α σ ρ->HR X.K H α M->FP X.K H α ξ Dn (g ρ M)->t Dn σ H
noncomputable def ZD {β:Type}(o:Out β)(k:β->Sto->Fl):Fl:=match o with
 | .ok a M=>k a M
 | .exc c M=> .exc c M
 | .bad=> .bad
theorem FP.seq {β γ:Type}{K:PySem.W.Frag}{R:Hp->List Addr->γ->β->Prop}{H:Hp}{α:List Addr}{ξ:XK}{Dn:Ends}{Q1:γ->Hp->Prop}{o:Out β}{f:β->Sto->Fl}
  (h:FP K H α ξ Dn (ZD o f)) (k: ∀ d M' v H' α',Ext K H H' α α'->HR K H' α' M'->R H' α' v d->FP K H' α' ξ Dn (f d M')->Q1 v H'):OG K R H α ξ Q1 o:=by
 cases o with
 |ok d M'=>exact fun v H' α' e hr r=>k d M' v H' α' e hr r (FP.ext (o:=f d M') h e)
 |exc c M'=>exact h
 |bad=>exact h
noncomputable def Zz (g h:Sv):Sv:=fun ρ M=>match g ρ M with
 | .nx ρ1 M1=>h ρ1 M1
 |o=>o
noncomputable def sNil:Sv:=fun ρ M=> .nx ρ M
noncomputable def ZQ (f:Ev):Sv:=fun ρ M=>ZD (f ρ M) fun d M1=> .ret d M1
noncomputable def Zcp:Sv:=fun _ M=> .ret .non M
noncomputable def ZaU (f:Ev):Sv:=fun ρ M=>ZD (f ρ M) fun _ M1=> .nx ρ M1
noncomputable def sIf (c:Tv)(g h:Sv):Sv:=fun ρ M=>ZD (c ρ M) fun k M1=>if k=true then g ρ M1 else h ρ M1
noncomputable def ZoW:Sv:=fun ρ M=> .brk ρ M
noncomputable def ZoX:Sv:=fun ρ M=> .cnt ρ M
noncomputable abbrev Tg:=D->Ro->Option Ro
noncomputable abbrev Tgs:=List D->Ro->Option Ro
noncomputable def gNm (i:Nat):Tg:=fun d ρ=>some (ρ.set i (some d))
noncomputable def gNl:Tgs:=fun ds ρ=>match ds with | []=>some ρ | _=>none
noncomputable def gCs (g:Tg)(gs:Tgs):Tgs:=fun ds ρ=>match ds with | d :: r=>(match g d ρ with | some ρ1=>gs r ρ1 | none=>none) | []=>none
noncomputable def gTp (gs:Tgs):Tg:=fun d ρ=>match d with | .tup ds=>gs ds ρ | _=>none
noncomputable def ZU (g:Tg)(f:Ev):Sv:=fun ρ M=>ZD (f ρ M) fun d M1=>match g d ρ with | some ρ1=> .nx ρ1 M1 | none=> .bad
noncomputable def ZbN (i j:Nat)(fs:Av):Sv:=fun ρ M=>ZD (fs ρ M) fun ds M1=>match ds with | [v,w]=> .nx ((ρ.set i (some v)).set j (some w)) M1 | _=> .bad
noncomputable def ZcJ (fo fi fe:Ev):Sv:=fun ρ M=>ZD (fe ρ M) fun d M1=>ZD (fo ρ M1) fun o M2=>ZD (fi ρ M2) fun i M3=>match o,i with
 | .ref n,.int k=>(match M3[n]? with
  |some (.lst xs)=>(match ixN xs.length k with | some j=> .nx ρ (M3.set n (.lst (xs.set j d))) | none=> .bad)
  |_=> .bad)
 |_,_=> .bad
section
variable {X:Cx}{ξ:XK}{st:Stmt}{sts:List Stmt}{g h:Sv}{e:Expr}{f:Ev}{pos:Pos}{c:Expr}{fc:Tv}
theorem Zq:DSs X ξ [] sNil:=⟨_,ZgZ,fun σ ρ H α M Dn s h q=>q σ H α Ext.refl h s⟩
theorem Zf (h1:DS X ξ st g)(h2:DSs X ξ sts h):DSs X ξ (st :: sts) (Zz g h):=by
 obtain ⟨t1,p1,q1⟩:=h1
 obtain ⟨t2,p2,q2⟩:=h2
 refine ⟨_,ZfH p1 p2,fun σ ρ H α M Dn s hh q=>q1 σ ρ H α M { Dn with nx:=t2 Dn } s hh ?_⟩
 unfold Zz at q;cases e:g ρ M with
 |nx ρ1 M1=>rw[e] at q;exact fun σ' H' α' ex hr sr=>q2 σ' ρ1 H' α' M1 Dn sr hr (FP.ext q ex)
 |brk ρ1 M1=>rw[e] at q;exact q
 |cnt ρ1 M1=>rw[e] at q;exact q
 |ret d M1=>rw[e] at q;exact q
 |exc c M1=>rw[e] at q;exact q
 |bad=>rw[e] at q;exact q
theorem Zi (h1:DS X ξ st g):DSs X ξ [st] g:=let ⟨_,p,q⟩:=h1;⟨_,Zg0 p,q⟩
theorem Zm (he:DE X ξ e f):DS X ξ (.Return (some e) pos) (ZQ f):=by
 obtain ⟨t,p,q⟩:=he
 exact ⟨_,ZiE p,fun σ ρ H α M Dn s hh w=>q σ ρ H α M _ s hh (FP.seq w fun d M1 v H1 α1 e1 h1 r1 w1=>w1 v H1 α1 Ext.refl h1 r1)⟩
theorem ZcT (he:DE X ξ e f)(hs:swapsWith e none pos.line X.env=pure false:=by rfl):DS X ξ (.Expr e pos) (ZaU f):=by
 obtain ⟨t,p,q⟩:=he
 exact ⟨_,Zg1 p hs,fun σ ρ H α M Dn s hh w=>q σ ρ H α M _ s hh (FP.seq w fun d M1 v H1 α1 e1 h1 r1 w1=>w1 σ H1 α1 Ext.refl h1 (s.mono e1))⟩
theorem ZX {a b:List Stmt}(hc:DT X ξ c fc)(ha:DSs X ξ a g)(hb:DSs X ξ b h):DS X ξ (.If c a b pos) (sIf fc g h):=by
 obtain ⟨tc,pc,qc⟩:=hc
 obtain ⟨ta,pa,qa⟩:=ha
 obtain ⟨tb,pb,qb⟩:=hb
 refine ⟨_,ZlH pc pa pb,fun σ ρ H α M Dn s hh w=>qc σ ρ H α M _ s hh (FP.seq w fun k M1 v H1 α1 e1 h1 r1 w1=> ?_)⟩
 cases r1
 cases k with
 |true=>exact Zhl (qa σ ρ H1 α1 M1 Dn (s.mono e1) h1 w1)
 |false=>exact Zhk (qb σ ρ H1 α1 M1 Dn (s.mono e1) h1 w1)
noncomputable def DG (X:Cx)(tg:Expr)(g:Tg):Prop:= ∃ t:TG,PG X tg t/\ ∀ v d σ ρ H α ρ' Q,SR X.K H α σ ρ->Rep X.K H α v d->g d ρ=some ρ'->(∀ σ',SR X.K H α σ' ρ'->Q σ' H)->t v σ H Q
noncomputable def DGs (X:Cx)(tgs:List Expr)(g:Tgs):Prop:= ∃ t:TGs,PGs X tgs t/\ ∀ vs ds σ ρ H α ρ' Q,SR X.K H α σ ρ->Reps X.K H α vs ds->g ds ρ=some ρ'->(∀ σ',SR X.K H α σ' ρ'->Q σ' H)->t vs σ H Q
theorem ZA (i:Nat){x:Str}(hN:X.N.Nodup)(hi:X.N[i]?=some x:=by rfl)(hx:Loc X.env.scope x:=by first | exact Or.inl rfl | exact Or.inr rfl)(hm:X.may i=true:=by rfl)(hf:X.fn x=true\/X.env.scope.names.lookup x=some .local:=by first | exact .inl rfl | exact .inr rfl | assumption):DG X (.Name x pos) (gNm i):=by
 refine ⟨_,Zg2 hN hi hx hm hf,fun v d σ ρ H α ρ' Q s r e k=> ?_⟩
 cases e
 exact k _ (s.set i r)
theorem Zhs:DGs X [] gNl:=by
 refine ⟨_,Zg3,fun vs ds σ ρ H α ρ' Q s r e k=> ?_⟩
 cases r with
 |nil=>cases e;exact ⟨rfl,k _ s⟩
 |cons _ _=>cases e
theorem Zdm {es:List Expr}{g:Tg}{gs:Tgs}(h1:DG X e g)(h2:DGs X es gs)(hs:(assignEach (e :: es) X.env).map (·.2)=assign e X.env :: (assignEach es X.env).map (·.2):=by rfl):DGs X (e :: es) (gCs g gs):=by
 obtain ⟨t1,p1,q1⟩:=h1
 obtain ⟨t2,p2,q2⟩:=h2
 refine ⟨_,ZfI p1 p2 hs,fun vs ds σ ρ H α ρ' Q s r e k=> ?_⟩
 cases r with
 |nil=>cases e
 |cons r rr=>
  rename_i v d vs ds;cases e1:g d ρ with
  |none=>simp only[gCs,e1] at e;cases e
  |some ρ1=>
   simp only[gCs,e1] at e;exact ⟨v,vs,rfl,q1 v d σ ρ H α ρ1 _ s r e1 fun σ' s'=>q2 vs ds σ' ρ1 H α ρ' Q s' rr e k⟩
theorem Zji {es:List Expr}{k:Nat}{gs:Tgs}{n:Nat}(hc:X.calm=true)(h:DGs X es gs)(hn:(assignEach es X.env).length=n:=by rfl)(hlen: ∀ ds ρ ρ',gs ds ρ=some ρ'->ds.length=n)(hst:(assignEach es X.env).findIdx? (·.1)=none:=by rfl):DG X (.Tuple es k pos) (gTp gs):=by
 obtain ⟨t,p,q⟩:=h
 refine ⟨_,ZiG hc p hn hst,fun v d σ ρ H α ρ' Q s r e k=> ?_⟩
 cases r with
 | @tup a xs ds hp rp=>
  have e':gs ds ρ=some ρ':=e
  exact ⟨a,xs,rfl,(SqT.of hp),by rw[rp.length];exact hlen ds ρ ρ' e',q xs ds σ ρ H α ρ' Q s rp e' k⟩
 |_=>cases e
theorem Zht {ds:List D}{ρ ρ':Ro}(h:gNl ds ρ=some ρ'):ds.length=0:=by cases ds with | nil=>rfl | cons _ _=>cases h
theorem ZeH {g:Tg}{gs:Tgs}{n:Nat}(h: ∀ ds ρ ρ',gs ds ρ=some ρ'->ds.length=n)(ds:List D)(ρ ρ':Ro)(e:gCs g gs ds ρ=some ρ'):ds.length=n + 1:=by
 cases ds with
 |nil=>cases e
 |cons d r=>
  cases e1:g d ρ with
  |none=>simp only[gCs,e1] at e;cases e
  |some ρ1=>simp only[gCs,e1] at e;rw[List.length_cons,h r ρ1 ρ' e]
theorem ZC (i:Nat){x:Str}{pos':Pos}(hN:X.N.Nodup)(he:DE X ξ e f)(hi:X.N[i]?=some x:=by rfl)(hx:Loc X.env.scope x:=by first | exact Or.inl rfl | exact Or.inr rfl)(hm:X.may i=true:=by rfl)(hs:swapsWith e (some (.Name x pos')) pos.line X.env=pure false:=by rfl)(hf:X.fn x=true\/X.env.scope.names.lookup x=some .local:=by first | exact .inl rfl | exact .inr rfl | assumption):
  DS X ξ (.Assign [.Name x pos'] e pos) (ZU (gNm i) f):=by
 obtain ⟨t,p,q⟩:=he
 exact ⟨_,ZiI hN hi hx hm p hs hf,fun σ ρ H α M Dn s hh w=>q σ ρ H α M _ s hh (FP.seq w fun d M1 v H1 α1 e1 h1 r1 w1=>w1 _ H1 α1 Ext.refl h1 ((s.mono e1).set i r1))⟩
theorem Zjj {tg:Expr}{gt:Tg}(he:DE X ξ e f)(hg:DG X tg gt)(hs:swapsWithSole [tg] e pos.line X.env=pure false:=by rfl)(hw:swappedStores [tg] e X.env=pure none:=by rfl)
  (h1:(assignEach [tg] X.env).map (·.2)=[assign tg X.env]:=by rfl):DS X ξ (.Assign [tg] e pos) (ZU gt f):=by
 obtain ⟨t,p,q⟩:=he
 obtain ⟨tt,pt,qt⟩:=hg
 refine ⟨_,Zgv p pt hs hw h1,fun σ ρ H α M Dn s hh w=>q σ ρ H α M _ s hh (FP.seq w fun d M1 v H1 α1 e1 h1 r1 w1=> ?_)⟩
 cases eg:gt d ρ with
 |none=>simp only[eg] at w1;exact w1.elim
 |some ρ1=>
  simp only[eg] at w1;exact qt v d σ ρ H1 α1 ρ1 _ (s.mono e1) r1 eg fun σ' s'=>w1 σ' H1 α1 Ext.refl h1 s'
theorem Zdn (i j:Nat){x y:Str}{a b:Expr}{fs:Av}{px py pt:Pos}{kt k2 pt2}(hc:X.calm=true)(hN:X.N.Nodup)(ha:DA X ξ [a,b] fs)(hi:X.N[i]?=some x:=by rfl)(hj:X.N[j]?=some y:=by rfl)(mi:X.may i=true:=by rfl)(mj:X.may j=true:=by rfl)(hij:i≠j:=by decide)
  (hx:X.env.scope.names.lookup x=some .local:=by rfl) (hy:X.env.scope.names.lookup y=some .local:=by rfl)
  (hw:swappedStores [.Tuple [.Name x px,.Name y py] kt pt] (.Tuple [a,b] k2 pt2) X.env=pure (some [x,y]):=by rfl)
  (hs:swapsWithSole [.Tuple [.Name x px,.Name y py] kt pt] (.Tuple [a,b] k2 pt2) pos.line X.env=pure false:=by rfl):
  DS X ξ (.Assign [.Tuple [.Name x px,.Name y py] kt pt] (.Tuple [a,b] k2 pt2) pos) (ZbN i j fs):=by
 obtain ⟨t,p,q⟩:=ha
 refine ⟨_,ZiJ hc mi mj hN hi hj hij hx hy p hw hs,fun σ ρ H α M Dn s hh w=>q σ ρ H α M _ s hh (FP.seq w fun ds M1 vs H1 α1 e1 h1 r1 w1=> ?_)⟩
 match r1 with
 | .nil=>exact w1.elim
 | .cons _ .nil=>exact w1.elim
 | .cons _ (.cons _ (.cons _ _))=>exact w1.elim
 | .cons r (.cons r' .nil)=>exact ⟨_,_,rfl,w1 _ H1 α1 Ext.refl h1 (((s.mono e1).set i r).set j r')⟩
theorem ZeI {o i:Expr}{fo fi:Ev}{pos':Pos}(ho:DE X ξ o fo)(hi:DE X ξ i fi)(he:DE X ξ e f)
  (ha: ∀ v,assign (.Subscript o i pos') X.env v=(do
   let ov <- holding [v] (eval o X.env)
   let iv <- holding [v,ov] (eval i X.env)
   standAt pos'
   holding [v,ov,iv] (setItem ov iv v)
   release [v,ov,iv] []):=by intro _;rfl) (hs:swapsWithSole [.Subscript o i pos'] e pos.line X.env=pure false:=by rfl) (hw:swappedStores [.Subscript o i pos'] e X.env=pure none:=by rfl)
  (h1:(assignEach [.Subscript o i pos'] X.env).map (·.2)=[assign (.Subscript o i pos') X.env]:=by rfl):DS X ξ (.Assign [.Subscript o i pos'] e pos) (ZcJ fo fi f):=by
 obtain ⟨t,p,q⟩:=he
 obtain ⟨to,po,qo⟩:=ho
 obtain ⟨ti,pi,qi⟩:=hi
 refine ⟨_,Zgv p (ZiH po pi ZfP ha) hs hw h1,fun σ ρ H α M Dn s hh w=>q σ ρ H α M _ s hh (FP.seq w fun d M1 v H1 α1 e1 h1 r1 w1=> ?_)⟩
 refine qo σ ρ H1 α1 M1 _ (s.mono e1) h1 (FP.seq w1 fun od M2 ov H2 α2 e2 h2 r2 w2=> ?_)
 refine qi σ ρ H2 α2 M2 _ ((s.mono e1).mono e2) h2 (FP.seq w2 fun kd M3 kv H3 α3 e3 h3 r3 w3=> ?_)
 cases Rep.mono e3 r2 with
 | @ref p n hp=>
  cases r3 with
  |int k=>
   cases em:M3[n]? with
   |none=>simp only[em] at w3;exact w3.elim
   |some so=>
    cases so with
    |lst ds=>
     cases ej:ixN ds.length k with
     |none=>simp only[em,ej] at w3;exact w3.elim
     |some j=>
      simp only[em,ej] at w3;obtain ⟨xs,g1,g2⟩:=h3.at hp em
      refine ⟨p,xs,k,j,rfl,rfl,g1,by rw[g2.length];exact ej,?_⟩
      exact w3 σ _ α3 (Ext.wr g1) (h3.wr hp g1 (Reps.set (Rep.mono e3 (Rep.mono e2 r1)) j g2)) ((((s.mono e1).mono e2).mono e3).mono (Ext.wr g1))
  |_=>exact w3.elim
 |_=>exact w3.elim
noncomputable def whN (c:Tv)(g:Sv):Nat->Ro->Sto->Option Fl
 |0,_,_=>none
 |n + 1,ρ,M=>match c ρ M with
  | .ok true M1=>(match g ρ M1 with
   | .nx ρ2 M2=>whN c g n ρ2 M2
   | .cnt ρ2 M2=>whN c g n ρ2 M2
   | .brk ρ2 M2=>some (.nx ρ2 M2)
   |o=>some o)
  | .ok false M1=>some (.nx ρ M1)
  | .exc e M1=>some (.exc e M1)
  | .bad=>some .bad
theorem Zbh {c:Tv}{g:Sv}: ∀ {n:Nat} {ρ:Ro} {M:Sto} {o:Fl},whN c g n ρ M=some o-> ∀ k,whN c g (n + k) ρ M=some o
 |0,_,_,_,e,_=>by simp only[whN] at e;cases e
 |n + 1,ρ,M,o,e,k=>by
  have ek:n + 1 + k=(n + k) + 1:=by omega
  rw[ek];unfold whN at e ⊢;cases ec:c ρ M with
  |bad=>rw[ec] at e;exact e
  |exc x M1=>rw[ec] at e;exact e
  |ok b M1=>
   rw[ec] at e;cases b with
   |false=>exact e
   |true=>
    cases eg:g ρ M1 with
    |nx ρ2 M2=>simp only[eg] at e ⊢;exact Zbh e k
    |cnt ρ2 M2=>simp only[eg] at e ⊢;exact Zbh e k
    |brk ρ2 M2=>simp only[eg] at e ⊢;exact e
    |ret d M2=>simp only[eg] at e ⊢;exact e
    |exc x M2=>simp only[eg] at e ⊢;exact e
    |bad=>simp only[eg] at e ⊢;exact e
open Classical in
noncomputable def sWh (c:Tv)(g:Sv):Sv:=fun ρ M=>if h: ∃ o n,whN c g n ρ M=some o then Classical.choose h else .bad
theorem Za9 {c:Tv}{g:Sv}{n:Nat}{ρ:Ro}{M:Sto}{o:Fl}(e:whN c g n ρ M=some o):sWh c g ρ M=o:=by
 have hx: ∃ o n,whN c g n ρ M=some o:=⟨o,n,e⟩
 unfold sWh;rw[dif_pos hx];obtain ⟨m,em⟩:=Classical.choose_spec hx
 have h1:=Zbh em n
 have h2:=Zbh e m
 rw[Nat.add_comm] at h2;rw[h1] at h2;exact Option.some.inj h2
theorem ZeJ {c:Tv}{g:Sv}{ρ:Ro}{M:Sto}(e:sWh c g ρ M≠ .bad): ∃ n,whN c g n ρ M=some (sWh c g ρ M):=by
 by_cases hx: ∃ o n,whN c g n ρ M=some o
 ·obtain ⟨o,n,h⟩:=hx
  exact ⟨n,by rw[Za9 h];exact h⟩
 ·unfold sWh at e
  rw[dif_neg hx] at e;exact absurd rfl e
theorem Zcq {c:Tv}{g:Sv}{ρ:Ro}{M M1:Sto}(h:c ρ M= .ok false M1):sWh c g ρ M= .nx ρ M1:=Za9 (n:=1) (by simp only[whN,h])
theorem Zdo {c:Tv}{g:Sv}{ρ ρ2:Ro}{M M1 M2:Sto}(h:c ρ M= .ok true M1)(h2:g ρ M1= .nx ρ2 M2)(hb:sWh c g ρ2 M2≠ .bad):sWh c g ρ M=sWh c g ρ2 M2:=by
 obtain ⟨n,e⟩:=ZeJ hb
 exact Za9 (n:=n + 1) (by simp only[whN,h,h2];exact e)
theorem Zdp {body:List Stmt}(hp:PassesOwn (model X.prog X.w) X.A X.env X.xe)(hc:DT X ξ c fc)(hb:DSs X ξ body g):DS X ξ (.While c body [] pos) (sWh fc g):=by
 obtain ⟨tc,pc,qc⟩:=hc
 obtain ⟨tb,pb,qb⟩:=hb
 refine ⟨_,ZfJ hp pc pb,fun σ ρ H α M Dn s hh w=> ?_⟩
 have nb:sWh fc g ρ M≠ .bad:=fun z=>by rw[z] at w;exact w
 obtain ⟨n,en⟩:=ZeJ nb
 generalize sWh fc g ρ M=o at w en;refine ⟨fun m σ' H'=> ∃ ρ' α' M',Ext X.K H H' α α'/\SR X.K H' α' σ' ρ'/\HR X.K H' α' M'/\whN fc g m ρ' M'=some o,⟨n,ρ,α,M,Ext.refl,s,hh,en⟩,?_⟩
 rintro m σ1 H1 ⟨ρ1,α1,M1,e1,s1,h1,en1⟩
 cases m with
 |zero=>simp only[whN] at en1;cases en1
 |succ m=>
  refine qc σ1 ρ1 H1 α1 M1 _ s1 h1 ?_
  unfold whN at en1;cases ec:fc ρ1 M1 with
  |bad=>rw[ec] at en1;cases en1;exact w.elim
  |exc x M2=>
   rw[ec] at en1;cases en1;exact fun C H' α' nn ex hr=>w C H' α' nn (e1.trans ex) hr
  |ok b M2=>
   rw[ec] at en1;intro v H2 α2 e2 h2 ev;cases ev
   cases b with
   |false=>
    cases en1
    exact Zhk (w σ1 H2 α2 (e1.trans e2) h2 (s1.mono e2))
   |true=>
    refine Zhl ⟨fun σ' H'=> ∃ ρ' α' M',Ext X.K H H' α α'/\SR X.K H' α' σ' ρ'/\HR X.K H' α' M'/\whN fc g m ρ' M'=some o,fun σ' H' z=>⟨m,Nat.lt_succ_self m,z⟩,?_⟩
    refine qb σ1 ρ1 H2 α2 M2 _ (s1.mono e2) h2 ?_
    have e12:=e1.trans e2
    cases eg:g ρ1 M2 with
    |nx ρ2 M3=>simp only[eg] at en1;exact fun σ' H' α' ex hr sr=>⟨ρ2,α',M3,e12.trans ex,sr,hr,en1⟩
    |cnt ρ2 M3=>simp only[eg] at en1;exact fun σ' H' α' ex hr sr=>⟨ρ2,α',M3,e12.trans ex,sr,hr,en1⟩
    |brk ρ2 M3=>simp only[eg] at en1;cases en1;exact fun σ' H' α' ex hr sr=>w σ' H' α' (e12.trans ex) hr sr
    |ret d M3=>simp only[eg] at en1;cases en1;exact fun v H' α' ex hr sr=>w v H' α' (e12.trans ex) hr sr
    |exc x M3=>simp only[eg] at en1;cases en1;exact fun C H' α' nn ex hr=>w C H' α' nn (e12.trans ex) hr
    |bad=>simp only[eg] at en1;cases en1;exact w.elim
noncomputable def Zav (tg:Tg)(g:Sv):List D->Ro->Sto->Fl
 | [],ρ,M=> .nx ρ M
 |d :: r,ρ,M=>match tg d ρ with
  |none=> .bad
  |some ρ1=>(match g ρ1 M with
   | .nx ρ2 M2=>Zav tg g r ρ2 M2
   | .cnt ρ2 M2=>Zav tg g r ρ2 M2
   | .brk ρ2 M2=> .nx ρ2 M2
   |o=>o)
noncomputable def Zd3 (tg:Tg)(g:Sv)(n:Nat):Nat->Nat->Ro->Sto->Fl
 |f,i,ρ,M=>match M[n]? with
  |some (.lst xs)=>(match xs[i]? with
   |none=> .nx ρ M
   |some d=>(match f with
    |0=> .bad
    |f + 1=>(match tg d ρ with
     |none=> .bad
     |some ρ1=>(match g ρ1 M with
      | .nx ρ2 M2=>Zd3 tg g n f (i + 1) ρ2 M2
      | .cnt ρ2 M2=>Zd3 tg g n f (i + 1) ρ2 M2
      | .brk ρ2 M2=> .nx ρ2 M2
      |o=>o))))
  |none=> .bad
noncomputable def Zai (lo:Int)(n:Nat):List D:=(List.range n).map fun (i:Nat)=>D.int (lo + i)
noncomputable def ZgD (tg:Tg)(g:Sv)(d:D)(ρ:Ro)(M:Sto):Fl:=match d with
 | .tup xs=>Zav tg g xs ρ M
 | .rol xs=>Zav tg g xs ρ M
 | .ref n=>(match M[n]? with | some (.lst xs)=>Zd3 tg g n xs.length 0 ρ M | none=> .bad)
 |_=> .bad
noncomputable def Zlr (tg:Tg)(f:Ev)(g:Sv):Sv:=fun ρ M=>ZD (f ρ M) fun d M1=>ZgD tg g d ρ M1
noncomputable def Zbr (tg:Tg)(fs:Av)(g:Sv):Sv:=fun ρ M=>ZD (fs ρ M) fun ds M1=>match ds with
 | [.int j]=>if -(2 ^ 62)<=j/\j < 2 ^ 62 then Zav tg g (Zai 0 j.toNat) ρ M1 else .bad
 |_=> .bad
noncomputable def ZeK (tg:Tg)(fs:Av)(g:Sv):Sv:=fun ρ M=>ZD (fs ρ M) fun ds M1=>match ds with
 | [.int i,.int j]=>if -(2 ^ 62)<=i/\i < 2 ^ 62/\ -(2 ^ 62)<=j/\j < 2 ^ 62 then Zav tg g (Zai i (j - i).toNat) ρ M1 else .bad
 |_=> .bad
theorem Zdq {lo:Int}{n i:Nat}(h:i < n):(Zai lo n)[i]?=some (.int (lo + i)):=by
 unfold Zai;rw[List.getElem?_map,List.getElem?_range h]
 rfl
theorem ZbO {lo:Int}{n:Nat}:(Zai lo n).length=n:=by unfold Zai;rw[List.length_map,List.length_range]
theorem ZeL {lo:Int}{n i:Nat}(h:i < n):(Zai lo n).drop i= .int (lo + i) :: (Zai lo n).drop (i + 1):=by
 have hl:i < (Zai lo n).length:=by rw[ZbO];exact h
 have e:=Zdq (lo:=lo) h
 rw[List.getElem?_eq_getElem hl] at e
 rw[List.drop_eq_getElem_cons hl,Option.some.inj e]
theorem Zhu {tg:Expr}{gt:Tg}{tt:TG}{tb:TS}{Dn:Ends}{H H1:Hp}{α α1:List Addr}{o:Fl}{k:Ro->Sto->Fl}(w:FP X.K H α ξ Dn o)
  (qt: ∀ v d σ ρ H α ρ' Q,SR X.K H α σ ρ->Rep X.K H α v d->gt d ρ=some ρ'->(∀ σ',SR X.K H α σ' ρ'->Q σ' H)->tt v σ H Q) (qb: ∀ σ ρ H α M Dn,SR X.K H α σ ρ->HR X.K H α M->FP X.K H α ξ Dn (g ρ M)->tb Dn σ H)
  {v:V} {d:D} {σ1:L2.St} {ρ1:Ro} {M1:Sto} (e1:Ext X.K H H1 α α1) (s1:SR X.K H1 α1 σ1 ρ1) (h1:HR X.K H1 α1 M1) (r:Rep X.K H1 α1 v d)
  (en:(match gt d ρ1 with | none=>Fl.bad | some ρ2=>(match g ρ2 M1 with | .nx ρ3 M3=>k ρ3 M3 | .cnt ρ3 M3=>k ρ3 M3 | .brk ρ3 M3=> .nx ρ3 M3 | o=>o))=o)
  {N:L2.St->Hp->Prop} (hN: ∀ σ' H',(∃ ρ' α' M',Ext X.K H H' α α'/\SR X.K H' α' σ' ρ'/\HR X.K H' α' M'/\k ρ' M'=o)->N σ' H'):tt v σ1 H1 fun σ2 H2=>tb { Dn with nx:=N,ct:=N,bk:=Dn.nx } σ2 H2:=by
 cases eg:gt d ρ1 with
 |none=>rw[eg] at en;cases en;exact w.elim
 |some ρ2=>
  simp only[eg] at en;refine qt v d σ1 ρ1 H1 α1 ρ2 _ s1 r eg fun σ2 s2=>qb σ2 ρ2 H1 α1 M1 _ s2 h1 ?_
  cases ex:g ρ2 M1 with
  |nx ρ3 M3=>simp only[ex] at en;exact fun σ' H' α' e2 hr sr=>hN _ _ ⟨ρ3,α',M3,e1.trans e2,sr,hr,en⟩
  |cnt ρ3 M3=>simp only[ex] at en;exact fun σ' H' α' e2 hr sr=>hN _ _ ⟨ρ3,α',M3,e1.trans e2,sr,hr,en⟩
  |brk ρ3 M3=>simp only[ex] at en;cases en;exact fun σ' H' α' e2 hr sr=>w σ' H' α' (e1.trans e2) hr sr
  |ret d M3=>simp only[ex] at en;cases en;exact fun v H' α' e2 hr sr=>w v H' α' (e1.trans e2) hr sr
  |exc x M3=>simp only[ex] at en;cases en;exact fun C H' α' nn e2 hr=>w C H' α' nn (e1.trans e2) hr
  |bad=>simp only[ex] at en;cases en;exact w.elim
theorem Zjk {tg:Expr}{gt:Tg}{tt:TG}{tb:TS}{Dn:Ends}{H:Hp}{α:List Addr}{lo:Int}{n:Nat}{σ:L2.St}{ρ:Ro}{M:Sto}
  (qt: ∀ v d σ ρ H α ρ' Q,SR X.K H α σ ρ->Rep X.K H α v d->gt d ρ=some ρ'->(∀ σ',SR X.K H α σ' ρ'->Q σ' H)->tt v σ H Q) (qb: ∀ σ ρ H α M Dn,SR X.K H α σ ρ->HR X.K H α M->FP X.K H α ξ Dn (g ρ M)->tb Dn σ H)
  (s:SR X.K H α σ ρ) (hh:HR X.K H α M) (w:FP X.K H α ξ Dn (Zav gt g (Zai lo n) ρ M)):
  ∃ W:Nat->Nat->L2.St->Hp->Prop,(∃ m,W 0 m σ H)/\ ∀ i m σ H,W i m σ H->
   ((Itr lo n).stop i H/\Dn.nx σ H)\/((Itr lo n).go i H/\ ∃ N:L2.St->Hp->Prop,(∀ σ' H',N σ' H'-> ∃ m',m' < m/\W (i + 1) m' σ' H')/\ ∀ x H',(Itr lo n).yld i H x H'->tt x σ H' fun σ2 H2=>tb { Dn with nx:=N,ct:=N,bk:=Dn.nx } σ2 H2):=by
 generalize ho:Zav gt g (Zai lo n) ρ M=o at w;refine Zee (fun i σ' H'=> ∃ ρ' α' M',Ext X.K H H' α α'/\SR X.K H' α' σ' ρ'/\HR X.K H' α' M'/\Zav gt g ((Zai lo n).drop i) ρ' M'=o) ⟨ρ,α,M,Ext.refl,s,hh,ho⟩ ?_ ?_
 ·rintro i σ1 H1 hi ⟨ρ1,α1,M1,e1,s1,h1,en⟩
  rw[ZeL hi] at en;exact Zhu (tg:=tg) w qt qb e1 s1 h1 (.int (lo + i)) en (fun σ' H' z=>z)
 ·rintro σ1 H1 ⟨ρ1,α1,M1,e1,s1,h1,en⟩
  rw[List.drop_eq_nil_of_le (by rw[ZbO];exact Nat.le_refl _)] at en
  cases en
  exact w σ1 H1 α1 e1 h1 s1
theorem ZbP {tg a:Expr}{gt:Tg}{fs:Av}{body:List Stmt}{p p2:Pos}(hp:PassesOwn (model X.prog X.w) X.A X.env X.xe)(hm:X.mg "range"=none)(ha:DA X ξ [a] fs)(hg:DG X tg gt)(hb:DSs X ξ body g)
  (hgl:Gl X "range":=by rfl) (hs:starEach [a] X.env=[(false,eval a X.env)]:=by rfl) (hf: ∀ x,foldedSetIterable (.Call (.Name "range" p) [a] [] p2) X.env x=pure x:=by intro _;rfl):DS X ξ (.For tg (.Call (.Name "range" p) [a] [] p2) body [] pos) (Zbr gt fs g):=by
 obtain ⟨ta,pa,qa⟩:=ha
 obtain ⟨tt,pt,qt⟩:=hg
 obtain ⟨tb,pb,qb⟩:=hb
 refine ⟨_,Zgw hp (Zb7 hgl hm pa hs) pt pb hf,fun σ ρ H α M Dn s hh w=>qa σ ρ H α M _ s hh (FP.seq w fun ds M1 vs H1 α1 e1 h1 r1 w1=> ?_)⟩
 match r1 with
 | .nil=>exact w1.elim
 | .cons r (.cons _ _)=>cases r<;>exact w1.elim
 | .cons r .nil=>
  cases r with
  |int j=>
   by_cases c: -(2 ^ 62)<=j/\j < 2 ^ 62
   ·simp only[if_pos c] at w1
    exact ⟨j,rfl,c.1,c.2,Zjk (tg:=tg) qt qb (s.mono e1) h1 w1⟩
   ·simp only[if_neg c] at w1
    exact w1.elim
  |_=>exact w1.elim
noncomputable def ZoY (K:PySem.W.Frag)(tl:TE):TI:=fun σ H R=>tl σ H fun x H1=> ∃ a,x= .ref a/\(((∃ xs,SqL K H1 a xs)/\R (Itl K a) H1)\/((∃ xs,SqT K H1 a xs)/\R (Itt K a) H1))
theorem ZgE {tg l:Expr}{tl:TE}(hl:PE X l tl):PI X tg l (ZoY X.K tl):=by
 intro pins s σ H R I h;refine thn (hl pins s σ H _ I h) fun v s1 ⟨x,H1,I1,r1,q1⟩=> ?_
 obtain ⟨a,e,q⟩:=q1
 subst e;cases r1
 have fp: ∀ b∈[s1.heap.objs.size],ZcI X pins H1 b:=fun b hb=>by
  have e:b=s1.heap.objs.size:=by simpa using hb
  subst e;exact I1.fpOk (Nat.le_refl _) (I1.hok.fresh (Nat.le_refl _))
 rcases q with ⟨⟨xs,hq⟩,q⟩ | ⟨⟨xs,hq⟩,q⟩
 ·obtain ⟨its,rv,p,hz⟩:=I1.list hq
  refine wpAny_pyIter_list p.isList ?_
  exact ⟨s1.heap.objs.size,[s1.heap.objs.size],_,_,H1,rfl,I1.kept (t':=s1.toks) fun b o e=>Heap.get?_push_of_some _ e,Zec a _,⟨_,Heap.get?_push_size _ rfl,rfl,rfl⟩,fp,q⟩
 ·obtain ⟨its,rv,p,hz⟩:=I1.tuple hq
  refine wpAny_pyIter_tuple (show s1.heap.IsTuple a its.toArray from p) ?_
  exact ⟨s1.heap.objs.size,[s1.heap.objs.size],_,_,H1,rfl,I1.kept (t':=s1.toks) fun b o e=>Heap.get?_push_of_some _ e,ZdD a _,⟨_,Heap.get?_push_size _ rfl,rfl,rfl⟩,fp,q⟩
theorem Zjl {tg l:Expr}{gt:Tg}{f:Ev}{body:List Stmt}(hp:PassesOwn (model X.prog X.w) X.A X.env X.xe)(hl:DE X ξ l f)(hg:DG X tg gt)(hb:DSs X ξ body g)
  (hf: ∀ x,foldedSetIterable l X.env x=pure x:=by intro _;rfl):DS X ξ (.For tg l body [] pos) (Zlr gt f g):=by
 obtain ⟨ta,pa,qa⟩:=hl
 obtain ⟨tt,pt,qt⟩:=hg
 obtain ⟨tb,pb,qb⟩:=hb
 refine ⟨_,Zgw hp (ZgE pa) pt pb hf,fun σ ρ H α M Dn s hh w=>qa σ ρ H α M _ s hh (FP.seq w fun d M1 v H1 α1 e1 h1 r1 w1=> ?_)⟩
 have s1:=s.mono e1
 have pure_: ∀ (ds:List D) (xs:List V),Reps X.K H1 α1 xs ds->FP X.K H1 α1 ξ Dn (Zav gt g ds ρ M1)-> ∀ (i:Nat) σ' H',(∃ ρ' α' M',Ext X.K H1 H' α1 α'/\SR X.K H' α' σ' ρ'/\HR X.K H' α' M'/\Zav gt g (ds.drop i) ρ' M'=Zav gt g ds ρ M1)->
   (∀ x,xs[i]?=some x->tt x σ' H' fun σ2 H2=>tb { Dn with nx:=fun σ H=> ∃ ρ' α' M',Ext X.K H1 H α1 α'/\SR X.K H α' σ ρ'/\HR X.K H α' M'/\Zav gt g (ds.drop (i + 1)) ρ' M'=Zav gt g ds ρ M1,ct:=fun σ H=> ∃ ρ' α' M',Ext X.K H1 H α1 α'/\SR X.K H α' σ ρ'/\HR X.K H α' M'/\Zav gt g (ds.drop (i + 1)) ρ' M'=Zav gt g ds ρ M1,bk:=Dn.nx } σ2 H2)/\
   (i=xs.length->Dn.nx σ' H'):=by
  intro ds xs r w1 i σ' H' ⟨ρ',α',M',ex,sr,hr,en⟩;refine ⟨fun x hx=> ?_,fun hi=> ?_⟩
  ·have hi:i < ds.length:=by rw[<- r.length];exact (List.getElem?_eq_some_iff.mp hx).1
   obtain ⟨v,g1,g2⟩:=r.get (List.getElem?_eq_getElem hi)
   rw[hx] at g1;cases g1
   rw[List.drop_eq_getElem_cons hi] at en;exact Zhu (tg:=tg) w1 qt qb ex sr hr (Rep.mono ex g2) en (fun σ' H' z=>z)
  ·rw[hi,r.length,List.drop_length] at en
   have en':Fl.nx ρ' M'=Zav gt g ds ρ M1:=en
   rw[<- en'] at w1;exact w1 σ' H' α' ex hr sr
 cases r1 with
 | @tup p xs ds hp rp=>
  have w2:FP X.K H1 α1 ξ Dn (Zav gt g ds ρ M1):=w1
  refine ⟨p,rfl,.inr ⟨⟨xs,(SqT.of hp)⟩,Zg4 (K:=X.K) (a:=p) (xs:=xs) (fun i σ' H'=> ∃ ρ' α' M',Ext X.K H1 H' α1 α'/\SR X.K H' α' σ' ρ'/\HR X.K H' α' M'/\Zav gt g (ds.drop i) ρ' M'=Zav gt g ds ρ M1) ⟨ρ,α1,M1,Ext.refl,s1,h1,rfl⟩ ?_ ?_ ?_⟩⟩
  ·rintro i σ' H' _ ⟨ρ',α',M',ex,_⟩
   exact SqT.of (ex.tup _ _ hp)
  ·intro i x σ' H' hx z
   exact (pure_ ds xs rp w2 i σ' H' z).1 x hx
  ·intro σ' H' z
   exact (pure_ ds xs rp w2 _ σ' H' z).2 rfl
 | @rol p xs ds hp rp=>
  have w2:FP X.K H1 α1 ξ Dn (Zav gt g ds ρ M1):=w1
  refine ⟨p,rfl,.inl ⟨⟨xs,hp.sq⟩,ZfM (K:=X.K) (a:=p) (xs:=xs) (fun i σ' H'=> ∃ ρ' α' M',Ext X.K H1 H' α1 α'/\SR X.K H' α' σ' ρ'/\HR X.K H' α' M'/\Zav gt g (ds.drop i) ρ' M'=Zav gt g ds ρ M1) ⟨ρ,α1,M1,Ext.refl,s1,h1,rfl⟩ ?_ ?_ ?_⟩⟩
  ·rintro i σ' H' _ ⟨ρ',α',M',ex,_⟩
   exact (ex.rol _ _ hp).sq
  ·intro i x σ' H' hx z
   exact (pure_ ds xs rp w2 i σ' H' z).1 x hx
  ·intro σ' H' z
   exact (pure_ ds xs rp w2 _ σ' H' z).2 rfl
 | @ref p n hp=>
  cases em:M1[n]? with
  |none=>simp only[ZgD,em] at w1;exact w1.elim
  |some so=>
   cases so with
   |lst ds=>
    simp only[ZgD,em] at w1;obtain ⟨xs0,g0,r0⟩:=h1.at hp em
    generalize eo:Zd3 gt g n ds.length 0 ρ M1=o at w1;refine ⟨p,rfl,.inl ⟨⟨xs0,SqL.of g0⟩,fun i m σ' H'=> ∃ ρ' α' M',Ext X.K H1 H' α1 α'/\SR X.K H' α' σ' ρ'/\HR X.K H' α' M'/\Zd3 gt g n m i ρ' M'=o,⟨ds.length,ρ,α1,M1,Ext.refl,s1,h1,eo⟩,?_⟩⟩
    rintro i m σ' H' ⟨ρ',α',M',ex,sr,hr,en⟩
    unfold Zd3 at en;cases em2:M'[n]? with
    |none=>simp only[em2] at en;cases en;exact w1.elim
    |some so2=>
     cases so2 with
     |lst ds2=>
      simp only[em2] at en;obtain ⟨xs,g1,g2⟩:=hr.at (ex.get hp) em2
      cases ei:ds2[i]? with
      |none=>
       simp only[ei] at en;cases en
       refine .inl ⟨⟨xs,SqL.of g1,?_⟩,w1 σ' H' α' ex hr sr⟩
       rw[g2.length];exact List.getElem?_eq_none_iff.mp ei
      |some d=>
       simp only[ei] at en;obtain ⟨v,k1,k2⟩:=g2.get ei
       cases m with
       |zero=>cases en;exact w1.elim
       |succ m=>
        refine .inr ⟨⟨xs,v,SqL.of g1,k1⟩,fun σ2 H2=> ∃ ρ' α' M',Ext X.K H1 H2 α1 α'/\SR X.K H2 α' σ2 ρ'/\HR X.K H2 α' M'/\Zd3 gt g n m (i + 1) ρ' M'=o,fun σ2 H2 z=>⟨m,Nat.lt_succ_self m,z⟩,fun x H2 y=> ?_⟩
        obtain ⟨ey,y⟩:=y
        subst ey;have ev:=y xs (SqL.of g1)
        rw[k1] at ev;cases ev
        exact Zhu (tg:=tg) w1 qt qb ex sr hr k2 en (fun σ' H' z=>z)
 |_=>exact w1.elim
end
noncomputable def fnF (g:Sv)(n k:Nat):List D->Sto->Out D:=fun ds M=>if ds.length=n then (match g (ds.map some ++ List.replicate k none) M with
 | .ret d M'=> .ok d M'
 | .nx _ M'=> .ok .non M'
 | .exc c M'=> .exc c M'
 |_=> .bad) else .bad
noncomputable def spD (K:PySem.W.Frag)(F:List D->Sto->Out D):Sp:=fun vs H Q E=> ∃ ds α M,Reps K H α vs ds/\HR K H α M/\OP K H α E Q (F ds M)
theorem Zcr: ∀ {ds:List D} {k i:Nat} {d:D},(ds.map some ++ List.replicate k none)[i]?=some (some d)->ds[i]?=some d
 | [],k,i,d,h=>by
  rw[List.map_nil,List.nil_append] at h
  have:=List.mem_of_getElem? h
  rw[List.mem_replicate] at this;cases this.2
 |x :: r,k,0,d,h=>by simpa using h
 |x :: r,k,i + 1,d,h=>by
  rw[List.map_cons,List.cons_append,List.getElem?_cons_succ] at h
  rw[List.getElem?_cons_succ]
  exact Zcr h
theorem SR.start {K:PySem.W.Frag}{H:Hp}{α:List Addr}{N:List Str}{vs:List V}{ds:List D}{k:Nat}(r:Reps K H α vs ds)(hk:k=N.length - ds.length):SR K H α (start N vs) (ds.map some ++ List.replicate k none):=by
 unfold L2.start;refine ⟨by simp only[List.length_append,List.length_map,List.length_replicate,r.length,hk],fun i d h=> ?_⟩
 obtain ⟨v,h1,h2⟩:=r.get (Zcr h)
 refine ⟨v,?_,h2⟩
 have hl:i < vs.length:=(List.getElem?_eq_some_iff.mp h1).1
 rw[List.getElem?_append_left (by rw[List.length_map];exact hl),List.getElem?_map,h1]
 rfl
section
variable {P:Program}{w:World}{K:PySem.W.Frag}{mg:Str->Option Value}{base:Heap}
theorem Zjm {x qual:Str}{st:Stmt}{f:Addr}{fd:FuncData}{N ps:List Str}{k n m:Nat}{g:Sv}(F:Fun K x qual st f fd)(S:FnScope N ps (Zn st))(hn:n=ps.length)(hm:m=N.length - n)
  (hb: ∀ (cdv:Value) (A:Around) (outer:List Env) (s:Shared) (H:Hp) (E:XK),Room k (A.deeper (envOfC qual (Zn st) s.heap.objs.size f cdv))->Thr (ZfB (CXE P w) P w K mg base N qual (Zn st) f cdv A outer s H E) E->DSs (ZfB (CXE P w) P w K mg base N qual (Zn st) f cdv A outer s H E) E (Z6 st) g):
  FnOk P w K mg base (CXE P w) (k + 1) f fd ps (spD K (fnF g n m)):=by
 obtain ⟨oc,od,kV,doc,pm,an,cdv,ct,osl,rfl,lk,hcd⟩:=F.ex
 refine ZlQ lk hcd S (fun vs H Q E h=> ?_) (fun A outer s H vs Q E hr h=> ?_)
 ·obtain ⟨ds,α,M,r,_,q⟩:=h
  by_cases c:ds.length=n
  ·rw[r.length,c,hn]
  ·simp only[fnF,if_neg c] at q
   exact q.elim
 ·obtain ⟨ds,α,M,r,hh,q⟩:=h
  obtain ⟨t,p,w'⟩:=hb cdv A outer s H E hr Zjh
  by_cases c:ds.length=n
  ·simp only[fnF,if_pos c] at q
   refine ⟨t,p,w' _ _ H α M _ (SR.start (N:=N) r (k:=m) (by rw[hm,c])) hh ?_⟩
   cases e:g (ds.map some ++ List.replicate m none) M with
   |nx ρ' M'=>simp only[e] at q;exact fun σ' H' α' ex hr sr=>q _ H' α' ex hr .non
   |ret d M'=>simp only[e] at q;exact q
   |exc x M'=>simp only[e] at q;exact q
   |brk ρ' M'=>simp only[e] at q;exact q.elim
   |cnt ρ' M'=>simp only[e] at q;exact q.elim
   |bad=>simp only[e] at q;exact q.elim
  ·simp only[fnF,if_neg c] at q
   exact q.elim
end
section
variable {X:Cx}{ξ:XK}{k:Nat}{f:Addr}{fd:FuncData}{ps:List Str}{F:List D->Sto->Out D}{x:Str}{p pos:Pos}{e:Expr}{es:List Expr}{fs:Av}
theorem Zhv (G:FnOk X.prog X.w X.K X.mg X.base (CXE X.prog X.w) k f fd ps (spD X.K F))(T:Thr X ξ)(hr:Room k X.A)(hm:X.mg x=some (.ref f))(hk:PySem.W.keepIn X.K (.ref f)=true)(hb:ZcO X.K fd ps [])(ha:DA X ξ (e :: es) fs)(hg:Gl X x:=by rfl)
  (hdb:(x == ("__debug__":Str))=false:=by decide) (he:starEach (e :: es) X.env=(false,eval e X.env) :: starEach es X.env:=by rfl) (hpl:(backTo pos (starEach es X.env)).any (·.1)=false:=by rfl):DE X ξ (.Call (.Name x p) (e :: es) [] pos) (Zj F fs):=by
 obtain ⟨t,pa,qa⟩:=ha
 refine ⟨_,Zha G hr hg hm hk hb .nil T.ps pa hdb he hpl,fun σ ρ H α M Q s hh q=>qa σ ρ H α M _ s hh (OG.seq q fun ds M1 vs H1 α1 e1 h1 r1 q1=> ?_)⟩
 rw[List.append_nil];exact ⟨ds,α1,M1,r1,h1,q1⟩
end
end DL
end
section
namespace DL
open PySem PySem.Spec PyProof.Rows L2
theorem Zcs:bootBuiltins "abs"=some (.builtin "abs"):=by decide +kernel
theorem ZbF:bootBuiltins "int"=some (.type "int"):=by decide +kernel
theorem ZeM:bootBuiltins "bool"=some (.type "bool"):=by decide +kernel
theorem ZbG:bootBuiltins "str"=some (.type "str"):=by decide +kernel
theorem ZbQ:bootBuiltins "list"=some (.type "list"):=by decide +kernel
theorem ZbR:bootBuiltins "tuple"=some (.type "tuple"):=by decide +kernel
theorem Zjn:bootBuiltins "max"=some (.builtin "max"):=by decide +kernel
theorem Zjo:bootBuiltins "min"=some (.builtin "min"):=by decide +kernel
theorem ZeN:bootBuiltins "all"=some (.builtin "all"):=by decide +kernel
noncomputable def Cal (P:Program)(w:World)(K:PySem.W.Frag)(mg:Str->Option Value)(base:Heap)(x:Str)(k n:Nat)(F:List D->Sto->Out D):Prop:=
 ∃ (f:Addr) (fd:FuncData) (ps:List Str),FnOk P w K mg base (CXE P w) k f fd ps (spD K F)/\mg x=some (.ref f)/\PySem.W.keepIn K (.ref f)=true/\ps.length=n/\ZcO K fd ps []
theorem Zf2 {X:Cx}{ξ:XK}{k n:Nat}{F:List D->Sto->Out D}{x:Str}{p pos:Pos}{e:Expr}{es:List Expr}{fs:Av}(C:Cal X.prog X.w X.K X.mg X.base x k n F)(T:Thr X ξ)(hr:Room k X.A)(ha:DA X ξ (e :: es) fs)(hg:Gl X x:=by rfl)
  (hdb:(x == ("__debug__":Str))=false:=by decide) (he:starEach (e :: es) X.env=(false,eval e X.env) :: starEach es X.env:=by rfl) (hpl:(backTo pos (starEach es X.env)).any (·.1)=false:=by rfl):DE X ξ (.Call (.Name x p) (e :: es) [] pos) (Zj F fs):=by
 obtain ⟨f,fd,ps,G,hm,hk,_,hb⟩:=C
 exact Zhv G T hr hm hk hb ha hg hdb he hpl
theorem Zjp {K:PySem.W.Frag}{H:Hp}{a:Addr}{ns:List Int}{n:Nat}{F:List D->Sto->Out D}(hl:ns.length<=n)(hO:Zlp H)(hS:SqL K H a (ns.map V.int))(h: ∃ M',F [.rol (ns.map D.int)] []= .ok (.bl true) M'):
  spD K F [.ref a] H (fun v _=>v= .bl true) (fun _ _ _=>False):=by
 obtain ⟨M',e⟩:=h
 have hF:SqF K H a (ns.map V.int):=by
  rcases hS with (h | ⟨o,h⟩) | h
  ·rcases hO a with z | ⟨o,xs,z⟩
   ·rw[h] at z;cases z
   ·rw[h] at z;cases z
  ·exact .inl ⟨o,h⟩
  ·exact .inr h
 refine ⟨[.rol (ns.map D.int)],[],[],.cons (.rol hF (Reps.ints ns)) .nil,HR.nil,?_⟩
 rw[e];intro v H' α' _ _ r;cases r
 rfl
end DL
end
section
namespace DL
open PySem PySem.Spec PyProof.Rows L2
noncomputable def bl:List Str:=["abs","all","any","bool","dict","enumerate","int","isinstance","len","list","max","min","range","repr","reversed","sorted","str","sum","tuple","zip"]
structure Bs (mg:Str->Option Value):Prop where
 b_abs:mg "abs"=none
 b_all:mg "all"=none
 b_any:mg "any"=none
 b_bool:mg "bool"=none
 b_dict:mg "dict"=none
 b_enumerate:mg "enumerate"=none
 b_int:mg "int"=none
 b_isinstance:mg "isinstance"=none
 b_len:mg "len"=none
 b_list:mg "list"=none
 b_max:mg "max"=none
 b_min:mg "min"=none
 b_range:mg "range"=none
 b_repr:mg "repr"=none
 b_reversed:mg "reversed"=none
 b_sorted:mg "sorted"=none
 b_str:mg "str"=none
 b_sum:mg "sum"=none
 b_tuple:mg "tuple"=none
 b_zip:mg "zip"=none
theorem Bs.of {K:PySem.W.Frag}{h:Heap}{mg:Str->Option Value}(X:K.In h)(G:h.Ns mainGlobals mg)(z:bl.map (PySem.W.nsIn K mainGlobals)=bl.map fun _=>some none):Bs mg:=by
 have q (x:Str) (m:x∈bl):mg x=none:=PySem.W.mg_none_of X G (List.map_inj_left.mp z x m)
 constructor<;>exact q _ (by decide +kernel)
structure Rw where
 n:String
 i:Nat
 f:Nat
 m:String
 t:Nat
 u:Nat
 ln:Nat
 na:Nat
 b:Bool
 v:Nat
noncomputable def zz1 (P:Params)(s:String)(n:Nat)(v:Value):DictEntry:={ hash:=PyData.keyHash P (Str.ofString s),key:=Value.str (Str.ofString s) n,val:=v }
noncomputable def zz3 (s:String)(n:Nat):Value:=Value.str (Str.ofString s) n
noncomputable def zz4 (n:Int):Value:=Value.int n 0
noncomputable def zz6 (b:Bool)(n:Nat):Value:=if b then .ref n else .none
noncomputable def Rw.fo (p:Nat->Stmt)(r:Rw):Obj:=⟨.type "function",none,.func (PySem.W.fnOf r.n r.n (ZaB (p r.i)) (Z6 (p r.i)) (Zn (p r.i)) .none .none .none (.str r.m r.t) none (.ref (r.f - 1)) .none),#[]⟩
noncomputable def Rw.co (r:Rw):Obj:={ cls:=Value.type "code",data:=Data.fields #[zz3 r.n r.u,zz3 r.n (r.u + 1),zz3 "/claim/cut.py" (r.u + 2),zz4 r.ln,zz4 r.na,zz4 0,zz4 0,zz4 3,.ref (r.f - (if r.b then 6 else 4)),.bool true,zz4 181,.ref (r.f - (if r.b then 5 else 3)),.none,zz6 r.b (r.f - 4),zz6 r.b (r.f - 3),.ref (r.f - 2),zz4 r.v,zz4 r.ln,zz3 "/claim/cut.py" (r.v + 1)] }
noncomputable def Rw.de (P:Params)(r:Rw):DictEntry:=zz1 P r.n (r.v + 2) (.ref r.f)
noncomputable def Rw.en (p:Nat->Stmt)(r:Rw):PySem.W.Frag:=[(r.f,r.fo p),(r.f - 1,r.co)]
structure Cw where
 n:String
 f:Nat
 t:Nat
 ln:Nat
noncomputable def Cw.cls (r:Cw):Obj:={ cls:=Value.type "type",data:=Data.cls { name:=Str.ofString r.n,bases:=[Value.ref 24],mro:=[Value.ref r.f,Value.ref 24,Value.type "ValueError",Value.type "Exception",Value.type "BaseException",Value.type "object"],ns:=r.f - 1,qualname:=Str.ofString r.n },slots:= #[some (Value.ref (r.f - 9)),none,some (zz3 r.n r.t),some (zz3 r.n (r.t + 8)),some (Value.builtin "ValueError.__new__"),some (Value.bool true)] }
noncomputable def Cw.ns (P:Params)(r:Cw):Obj:={ cls:=Value.type "dict",data:=Data.dict #[zz1 P "__module__" (r.t + 7) (zz3 "rayround.errors" 187),zz1 P "__firstlineno__" (r.t + 11) (Value.int r.ln (r.t + 10)),zz1 P "__static_attributes__" (r.t + 12) (Value.ref (r.f - 2)),zz1 P "__doc__" (r.t + 13) Value.none] 2 }
noncomputable def Cw.de (P:Params)(r:Cw):DictEntry:=zz1 P r.n (r.t + 15) (.ref r.f)
noncomputable def Cw.en (P:Params)(r:Cw):PySem.W.Frag:=[(r.f,r.cls),(r.f - 1,r.ns P)]
noncomputable def Df (K:PySem.W.Frag)(x:Str)(st:Stmt):Prop:= ∃ f fd,PySem.W.nsIn K mainGlobals x=some (some (.ref f))/\Fun K x x st f fd
noncomputable def Dfs (K:PySem.W.Frag)(p:Nat->Stmt)(L:List Rw):Prop:=
 L.map (fun r=>(PySem.W.nsIn K mainGlobals r.n,K.lookup r.f,PySem.W.codeIn K (.ref (r.f - 1)) r.n,PySem.W.keepIn K (.ref r.f)))=L.map fun r=>(some (some (.ref r.f)),some (r.fo p),true,true)
theorem Dfs.of {K:PySem.W.Frag}{p:Nat->Stmt}{L:List Rw}(h:L.map (fun r=>(PySem.W.nsIn K mainGlobals r.n,K.lookup r.f,PySem.W.codeIn K (.ref (r.f - 1)) r.n,PySem.W.keepIn K (.ref r.f)))=L.map fun r=>(some (some (.ref r.f)),some (r.fo p),true,true)):Dfs K p L:=h
theorem Dfs.at {K:PySem.W.Frag}{p:Nat->Stmt}{L:List Rw}(h:Dfs K p L)(j i:Nat){x:Str}(e:(L[j]?).map (fun r=>(Str.ofString r.n,r.i))=some (x,i):=by rfl):Df K x (p i):=by
 obtain ⟨r,m,e⟩:=Option.map_eq_some_iff.mp e
 have q:=List.map_inj_left.mp h r (List.mem_of_getElem? m)
 cases e
 simp only[Prod.mk.injEq] at q;exact ⟨_,_,q.1,Zi2 q.2.1 q.2.2.1 q.2.2.2⟩
section
variable {P:Program}{w:World}{K:PySem.W.Frag}{mg:Str->Option Value}{base:Heap}
theorem ZoZ {α:Type}{P:List α->Prop}(h:P []): ∀ us:List α,us.length=0->P us
 | [],_=>h
theorem Zo0 {α:Type}{P:List α->Prop}(h: ∀ x0,P [x0]): ∀ us:List α,us.length=1->P us
 | [x0],_=>h x0
theorem Zo1 {α:Type}{P:List α->Prop}(h: ∀ x0 x1,P [x0,x1]): ∀ us:List α,us.length=2->P us
 | [x0,x1],_=>h x0 x1
theorem Zo2 {α:Type}{P:List α->Prop}(h: ∀ x0 x1 x2,P [x0,x1,x2]): ∀ us:List α,us.length=3->P us
 | [x0,x1,x2],_=>h x0 x1 x2
theorem Zo3 {α:Type}{P:List α->Prop}(h: ∀ x0 x1 x2 x3,P [x0,x1,x2,x3]): ∀ us:List α,us.length=4->P us
 | [x0,x1,x2,x3],_=>h x0 x1 x2 x3
theorem Zo4 {α:Type}{P:List α->Prop}(h: ∀ x0 x1 x2 x3 x4,P [x0,x1,x2,x3,x4]): ∀ us:List α,us.length=5->P us
 | [x0,x1,x2,x3,x4],_=>h x0 x1 x2 x3 x4
theorem Zo5 {α:Type}{P:List α->Prop}(h: ∀ x0 x1 x2 x3 x4 x5,P [x0,x1,x2,x3,x4,x5]): ∀ us:List α,us.length=6->P us
 | [x0,x1,x2,x3,x4,x5],_=>h x0 x1 x2 x3 x4 x5
theorem ZS {x:Str}{st:Stmt}{N:List Str}{k n m:Nat}{g:Sv}(D:Df K x st)(gl: ∀ c v,PySem.W.nsIn K mainGlobals c=some (some v)->mg c=some v)
  (hb: ∀ (cdv:Value) (A:Around) (outer:List Env) (s:Shared) (H:Hp) (E:XK) (f:Addr),N.Nodup->Room k (A.deeper (envOfC x (Zn st) s.heap.objs.size f cdv))->Thr (ZfB (CXE P w) P w K mg base N x (Zn st) f cdv A outer s H E) E->DSs (ZfB (CXE P w) P w K mg base N x (Zn st) f cdv A outer s H E) E (Z6 st) g)
  (h1:(Zn st).kind= .function:=by rfl) (h2:(Zn st).isCoroutine=false:=by rfl) (h3:(Zn st).isGenerator=false:=by rfl) (h4:N.Nodup:=by decide +kernel) (h5:(N.take n).length=n:=by rfl)
  (h6: ∀ y∈N.take n,(Zn st).names.lookup y=some .local\/(Zn st).names.lookup y=some .cell:=by decide +kernel) (h7: ∀ y∈(Zn st).names,y.2≠ .free:=by decide +kernel) (hm:m=N.length - n:=by rfl)
  (bi: ∀ (kV doc pm:Value) (an:Option Addr) (cdv ct:Value) (us:List Value),us.length=n->bindArgs (PySem.W.fnOf x x (ZaB st) (Z6 st) (Zn st) .none kV doc pm an cdv ct) ⟨us,[]⟩=pure ((N.take n).zip us):=by first | exact fun _ _ _ _ _ _=>Zo0 fun _=>rfl | exact fun _ _ _ _ _ _=>Zo1 fun _ _=>rfl | exact fun _ _ _ _ _ _=>Zo2 fun _ _ _=>rfl | exact fun _ _ _ _ _ _=>Zo3 fun _ _ _ _=>rfl | exact fun _ _ _ _ _ _=>Zo4 fun _ _ _ _ _=>rfl | exact fun _ _ _ _ _ _=>Zo5 fun _ _ _ _ _ _=>rfl | exact fun _ _ _ _ _ _=>ZoZ rfl):Cal P w K mg base x (k + 1) n (fnF g n m):=by
 obtain ⟨f,fd,a,F⟩:=D
 have S:FnScope N (N.take n) (Zn st):=⟨h1,h2,h3,h4,by rw[h5],h6,h7⟩
 exact ⟨f,fd,N.take n,Zjm F S h5.symm hm (fun cdv A outer s H E hr θ=>hb cdv A outer s H E f h4 hr θ),gl _ _ a,F.kp,h5,F.binds (fun kV doc pm an cdv ct us hu=>bi kV doc pm an cdv ct us (hu.trans h5))⟩
theorem Zg {X:Cx}{ξ:XK}{j k n:Nat}{F:List D->Sto->Out D}{x:Str}{p pos:Pos}{e:Expr}{es:List Expr}{fs:Av}(C:Cal X.prog X.w X.K X.mg X.base x k n F)(T:Thr X ξ)(hr:Room j X.A)(ha:DA X ξ (e :: es) fs)(hj:k<=j:=by decide)(hg:Gl X x:=by rfl)
  (hdb:(x == ("__debug__":Str))=false:=by decide) (he:starEach (e :: es) X.env=(false,eval e X.env) :: starEach es X.env:=by rfl) (hpl:(backTo pos (starEach es X.env)).any (·.1)=false:=by rfl):DE X ξ (.Call (.Name x p) (e :: es) [] pos) (Zj F fs):=Zf2 C T (hr.mono hj) ha hg hdb he hpl
theorem Zjq {l:PySem.W.OpenLaw}{h:Heap}{fa:Addr}{st:Stmt}{k:Nat}{y:Str}{F:List D->Sto->Out D}(X:K.In h)(G:h.Ns mainGlobals mg)(hfa:mg "law"=some (.ref fa))(D:Df K "law" st)(b: ∀ (kV doc pm:Value) (an:Option Addr) (cdv ct:Value) (v:Value),bindArgs (PySem.W.fnOf "law" "law" (ZaB st) (Z6 st) (Zn st) .none kV doc pm an cdv ct) ⟨[v],[]⟩=pure [(y,v)])
  (q: ∀ base fd,Fun K "law" "law" st fa fd->FnOk l.prog w K mg base (CXE l.prog w) k fa fd [y] (spD K F)): ∃ fd:FuncData,(∀ (s:Shared) (v:Value),BindsTo s fd ⟨[v],[]⟩ [(y,v)])/\ ∀ base:Heap,K.In base->base.Ns mainGlobals mg->FnOk l.prog w K mg base (CXE l.prog w) k fa fd [y] (spD K F):=by
 obtain ⟨f,fd,a,F⟩:=D
 have e:=hfa.symm.trans (PySem.W.mg_of X G a)
 cases e
 refine ⟨fd,?_,fun base _ _=>q base fd F⟩
 obtain ⟨oc,od,kV,doc,pm,an,cdv,ct,osl,rfl,lk,hcd⟩:=F.ex
 exact fun s v=> .of_eq (b kV doc pm an cdv ct v)
end
end DL
end
section
namespace DL
open PySem PySem.Spec PyProof.Rows L2
inductive Src where
 |pur (ds:List D)
 |sto (n:Nat)
 |zip (n m:Nat)
 |enu (n:Nat)
 |rev (n l:Nat)
 |zips (ns:List Nat)
 |dct (n:Nat)
noncomputable def ZeO (M:Sto)(i:Nat):List Nat->Option (Option (List D))
 | []=>some (some [])
 |n :: ns=>match M[n]? with
  |none=>none
  |some (.lst xs)=>match ZeO M i ns with
   |none=>none
   |some r=>match xs[i]?,r with | some x,some ds=>some (some (x :: ds)) | _,_=>some none
noncomputable def nxt (src:Src)(i:Nat)(M:Sto):Option (Option D):=match src with
 | .pur ds=>some ds[i]?
 | .sto n=>match M[n]? with | some (.lst xs)=>some xs[i]? | none=>none
 | .zip n m=>match M[n]?,M[m]? with
  |some (.lst xs),some (.lst ys)=>(match xs[i]?,ys[i]? with | some x,some y=>some (some (.tup [x,y])) | _,_=>some none)
  |_,_=>none
 | .enu n=>match M[n]? with | some (.lst xs)=>(match xs[i]? with | some x=>some (some (.tup [.int i,x])) | none=>some none) | none=>none
 | .dct n=>match M[n]? with | some (.lst (.non :: r))=>(match r[i]? with | some (.tup (k :: _))=>some (some k) | some _=>none | none=>some none) | _=>none
 | .zips ns=>match ZeO M i ns with | some (some ds)=>some (some (.tup ds)) | some none=>some none | none=>none
 | .rev n l=>match M[n]? with | some (.lst xs)=>if i < l then (match xs[l - 1 - i]? with | some x=>some (some x) | none=>none) else (if i=l then some none else none) | none=>none
noncomputable def cnt (src:Src)(M:Sto):Nat:=match src with
 | .pur ds=>ds.length
 | .sto n=>match M[n]? with | some (.lst xs)=>xs.length | none=>0
 | .zip n _=>match M[n]? with | some (.lst xs)=>xs.length | none=>0
 | .enu n=>match M[n]? with | some (.lst xs)=>xs.length | none=>0
 | .rev _ l=>l
 | .dct n=>match M[n]? with | some (.lst xs)=>xs.length | none=>0
 | .zips ns=>match ns with | n :: _=>(match M[n]? with | some (.lst xs)=>xs.length | none=>0) | []=>0
noncomputable def Ats (H:Hp)(α:List Addr):List Nat->List Addr->Prop
 | [],[]=>True
 |n :: ns,l :: ls=>RefK H α 0 n l/\Ats H α ns ls
 |_,_=>False
noncomputable def Zjr (K:PySem.W.Frag)(H:Hp)(α:List Addr)(J:It)(src:Src):Prop:= ∀ (i:Nat) H' α' M',Ext K H H' α α'->HR K H' α' M'->match nxt src i M' with
 |some none=>J.stop i H'
 |some (some d)=>J.go i H'/\ ∀ x H'',J.yld i H' x H''->Ext K H' H'' α' α'/\HR K H'' α' M'/\Rep K H'' α' x d
 |none=>True
noncomputable def DI (X:Cx)(ξ:XK)(tg iter:Expr)(f:Ro->Sto->Out Src):Prop:= ∃ wi:TI,PI X tg iter wi/\ ∀ σ ρ H α M R,SR X.K H α σ ρ->HR X.K H α M->OG X.K (Zjr X.K) H α ξ R (f ρ M)->wi σ H R
section
variable {X:Cx}{ξ:XK}{tg iter a b:Expr}{fs:Av}{f:Ev}{p pos:Pos}
noncomputable def iR1 (fs:Av):Ro->Sto->Out Src:=fun ρ M=>(fs ρ M).bind fun ds M1=>match ds with
 | [.int j]=>if -(2 ^ 62)<=j/\j < 2 ^ 62 then .ok (.pur (Zai 0 j.toNat)) M1 else .bad
 |_=> .bad
theorem ZdI {K:PySem.W.Frag}{H:Hp}{α:List Addr}{lo:Int}{n:Nat}:Zjr K H α (Itr lo n) (.pur (Zai lo n)):=by
 intro i H' α' M' ex hr;show match some (Zai lo n)[i]? with | some none=>_ | some (some d)=>_ | none=>True
 by_cases h:i < n
 ·rw[Zdq h]
  refine ⟨h,fun x H'' y=> ?_⟩
  obtain ⟨e1,e2⟩:=y
  subst e1 e2;exact ⟨Ext.refl,hr,.int _⟩
 ·rw[List.getElem?_eq_none (by rw[ZbO];omega)]
  exact Nat.le_of_not_lt h
theorem ZeP (hm:X.mg "range"=none)(ha:DA X ξ [a] fs)(hgl:Gl X "range":=by rfl)(hs:starEach [a] X.env=[(false,eval a X.env)]:=by rfl):DI X ξ tg (.Call (.Name "range" p) [a] [] pos) (iR1 fs):=by
 obtain ⟨ta,pa,qa⟩:=ha
 refine ⟨_,Zb7 hgl hm pa hs,fun σ ρ H α M R s hh q=>qa σ ρ H α M _ s hh (OG.seq q fun ds M1 vs H1 α1 e1 h1 r1 w1=> ?_)⟩
 match r1 with
 | .nil=>exact w1.elim
 | .cons r (.cons _ _)=>cases r<;>exact w1.elim
 | .cons r .nil=>
  cases r with
  |int j=>
   by_cases c: -(2 ^ 62)<=j/\j < 2 ^ 62
   ·simp only[if_pos c] at w1
    exact ⟨j,rfl,c.1,c.2,w1 _ H1 α1 Ext.refl h1 ZdI⟩
   ·simp only[if_neg c] at w1
    exact w1.elim
  |_=>exact w1.elim
noncomputable def iSq (f:Ev):Ro->Sto->Out Src:=fun ρ M=>(f ρ M).bind fun d M1=>match d with
 | .tup ds=> .ok (.pur ds) M1
 | .rol ds=> .ok (.pur ds) M1
 | .con ds=> .ok (.pur ds) M1
 | .ref n=> .ok (.sto n) M1
 |_=> .bad
theorem ZaK (ha:DE X ξ a f):DI X ξ tg a (iSq f):=by
 obtain ⟨ta,pa,qa⟩:=ha
 refine ⟨_,ZgE pa,fun σ ρ H α M R s hh q=>qa σ ρ H α M _ s hh (OG.seq q fun d M1 v H1 α1 e1 h1 r1 w1=> ?_)⟩
 cases r1 with
 | @tup p xs ds hp rp=>
  refine ⟨p,rfl,.inr ⟨⟨xs,(SqT.of hp)⟩,w1 (Itt X.K p) H1 α1 Ext.refl h1 ?_⟩⟩
  intro i H' α' M' ex hr;show match some ds[i]? with | some none=>_ | some (some d)=>_ | none=>True
  cases ei:ds[i]? with
  |none=>exact ⟨xs,SqT.of (ex.tup _ _ hp),by rw[rp.length];exact List.getElem?_eq_none_iff.mp ei⟩
  |some d=>
   obtain ⟨v,k1,k2⟩:=rp.get ei
   refine ⟨⟨xs,v,SqT.of (ex.tup _ _ hp),k1⟩,fun x H'' y=> ?_⟩
   obtain ⟨ey,y⟩:=y
   have z:=y xs (SqT.of (ex.tup _ _ hp))
   rw[k1] at z;cases z
   subst ey;exact ⟨Ext.refl,hr,Rep.mono ex k2⟩
 | @con p xs ds hp rp=>
  refine ⟨p,rfl,.inr ⟨⟨xs,hp.sq⟩,w1 (Itt X.K p) H1 α1 Ext.refl h1 ?_⟩⟩
  intro i H' α' M' ex hr;show match some ds[i]? with | some none=>_ | some (some d)=>_ | none=>True
  cases ei:ds[i]? with
  |none=>exact ⟨xs,hp.sq,by rw[rp.length];exact List.getElem?_eq_none_iff.mp ei⟩
  |some d=>
   obtain ⟨v,k1,k2⟩:=rp.get ei
   refine ⟨⟨xs,v,hp.sq,k1⟩,fun x H'' y=> ?_⟩
   obtain ⟨ey,y⟩:=y
   have z:=y xs hp.sq
   rw[k1] at z;cases z
   subst ey;exact ⟨Ext.refl,hr,Rep.mono ex k2⟩
 | @rol p xs ds hp rp=>
  refine ⟨p,rfl,.inl ⟨⟨xs,hp.sq⟩,w1 (Itl X.K p) H1 α1 Ext.refl h1 ?_⟩⟩
  intro i H' α' M' ex hr;show match some ds[i]? with | some none=>_ | some (some d)=>_ | none=>True
  have hq:=(ex.rol _ _ hp).sq
  cases ei:ds[i]? with
  |none=>exact ⟨xs,hq,by rw[rp.length];exact List.getElem?_eq_none_iff.mp ei⟩
  |some d=>
   obtain ⟨v,k1,k2⟩:=rp.get ei
   refine ⟨⟨xs,v,hq,k1⟩,fun x H'' y=> ?_⟩
   obtain ⟨ey,y⟩:=y
   have z:=y xs hq
   rw[k1] at z;cases z
   subst ey;exact ⟨Ext.refl,hr,Rep.mono ex k2⟩
 | @ref p n hp=>
  obtain ⟨xs0,g0⟩:=h1.some_at hp
  refine ⟨p,rfl,.inl ⟨⟨xs0,SqL.of g0⟩,w1 (Itl X.K p) H1 α1 Ext.refl h1 ?_⟩⟩
  intro i H' α' M' ex hr;show match (match M'[n]? with | some (.lst xs)=>some xs[i]? | none=>none) with | some none=>_ | some (some d)=>_ | none=>True
  cases em:M'[n]? with
  |none=>exact True.intro
  |some so=>
   cases so with
   |lst ds=>
    obtain ⟨xs,g1,g2⟩:=hr.at (ex.get hp) em
    show match some ds[i]? with | some none=>_ | some (some d)=>_ | none=>True
    cases ei:ds[i]? with
    |none=>exact ⟨xs,SqL.of g1,by rw[g2.length];exact List.getElem?_eq_none_iff.mp ei⟩
    |some d=>
     obtain ⟨v,k1,k2⟩:=g2.get ei
     refine ⟨⟨xs,v,SqL.of g1,k1⟩,fun x H'' y=> ?_⟩
     obtain ⟨ey,y⟩:=y
     have z:=y xs (SqL.of g1)
     rw[k1] at z;cases z
     subst ey;exact ⟨Ext.refl,hr,k2⟩
 |_=>exact w1.elim
end
noncomputable def blk (X:Cx)(scope:Scope)(cl:List (Str × Addr))(N:List Str)(C:Addr)(fp:List Addr)(s:Shared)(H:Hp):Cx:=
 { X with N:=N,s₀:=s,H₀:=H,env:=compEnvC scope cl C X.env,outer:=X.stack,stack:=X.stack,ex:=fp,fn:=fun _=>false,pn:=[],xe:=fun _ _=>False,fxs:=none }
theorem Z7 {X:Cx}{scope:Scope}{cl:List (Str × Addr)}{N:List Str}{C:Addr}{fp:List Addr}{s:Shared}{H:Hp}:Thr (blk X scope cl N C fp s H) E0:=
 ⟨PassesOwn.never,fun _ _ _ _ _ _ _ ⟨_,_,_,_,_,_,_,_,_,_,_,_,_,q⟩=>q,fun _ _ _ _ _ _ _ _ _ _ _ _ _ _ _ _ _ _ _ _ _ _ q=>q⟩
noncomputable def ZbB (src:Src)(tg:Tg)(c:Tv)(f:Ev)(n:Nat):Nat->Nat->Ro->Sto->Out Unit
 |fuel,i,ρ,M=>match nxt src i M with
  |none=> .bad
  |some none=> .ok () M
  |some (some d)=>(match fuel with
   |0=> .bad
   |fuel + 1=>(match tg d ρ with
    |none=> .bad
    |some ρ1=>(match c ρ1 M with
     | .ok true M1=>(match f ρ1 M1 with
      | .ok x M2=>(match M2[n]? with
       |some (.lst xs)=>if xs.length < 10000000 then ZbB src tg c f n fuel (i + 1) ρ1 (M2.set n (.lst (xs ++ [x]))) else .bad
       |none=> .bad)
      |_=> .bad)
     | .ok false M1=>ZbB src tg c f n fuel (i + 1) ρ1 M1
     |_=> .bad)))
noncomputable def roB (k:Nat)(fr:List Nat)(ρ:Ro):Ro:=List.replicate k none ++ fr.map fun i=>(ρ[i]?).join
noncomputable def Z3 (fi:Ro->Sto->Out Src)(k:Nat)(fr:List Nat)(tg:Tg)(c:Tv)(f:Ev):Ev:=fun ρ M=>(fi ρ M).bind fun src M1=>match ZbB src tg c f M1.length (cnt src M1) 0 (roB k fr ρ) (M1 ++ [.lst []]) with
 | .ok _ M2=> .ok (.ref M1.length) M2
 |_=> .bad
structure Blk (X:Cx) (scope:Scope) (cl:List (Str × Addr)) (N:List Str) (k:Nat) (fr:List Nat):Prop where
 clos:closureFor scope X.env=pure cl
 kind:scope.kind= .function
 cell: ∀ y∈scope.names,y.2≠ .cell
 names: ∀ y∈scope.names,y.2= .local->scope.names.lookup y.1=some .local
 sub: ∀ x c,cl.lookup x=some c->X.env.cells.lookup x=some c
 has: ∀ x,((relabel scope X.env).names.lookup x=some .cell\/(relabel scope X.env).names.lookup x=some .free)-> ∃ c,cl.lookup x=some c
 len:N.length=k + fr.length
 at_: ∀ (j i:Nat),fr[j]?=some i-> ∃ x,N[k + j]?=some x/\X.N[i]?=some x/\X.env.kindOf x=some .cell/\((relabel scope X.env).names.lookup x=some .cell\/(relabel scope X.env).names.lookup x=some .free)/\cl.lookup x=X.env.cells.lookup x
theorem Zct {prog:Program}{w:World}{A:Around}{R:Result->Shared->Prop}{s:Shared}{elt target iter:Expr}{ifs:List Expr}{scope:Scope}{pos:Pos}{it acc:Value}{env:Env}(I:Nat->Shared->Prop)
  (turn: ∀ n s,I n s->wpAny (model prog w) A (pyNext it) (fun r s₁=>match r with
   |none=>R (.ok .next) s₁
   |some v=>wpAny (model prog w) A (letOwnedTupleGo target it v) (fun _ s₁=>wpAny (model prog w) A (assign target env v) (fun _ s₂=>
     wpAny (model prog w) A (forIn ifs true fun c r=>if r=true then do let ok <- isTrue c env (eval c env);pure (ForInStep.yield ok) else pure (ForInStep.yield r)) (fun ok s₃=>
      if ok=true then wpAny (model prog w) A (eval elt env) (fun x s₄=>
       wpAny (model prog w) A (call (.builtin "list.append") [acc,x]) (fun _ s₅=> ∃ m,m < n/\I m s₅) (fun _ _=>False) s₄) (fun _ _=>False) s₃
      else ∃ m,m < n/\I m s₃) (fun _ _=>False) s₂) (fun _ _=>False) s₁) (fun _ _=>False) s₁) (fun _ _=>False) s)
  (n:Nat) (h:I n s):
  codeAny (model prog w) A (.compLoop (.ListComp elt [⟨target,iter,ifs,0⟩] scope pos) 0 it acc env) R s:=by
 refine codeAny_loop rfl I (fun n s hI=> ?_) n h
 show wpAny _ A ((compTurn (.ListComp elt [⟨target,iter,ifs,0⟩] scope pos) 0 it acc env).onRaise (fun x=>do noteFrame x env;theTreesLotGoes x)) _ _ s
 refine wpAny_noted ?_
 rw[compTurn_list];refine wpAny_bind (wpAny_standAt (wpAny_bind (wpAny_mono (turn n s hI) (fun r s₁ h₁=> ?_) fun _ _ h'=>h'.elim)))
 cases r with
 |none=>exact wpAny_pure h₁
 |some v=>
  refine wpAny_bind (wpAny_mono h₁ (fun _ s₁ h₁=> ?_) fun _ _ h'=>h'.elim)
  refine wpAny_bind (wpAny_mono h₁ (fun _ s₂ h₂=>wpAny_bind (wpAny_mono h₂ (fun ok s₃ h₃=> ?_) fun _ _ h'=>h'.elim)) fun _ _ h'=>h'.elim)
  cases ok with
  |false=>exact wpAny_pure ⟨rfl,h₃⟩
  |true=>
   exact wpAny_bind (wpAny_bind (wpAny_mono h₃ (fun x s₄ h₄=>wpAny_bind (wpAny_mono h₄ (fun _ s₅ h₅=>wpAny_pure (wpAny_pure ⟨rfl,h₅⟩)) fun _ _ h'=>h'.elim)) fun _ _ h'=>h'.elim))
noncomputable def DC (X:Cx)(ifs:List Expr)(c:Tv):Prop:=(ifs=[]/\c=fun _ M=> .ok true M)\/ ∃ e,ifs=[e]/\DT X E0 e c
section
variable {X:Cx}{ξ:XK}{tg iter elt:Expr}{ifs:List Expr}{scope:Scope}{cl:List (Str × Addr)}{N:List Str}{k:Nat}{fr:List Nat}{fi:Ro->Sto->Out Src}{gt:Tg}{c:Tv}{f:Ev}{pos:Pos}
theorem ZeQ (B:Blk X scope cl N k fr){pins:List (Addr × Obj)}{σ:L2.St}{H:Hp}{s:Shared}{fp:List Addr}(I:Inv X pins σ H s)(hf: ∀ b∈fp,ZcI X pins H b)(hlt: ∀ b∈fp,b < s.heap.objs.size):(blk X scope cl N s.heap.objs.size fp s H).Ok where
 mod:=I.ok.mod
 kind:=B.kind
 glob:=I.ok.glob
 blt:=I.ok.blt
 above:=Nat.le_refl _
 inj:=fun x y c h1 h2=>I.ok.inj x y c (B.sub x c h1) (B.sub y c h2)
 has:=fun x h=>B.has x h
 cab:=fun x c h=>(by cases h)
 hd:=I.ok.hd
 frames:=I.ok.frames
 stk:= .inl rfl
 exf:=fun b hb=>⟨Nat.ne_of_lt (hlt b hb),fun x c h=>(hf b hb).2.2.2.2.1 x c (B.sub x c h)⟩
 bs:=I.bs
 bsz:=Nat.le_trans I.ok.bsz I.sz
 noex:=fun b o e hb=>by
  rcases (hf b hb).2.2.2.1 with z | z
  ·exact I.ok.noex b o e z
  ·exact absurd (Nat.lt_of_lt_of_le (Heap.lt_size (I.ok.bs b o e).1) z) (Nat.lt_irrefl _)
 exfs:=fun b hb z=>by
  rcases List.mem_cons.mp (I.stkSub b z) with e | e
  ·exact (hf b hb).2.1 e
  ·exact (hf b hb).2.2.1 e
 funs:=I.stack
 frf:=I.stkFree
theorem join_some {α:Type}{o:Option (Option α)}{v:α}(h:o.join=some v):o=some (some v):=by
 cases o with
 |none=>cases h
 |some x=>cases x with
  |none=>cases h
  |some y=>cases h;rfl
theorem Zhw {ρ:Ro}{i:Nat}{d:D}(h:(roB k fr ρ)[i]?=some (some d)): ∃ j r,i=k + j/\fr[j]?=some r/\ρ[r]?=some (some d):=by
 unfold roB at h
 by_cases hi:i < k
 ·rw[List.getElem?_append_left (by rw[List.length_replicate];exact hi)] at h
  have:=List.mem_of_getElem? h
  rw[List.mem_replicate] at this;cases this.2
 ·rw[List.getElem?_append_right (by rw[List.length_replicate];omega),List.length_replicate,List.getElem?_map] at h
  cases e:fr[i - k]? with
  |none=>rw[e] at h;cases h
  |some r=>
   rw[e] at h;exact ⟨i - k,r,by omega,e,join_some (Option.some.inj h)⟩
noncomputable def stB (k:Nat)(fr:List Nat)(σ:L2.St):L2.St:=List.replicate k none ++ fr.map fun i=>(σ[i]?).join
theorem Zhx {σ:L2.St}{i:Nat}{d:V}(h:(stB k fr σ)[i]?=some (some d)): ∃ j r,i=k + j/\fr[j]?=some r/\σ[r]?=some (some d):=by
 unfold stB at h
 by_cases hi:i < k
 ·rw[List.getElem?_append_left (by rw[List.length_replicate];exact hi)] at h
  have:=List.mem_of_getElem? h
  rw[List.mem_replicate] at this;cases this.2
 ·rw[List.getElem?_append_right (by rw[List.length_replicate];omega),List.length_replicate,List.getElem?_map] at h
  cases e:fr[i - k]? with
  |none=>rw[e] at h;cases h
  |some r=>
   rw[e] at h;exact ⟨i - k,r,by omega,e,join_some (Option.some.inj h)⟩
theorem SR.blk {K:PySem.W.Frag}{H:Hp}{α:List Addr}{σ:L2.St}{ρ:Ro}(h:SR K H α σ ρ):SR K H α (stB k fr σ) (roB k fr ρ):=by
 refine ⟨by simp[stB,roB],fun i d e=> ?_⟩
 obtain ⟨j,r,rfl,e1,e2⟩:=Zhw e
 obtain ⟨v,e3,e4⟩:=h.2 r d e2
 refine ⟨v,?_,e4⟩
 unfold stB;rw[List.getElem?_append_right (by rw[List.length_replicate];omega),List.length_replicate,List.getElem?_map,Nat.add_sub_cancel_left,e1]
 show some (σ[r]?).join=_
 rw[e3];rfl
theorem ZeR (B:Blk X scope cl N k fr){pins:List (Addr × Obj)}{σ:L2.St}{H:Hp}{s:Shared}{fp:List Addr}{h1:Heap}{tk:Nat}{m:Str->Option Value}(I:Inv X pins σ H s)(hf: ∀ b∈fp,ZcI X pins H b)(hlt: ∀ b∈fp,b < s.heap.objs.size)
  (hn:h1.Ns s.heap.objs.size m) (hk: ∀ b o,s.heap.get? b=some o->h1.get? b=some o):Inv (blk X scope cl N s.heap.objs.size fp s H) [] (stB k fr σ) H { s with heap:=h1,toks:=tk } where
 ok:=ZeQ B I hf hlt
 os:=rfl
 bare:=I.bare
 base:=Un.kept hk
 loc:=by
  refine ⟨m,hn,fun i x v e1 e2 e3=> ?_⟩
  obtain ⟨j,r,rfl,g1,g2⟩:=Zhx e2
  obtain ⟨y,k1,k2,k3,k4,k5⟩:=B.at_ j r g1
  have exy:x=y:=Option.some.inj (e1.symm.trans k1)
  subst exy;obtain ⟨m0,hm0,hl⟩:=I.loc
  obtain ⟨u,ru,lk⟩:=hl r x v k2 g2 (.inr (.inl k3))
  refine ⟨u,ru,?_⟩
  rcases lk with ⟨z,_⟩ | ⟨_,c,z1,⟨o,z2,z3⟩⟩
  ·rw[k3] at z;cases z
  ·exact .inr ⟨k4,c,k5.trans z1,⟨o,hk _ _ z2,z3⟩⟩
 cell:=fun x c h=>by
  obtain ⟨v,o,e1,e2⟩:=I.cell x c (B.sub x c h)
  exact ⟨v,o,hk _ _ e1,e2⟩
 free:=I.fresh
 freeC:=fun x c h=>I.freeC x c (B.sub x c h)
 pin:=fun p hp=>(by simp[blk] at hp)
 hok:=I.hok.kept hk
 len:=by
  show (stB k fr σ).length=N.length
  rw[B.len]
  simp[stB]
 qd:=I.qd
 fx:= .free rfl
theorem Zdr {pins:List (Addr × Obj)}{σ σ5:L2.St}{H3 H5:Hp}{s3 s6:Shared}{fp:List Addr}(B:Blk X scope cl N k fr)(I3:Inv X pins σ H3 s3)(f3: ∀ b∈fp,ZcI X pins H3 b)(I6:Inv (blk X scope cl N s3.heap.objs.size fp s3 H3) [] σ5 H5 s6):Inv X pins σ H5 s6/\ ∀ (σ':L2.St) (s8:Shared) (h':Heap),Inv X pins σ' H5 s8->(∀ b o,b≠s3.heap.objs.size->s8.heap.get? b=some o->h'.get? b=some o)->Inv X pins σ' H5 { s8 with heap:=h',toks:=s8.toks }:=by
 refine ⟨I3.call' (s':=s6) (ch:=fp) I6.os I6.base I6.hok I6.bare fun b hb=> ?_,fun σ' s8 h' I8 sb=> ?_⟩
 ·obtain ⟨_,z1,z2,z3,z4,z5⟩:=f3 b hb
  exact ⟨z3,z1,z4,z5⟩
 ·exact I8.turned (it:=s3.heap.objs.size) sb I6.free (Nat.ne_of_gt I3.lt) (.inr I3.sz)
   (fun x c h z=>by
    obtain ⟨v,o,e,_⟩:=I3.cell x c h
    exact absurd (Heap.lt_size e) (by rw[z];exact Nat.lt_irrefl _)) (fun p hp z=>by
    have:=(I3.pin p hp).1
    exact absurd (Heap.lt_size this) (by rw[z];exact Nat.lt_irrefl _))
noncomputable def CmI (Y:Cx)(fp:List Addr)(tn:Nat->Heap->Prop)(H3:Hp)(α3:List Addr)(g:Nat->Nat->Ro->Sto->Prop)(n:Nat)(s':Shared):Prop:=
 ∃ i σ' ρ' H' α' M',Inv Y [] σ' H' s'/\tn i s'.heap/\(∀ b∈fp,H' b=none)/\SR Y.K H' α' σ' ρ'/\HR Y.K H' α' M'/\Ext Y.K H3 H' α3 α'/\g n i ρ' M'
theorem Zds {Y:Cx}{fp α3:List Addr}{it D:Addr}{tn:Nat->Heap->Prop}{J:It}{tg iter elt:Expr}{ifs:List Expr}{scope:Scope}{pos:Pos}{gt:Tg}{c:Tv}{f:Ev}{src:Src}{H3:Hp}{σ0:L2.St}{ρ0:Ro}{M3 M9:Sto}{u9:Unit}{n0 fuel:Nat}{s4:Shared}{R:Result->Shared->Prop}
  (T:Turn Y.prog Y.w Y.K Y.A tg J fp it tn) (hxe: ∀ x y,Y.xe x y->False) (fp5: ∀ {H':Hp},(∀ b∈fp,H' b=none)-> ∀ b∈fp,ZcI Y [] H' b) (hg:DG Y tg gt) (tst:DC Y ifs c) (he:DE Y E0 elt f)
  (sc:Zjr Y.K H3 α3 J src) (aD:RefK H3 α3 0 n0 D) (I4:Inv Y [] σ0 H3 s4) (st4:tn 0 s4.heap) (fr4: ∀ b∈fp,H3 b=none) (sr:SR Y.K H3 α3 σ0 ρ0) (h3:HR Y.K H3 α3 M3) (er:ZbB src gt c f n0 fuel 0 ρ0 M3= .ok u9 M9)
  (post: ∀ σ5 H5 α5 s6,Inv Y [] σ5 H5 s6->Ext Y.K H3 H5 α3 α5->HR Y.K H5 α5 M9->R (.ok .next) s6):
  codeAny (model Y.prog Y.w) Y.A (.compLoop (.ListComp elt [⟨tg,iter,ifs,0⟩] scope pos) 0 (.ref it) (.ref D) Y.env) R s4:=by
 obtain ⟨tt,pt,qt⟩:=hg
 obtain ⟨te,pe,qe⟩:=he
 refine Zct (CmI Y fp tn H3 α3 fun n i ρ' M'=>ZbB src gt c f n0 n i ρ' M'= .ok u9 M9) ?_ fuel ⟨0,σ0,ρ0,H3,α3,M3,I4,st4,fr4,sr,h3,Ext.refl,er⟩
 rintro n s5 ⟨i,σ5,ρ5,H5,α5,M5,I5,st5,fr5,sr5,hr5,ex5,en⟩
 have src5:=sc i H5 α5 M5 ex5 hr5
 rw[ZbB] at en;cases ex:nxt src i M5 with
 |none=>rw[ex] at en;cases en
 |some od=>
  rw[ex] at src5 en;cases od with
  |none=>
   cases en
   have fin:=T.done Y rfl rfl rfl rfl i [] s5 σ5 H5 (fun _ _=>False) I5 (fp5 fr5) st5 src5
   refine thn fin fun r s6 w6=> ?_
   obtain ⟨hr6,I6⟩:=w6
   subst hr6;exact post σ5 H5 α5 s6 I6 ex5 hr5
  |some d=>
   obtain ⟨go,yl⟩:=src5
   cases n with
   |zero=>cases en
   |succ n=>
    simp only at en
    have itm:=T.item Y rfl rfl rfl rfl i [] s5 σ5 H5 (fun _ _=>False) I5 (fp5 fr5) st5 go
    refine thn itm fun r s6 ⟨u,hr6,w6⟩=> ?_
    subst hr6;refine thn w6 fun _ s7 ⟨x,H7,I7,r7,y7,st7,fr7⟩=> ?_
    obtain ⟨ex7,hr7,rp7⟩:=yl x H7 y7
    have sr5:=sr5.mono ex7
    have hr5:=hr7
    have ex5:=ex5.trans ex7
    have I7':=I7.pinned (fp5 fr7) (T.obj _ _ st7)
    cases eg:gt d ρ5 with
    |none=>rw[eg] at en;cases en
    |some ρ6=>
     rw[eg] at en
     simp only at en
     have asg:=pt _ s7 σ5 H7 x u _ I7' r7 (qt x d σ5 ρ5 H7 α5 ρ6 (fun σ' H'=>H'=H7/\SR Y.K H7 α5 σ' ρ6) sr5 rp7 eg fun σ' s'=>⟨rfl,s'⟩)
     refine wpAny_mono asg (fun _ s8 ⟨σ8,H8,I8,z8,sr8⟩=> ?_) (fun x y z=>hxe x y z)
     subst z8;have again: ∀ {σ9:L2.St} {H9:Hp} {s9:Shared},Inv Y ([] ++ ZbD fp s7.heap) σ9 H9 s9->Inv Y [] σ9 H9 s9/\tn (i + 1) s9.heap/\ ∀ b∈fp,H9 b=none:=fun {σ9 H9 s9} I9=>by
      refine ⟨I9.unpinned,T.keep _ _ _ st7 fun b hb o e=>(I9.pin (b,o) (List.mem_append_right _ (List.mem_append_right _ (Zas hb e)))).1,fun b hb=> ?_⟩
      obtain ⟨o,e,_⟩:=T.obj _ _ st7 b hb
      exact (I9.pin (b,o) (List.mem_append_right _ (List.mem_append_right _ (Zas hb e)))).2.1
     have after: ∀ (kk:Bool) (M8:Sto) (H9:Hp) (α9:List Addr) (s9:Shared),Inv Y ([] ++ ZbD fp s7.heap) σ8 H9 s9->Ext Y.K H8 H9 α5 α9->HR Y.K H9 α9 M8->c ρ6 M5= .ok kk M8->
       (if kk=true then wpAny (model Y.prog Y.w) Y.A (eval elt Y.env) (fun x s₄=>wpAny (model Y.prog Y.w) Y.A (call (.builtin "list.append") [.ref D,x]) (fun _ s₅=> ∃ m,m < n + 1/\CmI Y fp tn H3 α3 (fun n i ρ' M'=>ZbB src gt c f n0 n i ρ' M'= .ok u9 M9) m s₅) (fun _ _=>False) s₄) (fun _ _=>False) s9
        else ∃ m,m < n + 1/\CmI Y fp tn H3 α3 (fun n i ρ' M'=>ZbB src gt c f n0 n i ρ' M'= .ok u9 M9) m s9):=by
      intro kk M8 H9 α9 s9 I9 ex9 hr9 ec;rw[ec] at en;cases kk with
      |false=>
       obtain ⟨a1,a2,a3⟩:=again I9
       exact Zhk ⟨n,Nat.lt_succ_self n,i + 1,σ8,ρ6,H9,α9,M8,a1,a2,a3,sr8.mono ex9,hr9,ex5.trans ex9,en⟩
      |true=>
       simp only at en
       refine Zhl ?_
       cases ef:f ρ6 M8 with
       |exc x9 M10=>rw[ef] at en;cases en
       |bad=>rw[ef] at en;cases en
       |ok y M10=>
        rw[ef] at en
        simp only at en
        have ev:=pe _ s9 σ8 H9 (fun v H'=> ∃ α',Ext Y.K H9 H' α9 α'/\HR Y.K H' α' M10/\Rep Y.K H' α' v y) I9 (qe σ8 ρ6 H9 α9 M8 _ (sr8.mono ex9) hr9 (by
         rw[ef];exact fun v H' α' e h r=>⟨α',e,h,r⟩))
        refine wpAny_mono ev (fun yv s10 ⟨v,H10,I10,r10,α10,ex10,hr10,rp10⟩=> ?_) (fun x y z=>hxe x y z)
        cases em:M10[n0]? with
        |none=>rw[em] at en;cases en
        |some so=>
         cases so with
         |lst ds=>
          rw[em] at en
          simp only at en
          by_cases cz:ds.length < 10000000
          ·rw[if_pos cz] at en
           have aD10:=ex10.get (ex9.get (ex5.get aD))
           obtain ⟨xs,g1,g2⟩:=hr10.at aD10 em
           have ap:=Zcf (X:=Y) _ s10 σ8 H10 (.ref D) [v] (.ref D) [yv] (fun _ H'=>H'=upd H10 D (.lst (xs ++ [v]))) I10 rfl (.cons r10 .nil) ⟨D,xs,v,rfl,rfl,g1,by rw[g2.length];exact Nat.lt_of_lt_of_le cz (by decide),rfl⟩
           refine wpAny_mono ap (fun _ s11 ⟨v11,H11,I11,_,z11⟩=> ?_) (fun x y z=>hxe x y z)
           subst z11;obtain ⟨a1,a2,a3⟩:=again I11
           have exw:Ext Y.K H10 (upd H10 D (.lst (xs ++ [v]))) α10 α10:=Ext.wr g1
           exact ⟨n,Nat.lt_succ_self n,i + 1,σ8,ρ6,_,α10,_,a1,a2,a3,((sr8.mono ex9).mono ex10).mono exw,hr10.wr aD10 g1 (g2.append (.cons rp10 .nil)),((ex5.trans ex9).trans ex10).trans exw,en⟩
          ·rw[if_neg cz] at en
           cases en
     rcases tst with ⟨rfl,ec⟩ | ⟨e,rfl,tt',ptt,qtt⟩
     ·refine wpAny_tests_nil ?_
      exact after true M5 H8 α5 s8 I8 Ext.refl hr5 (by rw[ec])
     ·refine wpAny_tests_one ?_
      cases ec:c ρ6 M5 with
      |exc x9 M10=>rw[ec] at en;cases en
      |bad=>rw[ec] at en;cases en
      |ok kk M8=>
       have tv':=ptt _ s8 σ8 H8 (fun b H'=>b=kk/\ ∃ α',Ext Y.K H8 H' α5 α'/\HR Y.K H' α' M8) I8 (qtt σ8 ρ6 H8 α5 M5 _ sr8 hr5 (by
        rw[ec];exact fun v H' α' e h r=>⟨r,α',e,h⟩))
       refine wpAny_mono tv' (fun b s9 ⟨H9,I9,zb,α9,ex9,hr9⟩=> ?_) (fun x y z=>hxe x y z)
       subst zb;exact after b M8 H9 α9 s9 I9 ex9 hr9 ec
theorem Z8 (B:Blk X scope cl N k fr)(hi:DI X ξ tg iter fi)(hg: ∀ C fp s H,DG (blk X scope cl N C fp s H) tg gt)(ht: ∀ C fp s H,DC (blk X scope cl N C fp s H) ifs c)(he: ∀ C fp s H,DE (blk X scope cl N C fp s H) E0 elt f)
  (hs: ∀ x,foldedSetIterable iter X.env x=pure x:=by intro _;rfl):DE X ξ (.ListComp elt [⟨tg,iter,ifs,0⟩] scope pos) (Z3 fi k fr gt c f):=by
 obtain ⟨wi,pi,qi⟩:=hi
 refine ⟨fun σ H Q=> ∃ ρ α M,SR X.K H α σ ρ/\HR X.K H α M/\OP X.K H α ξ Q (Z3 fi k fr gt c f ρ M),?_,fun σ ρ H α M Q s h q=>⟨ρ,α,M,s,h,q⟩⟩
 rintro pins s σ H Q I ⟨ρ,α,M,sr,hr,op⟩
 rw[eval_ListComp];refine wpAny_comprehension_free (use:=none) rfl hs B.clos B.kind B.names ?_
 refine thn (pi pins s σ H (fun J H2=> ∃ α2 M2 src,Ext X.K H H2 α α2/\HR X.K H2 α2 M2/\Zjr X.K H2 α2 J src/\OP X.K H2 α2 ξ Q (match ZbB src gt c f M2.length (cnt src M2) 0 (roB k fr ρ) (M2 ++ [.lst []]) with | .ok _ M2'=> .ok (.ref M2.length) M2' | _=> .bad)) I
  (qi σ ρ H α M _ sr hr (OG.seq op fun src M1 J H1 α1 e1 h1 r1 q1=>⟨α1,M1,src,e1,h1,r1,q1⟩))) fun v s1 w1=>thn w1 fun itv s2 w2=> ?_
 obtain ⟨it,fp,tn,J,H2,rfl,I2,T,st2,f2,α2,M2,src,e2,h2,sc,op2⟩:=w2
 have srI:=sr.mono e2
 refine wpAny_newObj_type ?_
 have I3:Inv X pins σ (upd H2 s2.heap.objs.size (.lst [])) { s2 with heap:=s2.heap.push { cls:= .type "list",data:= .seq ([]:List Value).toArray } }:=I2.lnew (its:=[]) (t':=s2.toks) .nil (Nat.zero_le _)
 have fD:H2 s2.heap.objs.size=none:=I2.fresh
 generalize hD:s2.heap.objs.size=D at I3 fD;generalize hs3:({ s2 with heap:=s2.heap.push { cls:= .type "list",data:= .seq ([]:List Value).toArray } }:Shared)=s3 at I3
 generalize hH3:upd H2 D (.lst [])=H3 at I3;have h3:HR X.K H3 (α2 ++ [D]) (M2 ++ [.lst []]):=by rw[<- hH3];exact h2.new fD .nil
 have e3:Ext X.K H2 H3 α2 (α2 ++ [D]):=by rw[<- hH3];exact Ext.new fD
 have aD:RefK H3 (α2 ++ [D]) 0 M2.length D:=⟨h2.last D,by first | exact Kn.lst Zr | (rw[<- hH3];exact Kn.lst Zr)⟩
 have lt2: ∀ b∈fp,b < s2.heap.objs.size:=fun b hb=>let ⟨o,e,_⟩:=T.obj _ _ st2 b hb;Heap.lt_size e
 have keep3: ∀ b o,s2.heap.get? b=some o->s3.heap.get? b=some o:=fun b o e=>by rw[<- hs3];exact Heap.get?_push_of_some _ e
 have f3: ∀ b∈fp,ZcI X pins H3 b:=fun b hb=>⟨by rw[<- hH3,Zu (by rw[<- hD];exact Nat.ne_of_lt (lt2 b hb))];exact (f2 b hb).1,(f2 b hb).2⟩
 have lt3: ∀ b∈fp,b < s3.heap.objs.size:=fun b hb=>let ⟨o,e,_⟩:=T.obj _ _ st2 b hb;Heap.lt_size (keep3 b o e)
 have st3:tn 0 s3.heap:=T.keep _ _ _ st2 fun b _ o e=>keep3 b o e
 refine wpAny_newFunctionEnv B.cell (by intro y hy;simp at hy) (fun h₁ hns₁ hsb₁=> ?_) B.kind
 have keep4: ∀ b o,s3.heap.get? b=some o->h₁.get? b=some o:=fun b o e=>hsb₁.extBut b o (Nat.ne_of_lt (Heap.lt_size e)) (Heap.get?_push_of_some _ e)
 have I4:=ZeR (tk:=s3.toks + ([]:List (Str × Value)).length) B I3 f3 lt3 hns₁ keep4
 have st4:tn 0 h₁:=T.keep _ _ _ st3 fun b _ o e=>keep4 b o e
 have fp5: ∀ {H':Hp},(∀ b∈fp,H' b=none)-> ∀ b∈fp,ZcI (blk X scope cl N s3.heap.objs.size fp s3 H3) [] H' b:=fun hn b hb=>⟨hn b hb,Nat.ne_of_lt (lt3 b hb),(ZeQ B I3 f3 lt3).exfs b hb,.inl hb,fun x c h=>(f3 b hb).2.2.2.2.1 x c (B.sub x c h),fun p hp=>(by simp[blk] at hp)⟩
 cases er:ZbB src gt c f M2.length (cnt src M2) 0 (roB k fr ρ) (M2 ++ [.lst []]) with
 |exc x M9=>rw[er] at op2;exact op2.elim
 |bad=>rw[er] at op2;exact op2.elim
 |ok u9 M9=>
  rw[er] at op2;have loop:codeAny (model X.prog X.w) X.A (.compLoop (.ListComp elt [⟨tg,iter,ifs,0⟩] scope pos) 0 (.ref it) (.ref D) (compEnvC scope cl s3.heap.objs.size X.env)) (compPost (model X.prog X.w) X.A X.xe none (EP X pins σ Q) (.ref D) s3.heap.objs.size) { s3 with heap:=h₁,toks:=s3.toks + ([]:List (Str × Value)).length }:=by
   refine Zds (Y:=blk X scope cl N s3.heap.objs.size fp s3 H3) T (fun _ _ z=>z) fp5 (hg _ fp s3 H3) (ht _ fp s3 H3) (he _ fp s3 H3) (fun i H' α' M' ex hr=>sc i H' α' M' (e3.trans ex) hr) aD I4 st4 (fun b hb=>(f3 b hb).1) ((srI.blk).mono e3) h3 er ?_
   intro σ5 H5 α5 s6 I6 ex5 hr5;obtain ⟨I7,I8⟩:=Zdr B I3 f3 I6
   obtain ⟨m6,hm6,_⟩:=id I6.loc
   exact ⟨m6,hm6,fun h' sb=>⟨.ref D,H5,I8 σ s6 h' I7 (fun b o hb e=>(sb.2 b hb).trans e),rfl,op2 _ H5 α5 (e3.trans ex5) hr5 (.ref (ex5.get aD))⟩⟩
  exact codeAny_compStart_list loop (T.self X.A 0 _ _ _ st4 loop)
end
end DL
end
section
namespace DL
open PySem PySem.Spec PyProof.Rows L2
theorem Zjs {names:List (Str × NameKind)}(h:names.all (fun y=>y.2 != .cell && y.2 != .free)=true)(x:Str): ¬ (names.lookup x=some .cell\/names.lookup x=some .free):=by
 induction names with
 |nil=>intro z;rcases z with z | z<;>simp at z
 |cons y r ih=>
  rw[List.all_cons,Bool.and_eq_true] at h;obtain ⟨n,kd⟩:=y
  rw[List.lookup_cons];cases e:x == n with
  |true=>
   simp only
   intro z;have h1:=h.1
   rcases z with z | z<;>(cases z;simp at h1)
  |false=>exact ih h.2
theorem Zf3 {names:List (Str × NameKind)}{env:Env}(h:names.all (fun y=>y.2 != .cell && y.2 != .free)=true):
  (names.map fun (n,k)=>if (k == NameKind.free && env.scope.kind == .function && env.kindOf n == some .cell) then (n,NameKind.cell) else (n,k))=names:=by
 induction names with
 |nil=>rfl
 |cons y r ih=>
  rw[List.all_cons,Bool.and_eq_true] at h;obtain ⟨n,kd⟩:=y
  have hk:(kd == NameKind.free)=false:=by
   have h1:=h.1
   rw[Bool.and_eq_true] at h1;have h2:=h1.2
   cases kd<;>first | rfl | simp at h2
  rw[List.map_cons,ih h.2]
  simp[hk]
theorem ZfC {X:Cx}{scope:Scope}{N:List Str}{k:Nat}(h:scope.names.all (fun y=>y.2 != .cell && y.2 != .free)=true)(hk:scope.kind= .function)(hn: ∀ y∈scope.names,y.2= .local->scope.names.lookup y.1=some .local)(hl:N.length=k):Blk X scope [] N k [] where
 clos:=closureFor_none fun y hy z=>by
  have:=List.all_eq_true.mp h y hy
  rw[z] at this
  simp at this
 kind:=hk
 cell:=fun y hy z=>by
  have:=List.all_eq_true.mp h y hy
  rw[z] at this
  simp at this
 names:=hn
 sub:=fun x c z=>(by cases z)
 has:=fun x z=>by
  have e:(relabel scope X.env).names=scope.names:=Zf3 h
  rw[e] at z;exact absurd z (Zjs h x)
 len:=hl
 at_:=fun j i z=>(by simp at z)
theorem ZcU {env:Env}: ∀ (names:List (Str × NameKind)) (acc:List (Str × Addr)),(∀ y∈names,y.2= .free-> ∃ c,env.cells.lookup y.1=some c)->
  (forIn names acc fun (x:Str × NameKind) (cs:List (Str × Addr))=>if x.2 == NameKind.free then (do let a <- cellOf env x.1;pure (ForInStep.yield ((x.1,a) :: cs))) else (pure (ForInStep.yield cs):Sem _))=
   (pure (((names.filter fun y=>y.2 == .free).map fun y=>(y.1,(env.cells.lookup y.1).getD 0)).reverse ++ acc):Sem (List (Str × Addr)))
 | [],acc,_=>by simp
 | (n,kd) :: r,acc,h=>by
  rw[List.forIn_cons]
  by_cases hk:(kd == NameKind.free)=true
  ·obtain ⟨c,hc⟩:=h (n,kd) List.mem_cons_self (by simpa using hk)
   have e1:cellOf env n=pure c:=by unfold cellOf;rw[hc]
   have ih:=ZcU r ((n,c) :: acc) fun y hy=>h y (List.mem_cons_of_mem _ hy)
   simp only[hk,if_true,e1,pure_bind];refine Eq.trans ih ?_
   simp[List.filter_cons,hk,hc]
  ·have ih:=ZcU r acc fun y hy=>h y (List.mem_cons_of_mem _ hy)
   simp only[hk,if_false,pure_bind];refine Eq.trans ih ?_
   simp[List.filter_cons,hk]
noncomputable def clF (scope:Scope)(env:Env):List (Str × Addr):=((scope.names.filter fun y=>y.2 == .free).map fun y=>(y.1,(env.cells.lookup y.1).getD 0)).reverse
theorem ZbH {env:Env}: ∀ {l:List (Str × NameKind)} {x:Str} {c:Addr},(l.map fun y=>(y.1,(env.cells.lookup y.1).getD 0)).lookup x=some c->c=(env.cells.lookup x).getD 0/\ ∃ y∈l,y.1=x
 | [],x,c,h=>by simp at h
 |y :: r,x,c,h=>by
  rw[List.map_cons,List.lookup_cons] at h;cases e:x == y.1 with
  |true=>
   rw[e] at h;have ex:x=y.1:=by simpa using e
   cases h
   exact ⟨by rw[ex],y,List.mem_cons_self,ex.symm⟩
  |false=>
   rw[e] at h;obtain ⟨h1,z,h2,h3⟩:=ZbH h
   exact ⟨h1,z,List.mem_cons_of_mem _ h2,h3⟩
theorem ZaL {α:Type}: ∀ {l:List (Str × α)} {x:Str},(∃ y∈l,y.1=x)-> ∃ c,l.lookup x=some c
 | [],x,h=>by obtain ⟨y,h1,_⟩:=h;simp at h1
 |z :: r,x,h=>by
  rw[List.lookup_cons];cases e:x == z.1 with
  |true=>exact ⟨_,rfl⟩
  |false=>
   obtain ⟨y,h1,h2⟩:=h
   rcases List.mem_cons.mp h1 with q | q
   ·subst q;rw[h2] at e;simp at e
   ·exact ZaL ⟨y,q,h2⟩
theorem ZN {env:Env}(nc: ∀ n,env.scope.names.lookup n=env.kindOf n): ∀ {names:List (Str × NameKind)} {x:Str} {kd:NameKind},(names.map fun (n,k)=>if (k == NameKind.free && env.scope.kind == .function && env.kindOf n == some .cell) then (n,NameKind.cell) else (n,k)).lookup x=some kd->
  names.lookup x=some kd\/(names.lookup x=some .free/\kd= .cell)
 | [],x,kd,h=>by simp at h
 | (n,q) :: r,x,kd,h=>by
  rw[List.map_cons,List.lookup_cons] at h;rw[List.lookup_cons];dsimp only at h ⊢
  by_cases c:(q == NameKind.free && env.scope.kind == .function && env.kindOf n == some .cell)=true
  ·rw[if_pos c] at h
   dsimp only at h;cases e:x == n with
   |true=>
    rw[e] at h;cases h
    simp only[Bool.and_eq_true,beq_iff_eq] at c;exact .inr ⟨by rw[c.1.1],rfl⟩
   |false=>rw[e] at h;exact ZN nc h
  ·rw[if_neg c] at h
   dsimp only at h;cases e:x == n with
   |true=>rw[e] at h;exact .inl h
   |false=>rw[e] at h;exact ZN nc h
theorem Zam {env:Env}: ∀ {names:List (Str × NameKind)} {x:Str},names.lookup x=some .free->(∃ kd,(kd=NameKind.cell\/kd=NameKind.free)/\(names.map fun (n,k)=>if (k == NameKind.free && env.scope.kind == .function && env.kindOf n == some .cell) then (n,NameKind.cell) else (n,k)).lookup x=some kd)
 | [],x,h=>by simp at h
 | (n,q) :: r,x,h=>by
  rw[List.lookup_cons] at h;rw[List.map_cons,List.lookup_cons]
  by_cases c:(q == NameKind.free && env.scope.kind == .function && env.kindOf n == some .cell)=true
  ·dsimp only
   rw[if_pos c];cases e:x == n with
   |true=>exact ⟨_,.inl rfl,rfl⟩
   |false=>rw[e] at h;exact Zam h
  ·dsimp only
   rw[if_neg c];cases e:x == n with
   |true=>rw[e] at h;exact ⟨q,.inr (Option.some.inj h),rfl⟩
   |false=>rw[e] at h;exact Zam h
noncomputable def ZnK (XN N:List Str)(dn sn:List (Str × NameKind))(k:Nat)(fr:List Nat):Bool:=
 (sn.all fun y=>y.2 != .cell && (y.2 != .free || dn.lookup y.1 == some .cell) && (y.2 != .local || sn.lookup y.1 == some .local)) && N.length == k + fr.length &&
  (List.range fr.length).all fun j=>match fr[j]? with
   |some i=>(match N[k + j]?,XN[i]? with | some x,some y=>x == y && dn.lookup x == some .cell && sn.lookup x == some .free | _,_=>false)
   |none=>false
theorem Zo6 {X:Cx}{scope:Scope}{N:List Str}{k n:Nat}{fr:List Nat}{XN:List Str}{dn:List (Str × NameKind)}(hN:X.N=XN)(hd:X.env.scope.names=dn)(hc:X.env.cells=cellsFrom n dn [])(hk:scope.kind= .function)(h:ZnK XN N dn scope.names k fr=true):Blk X scope (clF scope X.env) N k fr:=by
 unfold ZnK at h;simp only[Bool.and_eq_true,List.all_eq_true,bne_iff_ne,ne_eq,Bool.or_eq_true,beq_iff_eq] at h;obtain ⟨⟨h1,h2⟩,h3⟩:=h
 have kind: ∀ x,X.env.kindOf x=dn.lookup x:=fun x=>by rw[<- hd];rfl
 have cel: ∀ x,dn.lookup x=some .cell-> ∃ c,X.env.cells.lookup x=some c:=fun x e=>by
  have:=PySem.W.cellsFrom_some dn n [] (.inl e)
  rw[hc];exact Option.isSome_iff_exists.mp this
 have frc: ∀ y∈scope.names,y.2= .free-> ∃ c,X.env.cells.lookup y.1=some c:=fun y hy e=>by
  rcases (h1 y hy).1.2 with z | z
  ·exact absurd e z
  ·exact cel _ z
 have sub: ∀ x c,(clF scope X.env).lookup x=some c->X.env.cells.lookup x=some c:=fun x c e=>by
  unfold clF at e;rw[<- List.map_reverse] at e;obtain ⟨e1,y,e2,e3⟩:=ZbH e
  have e4:=List.mem_filter.mp (List.mem_reverse.mp e2)
  obtain ⟨c',g⟩:=frc y e4.1 (by simpa using e4.2)
  rw[e3] at g;rw[g] at e1 ⊢;rw[e1];rfl
 have has: ∀ x,scope.names.lookup x=some .free-> ∃ c,(clF scope X.env).lookup x=some c:=fun x e=>by
  refine ZaL ?_
  have m:=PySem.mem_of_lookup e
  exact ⟨(x,(X.env.cells.lookup x).getD 0),List.mem_reverse.mpr (List.mem_map.mpr ⟨(x,.free),List.mem_filter.mpr ⟨m,by simp⟩,rfl⟩),rfl⟩
 refine ⟨?_,hk,fun y hy=>(h1 y hy).1.1,fun y hy e=> ?_,sub,fun x z=> ?_,h2,fun j i e=> ?_⟩
 ·have:=ZcU (env:=X.env) scope.names [] frc
  rw[List.append_nil] at this;unfold closureFor;exact (congrArg (fun (m:Sem (List (Str × Addr)))=>m >>= fun cs=>(pure cs:Sem (List (Str × Addr)))) this).trans (pure_bind _ _)
 ·rcases (h1 y hy).2 with z | z
  ·exact absurd e z
  ·exact z
 ·have nc: ∀ m,X.env.scope.names.lookup m=X.env.kindOf m:=fun m=>rfl
  refine has x ?_
  rcases z with z | z
  ·rcases ZN nc z with q | q
   ·exact absurd rfl (h1 _ (PySem.mem_of_lookup q)).1.1
   ·exact q.1
  ·rcases ZN nc z with q | q
   ·exact q
   ·cases q.2
 ·have hj:j < fr.length:=(List.getElem?_eq_some_iff.mp e).1
  have q:=h3 j (List.mem_range.mpr hj)
  rw[e] at q;dsimp only at q;cases e1:N[k + j]? with
  |none=>rw[e1] at q;cases q
  |some x=>
   cases e2:XN[i]? with
   |none=>rw[e1,e2] at q;cases q
   |some y=>
    rw[e1,e2] at q;simp only[Bool.and_eq_true,beq_iff_eq] at q;obtain ⟨⟨q1,q2⟩,q3⟩:=q
    subst q1;obtain ⟨kd,r1,r2⟩:=Zam (env:=X.env) q3
    obtain ⟨c,r3⟩:=has x q3
    refine ⟨x,rfl,by rw[hN];exact e2,by rw[kind];exact q2,?_,r3.trans (sub x c r3).symm⟩
    rcases r1 with r1 | r1
    ·exact .inl (r1 ▸ r2)
    ·exact .inr (r1 ▸ r2)
section
variable {X:Cx}{ξ:XK}
noncomputable def ZnL (X:Cx):List V->Hp->VK->Prop:=fun vs H Q=> ∃ (p:Addr) (bs:List Bool),vs=[.ref p]/\SqL X.K H p (bs.map V.bl)/\Q (.bl (bs.all id)) H
theorem Zcu: ∀ {bs:List Bool} {us:List Value} {i:Nat} {u:Value},ZB (bs.map V.bl) us->us[i]?=some u-> ∃ b,bs[i]?=some b/\u= .bool b
 | [],us,i,u,h,e=>by cases h;simp at e
 |b :: r,us,i,u,h,e=>by
  cases h with
  |cons h1 h2=>
   cases i with
   |zero=>simp at e;subst e;exact ⟨b,rfl,h1⟩
   |succ i=>simp at e;obtain ⟨b',g1,g2⟩:=Zcu h2 e;exact ⟨b',by simpa using g1,g2⟩
theorem ZdJ (bs:List Bool):((List.range bs.length).all fun i=>(bs[i]?).getD true)=bs.all id:=by
 rw[Bool.eq_iff_iff,List.all_eq_true,List.all_eq_true]
 constructor
 ·intro h b hb
  obtain ⟨i,hi,e⟩:=List.getElem_of_mem hb
  have:=h i (List.mem_range.mpr hi)
  simp only[List.getElem?_eq_getElem hi,Option.getD_some,e] at this
  exact this
 ·intro h i hi
  have hi':=List.mem_range.mp hi
  simp only[List.getElem?_eq_getElem hi',Option.getD_some]
  exact h _ (List.getElem_mem hi')
theorem ZbS (hc:X.calm=true):Zau X (.builtin "all") (ZnL X):=by
 intro pins s σ H vs us Q I rs ⟨p,bs,e,hl,q⟩;subst e;obtain ⟨u,rfl,ru⟩:=ZaS rs
 cases ru
 obtain ⟨its,hv,hp,hz⟩:=I.list hl
 have hlt:p < s.heap.objs.size:=by obtain ⟨_,e,_⟩:=hp.isList;exact Heap.lt_size e
 refine call_all_walk (wpAny_pyIter_list hp.isList ?_)
 refine ⟨s.heap.objs.size,[s.heap.objs.size,p],[s.heap.objs.size],its.toArray.size,_,_,fun i=>(bs[i]?).getD true,rfl,Walks.list (A:=X.A.in1) (I.ok.hd hc) _ p (Nat.ne_of_lt hlt) its.toArray,
  ⟨⟨_,Heap.get?_push_size _ rfl,rfl,rfl⟩,hp.isList.push _⟩,fun i v s' Q' E' hP hQ=> ?_,fun h' tk hk=> ?_⟩
 ·obtain ⟨b,e,rfl⟩:=Zcu (i:=i) (u:=v) hv (by simpa using hP)
  simp only[e,Option.getD_some] at hQ;exact wpAny_truthy_bool hQ
 ·have e:((List.range its.toArray.size).all fun i=>(bs[i]?).getD true)=bs.all id:=by
   rw[List.size_toArray,<- hv.length,List.length_map];exact ZdJ bs
  rw[e];exact ⟨.bl (bs.all id),H,I.kept fun b o e=>hk b o (fun hm=>by rw[List.mem_singleton.mp hm] at e;exact Nat.lt_irrefl _ (Heap.lt_size e)) (Heap.get?_push_of_some _ e),rfl,q⟩
noncomputable def ZH:List D->Option (List Bool)
 | []=>some []
 | .bl b :: r=>match ZH r with | some bs=>some (b :: bs) | none=>none
 |_ :: _=>none
theorem Zcv {K:PySem.W.Frag}{H:Hp}{α:List Addr}: ∀ {vs:List V} {ds:List D} {bs:List Bool},Reps K H α vs ds->ZH ds=some bs->vs=bs.map V.bl
 |_,_,_,.nil,e=>by cases e;rfl
 |_,_,bs,.cons (d:=d) (ds:=ds) r t,e=>by
  cases r with
  |bl b=>
   cases e1:ZH ds with
   |none=>simp only[ZH,e1] at e;cases e
   |some cs=>
    simp only[ZH,e1,Option.some.injEq] at e;subst e;rw[Zcv t e1];rfl
  |_=>cases e
noncomputable def bAll:List D->Sto->Out D:=fun ds M=>match ds with
 | [.ref n]=>(match M[n]? with | some (.lst xs)=>(match ZH xs with | some bs=> .ok (.bl (bs.all id)) M | none=> .bad) | none=> .bad)
 |_=> .bad
theorem ZeS:CO X ξ (ZnL X) bAll:=by
 intro H α M vs ds Q h rs q
 match rs with
 | .nil=>exact q.elim
 | .cons r (.cons _ _)=>cases r<;>exact q.elim
 | .cons r .nil=>
  cases r with
  | @ref p n hp=>
   cases e1:M[n]? with
   |none=>simp only[bAll,e1] at q;exact q.elim
   |some so=>
    cases so with
    |lst es=>
     cases e2:ZH es with
     |none=>simp only[bAll,e1,e2] at q;exact q.elim
     |some bs=>
      simp only[bAll,e1,e2] at q;obtain ⟨xs,g1,g2⟩:=h.at hp e1
      have:=Zcv g2 e2
      subst this;exact ⟨p,bs,rfl,SqL.of g1,q _ H α Ext.refl h (.bl _)⟩
  |_=>exact q.elim
end
section
variable {prog:Program}{w:World}{A:Around}{E:Value->Shared->Prop}{s:Shared}
end
section
variable {X:Cx}{ξ:XK}{e:Expr}{f:Ev}{p2 p3 p4 pos:Pos}{j:Nat}
end
end DL
end
section
namespace DL
open PySem PySem.Spec PyProof.Rows L2
section
variable {X:Cx}{ξ:XK}
end
end DL
end
section
namespace DL
open PySem PySem.Spec PyProof.Rows L2
section
variable {M:Model}{A:Around}{E:Value->Shared->Prop}{s:Shared}
end
section
variable {X:Cx}{ξ:XK}{tg iter elt:Expr}{ifs:List Expr}{scope:Scope}{cl:List (Str × Addr)}{N:List Str}{k:Nat}{fr:List Nat}{fi:Ro->Sto->Out Src}{gt:Tg}{c:Tv}{f:Ev}{pos:Pos}
end
section
variable {X:Cx}{scope0:Scope}{cl0:List (Str × Addr)}{N0:List Str}{k0:Nat}{fr0:List Nat}{C:Addr}{fp:List Addr}{s:Shared}{H:Hp}{scope:Scope}{N:List Str}{k:Nat}{fr:List Nat}{dn:List (Str × NameKind)}
end
end DL
end
section
namespace DL
open PySem PySem.Spec PyProof.Rows L2
open PySem.W (nsIn excIn tailIn nsOkIn mroIn clsIn typeIn findIn specialIn takesIn kitOne Looks)
noncomputable abbrev bmV:List Value:=[.type "ValueError",.type "Exception",.type "BaseException",.type "object"]
noncomputable def Zf4 (K:PySem.W.Frag)(c:Str):Option Addr:=match nsIn K mainGlobals c with | some (some (.ref C))=>some C | _=>none
theorem Zdt {K:PySem.W.Frag}{c:Str}{C:Addr}(h:Zf4 K c=some C):nsIn K mainGlobals c=some (some (.ref C)):=by
 unfold Zf4 at h
 split at h
 ·rename_i C' e;cases h;exact e
 ·cases h
noncomputable def Zls (K:PySem.W.Frag)(c:Str):Bool:=match Zf4 K c with
 |some C=>excIn K C bmV "ValueError.__new__" && findIn K (.ref C) "__getattribute__" == some (some (.builtin "BaseException.__getattribute__")) && findIn K (.ref C) "__getattr__" == some none && findIn K (.ref C) "__class__" == some (some (.builtin "object.__class__")) &&
  specialIn K (.builtin "object.__class__") "__get__" == some (some (.builtin "getset_descriptor.__get__")) && takesIn K (.builtin "object.__class__") == some true && mroIn K C (.type "BaseException") == some true && mroIn K C (.type "object") == some true && (clsIn K C).isSome
 |none=>false
noncomputable def Zjt (K:PySem.W.Frag)(c:Str):Bool:=match Zf4 K c with
 |some C=>findIn K (.ref C) "__getattribute__" == some (some (.builtin "BaseException.__getattribute__")) && findIn K (.ref C) "__getattr__" == some none && findIn K (.ref C) "__class__" == some (some (.builtin "object.__class__")) &&
  specialIn K (.builtin "object.__class__") "__get__" == some (some (.builtin "getset_descriptor.__get__")) && takesIn K (.builtin "object.__class__") == some true && mroIn K C (.type "BaseException") == some true && mroIn K C (.type "object") == some true && (clsIn K C).isSome
 |none=>false
theorem Zlt {K:PySem.W.Frag}{c:Str}(h:Zjt K c=true): ∃ C,nsIn K mainGlobals c=some (some (.ref C))/\DQ.ExcC K C:=by
 unfold Zjt at h
 split at h
 ·rename_i C e
  simp only[Bool.and_eq_true,beq_iff_eq] at h;obtain ⟨⟨⟨⟨⟨⟨⟨h2,h3⟩,h4⟩,h5⟩,h6⟩,h7⟩,h8⟩,h9⟩:=h
  exact ⟨C,Zdt e,h2,h3,h4,h5,h6,h7,h8,h9⟩
 ·cases h
theorem Zhy {K:PySem.W.Frag}{c:Str}(h:Zls K c=true): ∃ C,nsIn K mainGlobals c=some (some (.ref C))/\excIn K C bmV "ValueError.__new__"=true/\DQ.ExcC K C:=by
 unfold Zls at h
 split at h
 ·rename_i C e
  simp only[Bool.and_eq_true,beq_iff_eq] at h;obtain ⟨⟨⟨⟨⟨⟨⟨⟨h1,h2⟩,h3⟩,h4⟩,h5⟩,h6⟩,h7⟩,h8⟩,h9⟩:=h
  exact ⟨C,Zdt e,h1,h2,h3,h4,h5,h6,h7,h8,h9⟩
 ·cases h
theorem Zhz {K:PySem.W.Frag}{h:Heap}{C:Addr}{bmB:List Value}{newId:String}(X:K.In h)(q:excIn K C bmB newId=true):
  ∃ bm N nm q bs hdct sn sub ab col dd k0 k1 k2 k3 k5 mN,h.get? C=some (excClassObj nm q C N bs bm hdct sn sub ab col dd k0 k1 k2 k3 k5 newId)/\h.Ns N mN/\mN "__init__"=none/\OwnTail h bmB bm:=by
 unfold excIn at q
 split at q
 ·rename_i dd cd sl ho
  split at q
  ·rename_i C' bm k0 k1 k2 k3 n k5 hm hs
   simp only[Bool.and_eq_true,beq_iff_eq,Bool.not_eq_true'] at q;obtain ⟨⟨⟨⟨⟨rfl,rfl⟩,hdel⟩,ht⟩,hok⟩,hni⟩:=q
   obtain ⟨nm,bs,mro,ns,qn,hd,sn,sub,ab,col,del⟩:=cd
   dsimp only at hm hdel hok hni;subst hm hdel;obtain ⟨l⟩:=sl
   simp only at hs
   subst hs;exact ⟨bm,ns,nm,qn,bs,hd,sn,sub,ab,col,dd,k0,k1,k2,k3,k5,_,X _ _ ho,.of_isNs (PySem.W.isNs_of_in X hok),PySem.W.nsMap_none_of_in X hok hni,PySem.W.tail_of_in X ht⟩
  ·cases q
 ·cases q
noncomputable def ZnM (tab:List (Str × Bool))(f:Ev):Ev:=fun ρ M=>(f ρ M).bind fun x M1=>match x with | .err c _=>(match tab.lookup c with | some b=> .ok (.bl b) M1 | none=> .bad) | _=> .bad
section
variable {X:Cx}{ξ:XK}{e:Expr}{fa:Ev}{p pos:Pos}{tab:List (Str × Bool)}
theorem Zju {P:Program}{w:World}{H:Hp}{h:Heap}{e:Addr}(k:HOk P w H h)(hn:h.get? e=none):H e=none:=by
 cases z:H e with
 |none=>rfl
 |some u=>obtain ⟨o,g⟩:=Zdk (k e u z);rw[hn] at g;cases g
noncomputable def ZaM (c:Str)(fs:Av):Sv:=fun ρ M=>ZD (fs ρ M) fun ds M1=>if ds.length<=1000 then .exc c M1 else .bad
theorem ZaN {x:Str}{np cpos:Pos}{a:Expr}{as:List Expr}{fs:Av}(T:Thr X ξ)(hx:Zls X.K x=true)(gl: ∀ c v,nsIn X.K mainGlobals c=some (some v)->X.mg c=some v)(hh:X.A.handled=none)(ha:DA X ξ (a :: as) fs)(hg:Gl X x:=by rfl)(hdb:(x == ("__debug__":Str))=false:=by decide)(hf:ZfT x=false:=by decide)
  (he:starEach (a :: as) X.env=(false,eval a X.env) :: starEach as X.env:=by rfl) (hpl:(backTo cpos (starEach as X.env)).any (·.1)=false:=by rfl):DS X ξ (.Raise (some (.Call (.Name x np) (a :: as) [] cpos)) none pos) (ZaM x fs):=by
 obtain ⟨ta,pa,qa⟩:=ha
 obtain ⟨C,hC,hq,_⟩:=Zhy hx
 refine ⟨fun Dn σ H=>ta σ H fun vs H1=>vs.length<=sizeLine/\ξ (.ref C) none H1,fun pins s σ H Dn I h=> ?_,fun σ ρ H α M Dn s h q=> ?_⟩
 ·obtain ⟨tl,N,nm,q,bs,hdct,sn,sub,ab,col,dd,k0,k1,k2,k3,k5,mN,gC,hN,hni,TL⟩:=Zhz I.ok.mod.kin hq
  refine wpAny_Raise_call_subT (C:=C) (nm:=nm) (q:=q) (N:=N) (bs:=bs) (bm:=tl) (hdct:=hdct) (sn:=sn) (sub:=sub) (ab:=ab) (col:=col) (dd:=dd) (k0:=k0) (k1:=k1) (k2:=k2) (k3:=k3) (k5:=k5) F.excBase_ValueError (mN:=mN)
   (TL.hasType F.excBase_ValueError.hasBase) hh (by rw[he];show (false || (backTo cpos (starEach as X.env)).any (·.1))=false;rw[hpl];rfl) hni (Zeb I hg (gl x _ hC) ⟨rfl,?_⟩ hdb)
  have hs:=pa cpos pins s σ H _ I h
  rw[he] at hs ⊢;refine Calls.evalArgs_plain (wpAny_mono hs (fun us s2 ⟨vs,H1,I1,r1,z1,z2⟩=>⟨rfl,by rw[<- r1.length];exact z1,I1.bk _ _ gC,hN.keeps I1.bk,TL.keeps I1.bk,fun h' e m=> ?_⟩) fun _ _ y=>y)
  obtain ⟨t,g1,g2,g3⟩:=m.there
  exact T.mak pins σ H1 H1 s2 { s2 with heap:=h' } e _ _ C I1 rfl I1.bare (Un.kept m.keeps) (I1.hok.kept m.keeps) m.new g1 rfl rfl rfl rfl (Zju I1.hok m.new) z2
 ·refine qa σ ρ H α M _ s h (FP.seq q fun ds M1 vs H1 α1 e1 h1 r1 w1=> ?_)
  by_cases hl:ds.length<=1000
  ·rw[if_pos hl] at w1
   exact ⟨by rw[r1.length];exact Zhn hl,w1 C H1 α1 hC Ext.refl none (.inl ⟨hf,h1,rfl⟩)⟩
  ·rw[if_neg hl] at w1
   exact w1.elim
end
end DL
end
section
namespace DL
open PySem PySem.Spec PyProof.Rows L2
open PySem.W (nsIn excIn tailIn nsOkIn mroIn clsIn typeIn findIn specialIn takesIn kitOne Looks looks_mroIn looks_typeIn)
section
variable {X:Cx}{pins pins' pn:List (Addr × Obj)}{σ:L2.St}{H H':Hp}{s:Shared}{xe:Value->Shared->Prop}{e:Addr}
end
noncomputable def kpR:List Bool->Ro->Ro
 |b :: m,x :: r=>(bif b then none else x) :: kpR m r
 |_,[]=>[]
 | [],_ :: r=>none :: kpR [] r
noncomputable def fsE (c:Str)(M:Sto):List D:=if ZfT c=true then (match M.getLast? with | some (.lst xs)=>xs | none=>[]) else []
noncomputable def stE (c:Str)(M:Sto):Sto:=if ZfT c=true then M.dropLast else M
theorem ZaO {c:Str}{M:Sto}(h:ZfT c=false):fsE c M=[]:=by unfold fsE;rw[h];rfl
theorem ZaD {c:Str}{M:Sto}(h:ZfT c=false):stE c M=M:=by unfold stE;rw[h];rfl
theorem ZlX {c:Str}{M:Sto}{ds:List D}(h:ZfT c=true):fsE c (M ++ [.lst ds])=ds:=by unfold fsE;rw[if_pos h,List.getLast?_concat]
theorem Zjv {c:Str}{M:Sto}{ds:List D}(h:ZfT c=true):stE c (M ++ [.lst ds])=M:=by unfold stE;rw[if_pos h,List.dropLast_concat]
theorem XO.hr {K:PySem.W.Frag}{H:Hp}{α:List Addr}{c:Str}{M:Sto}{dct:Option Addr}(h:XO K H α c M dct):HR K H α (stE c M):=by
 rcases h with ⟨h1,h2,_⟩ | ⟨h1,M0,ds,dx,fs,rfl,h2,_⟩
 ·rw[ZaD h1];exact h2
 ·rw[Zjv h1];exact h2
noncomputable def ZnN (gb:Sv)(cs:List Str)(W:List Bool)(i:Nat)(gh:Sv):Sv:=fun ρ M=>match gb ρ M with
 | .exc c M1=>if cs.contains c=true then (match gh ((kpR W ρ).set i (some (.err c (fsE c M1)))) (stE c M1) with
  | .ret d M2=> .ret d M2
  | .nx _ M2=> .nx (List.replicate ρ.length none) M2
  |_=> .bad) else .bad
 |o=>o
section
variable {X:Cx}{ξ:XK}{d n:Str}{cs:List Str}{i:Nat}{body suite:List Stmt}{b0:Stmt}{gb gh:Sv}{pos hpos np:Pos}
end
theorem ZZ {k:Nat}{A:Around}{env:Env}(hr:Room k (A.deeper env))(h:100<=k):A.handled.isNone=true:=by
 have e:A.handled=none:=hr.hd h
 rw[e];rfl
end DL
end
section
namespace DL
open PySem PySem.Spec PyProof.Rows L2
noncomputable abbrev Me:=D->List D->Sto->Out D
noncomputable def MO (X:Cx)(ξ:XK)(r:V->List V->Hp->VK->Prop)(g:Me):Prop:= ∀ H α M v vs x ds Q,HR X.K H α M->Rep X.K H α v x->Reps X.K H α vs ds->OP X.K H α ξ Q (g x ds M)->r v vs H Q
theorem HR.wrE {K:PySem.W.Frag}{H:Hp}{α:List Addr}{M:Sto}{n:Nat}{p:Addr}{xs ys:List V}{ds:List D}(h:HR K H α M)(e:RefK H α 0 n p)(hp:H p=some (.lst ys))(r:Reps K H α xs ds):Ext K H (upd H p (.lst xs)) α α/\HR K (upd H p (.lst xs)) α (M.set n (.lst ds)):=
 ⟨Ext.wr hp,h.wr e hp r⟩
section
variable {X:Cx}{ξ:XK}{o e:Expr}{es:List Expr}{fo fa:Ev}{fs:Av}{name:Str}{apos cpos pos:Pos}{T id:String}{r:V->List V->Hp->VK->Prop}{g:Me}
noncomputable def ZhA (x:D)(M:Sto):Bool:=match x with | .ref n=>M[n]?.isSome | _=>false
noncomputable def ZgF (g:Me)(fo:Ev)(fs:Av):Ev:=fun ρ M=>(fo ρ M).bind fun x M1=>if ZhA x M1=true then (fs ρ M1).bind fun ds M2=>g x ds M2 else .bad
theorem ZhB {K:PySem.W.Frag}{H:Hp}{α:List Addr}{M:Sto}{v:V}{x:D}(h:HR K H α M)(rx:Rep K H α v x)(k:ZhA x M=true):tyV K "list" v H:=by
 cases rx with
 | @ref p n hp=>
  obtain ⟨xs,g⟩:=h.some_at hp
  exact .inl ⟨rfl,_,SqL.of g⟩
 |_=>cases k
theorem ZlY (slot:Slot "list" name id)(hty:typeOf (.builtin id)=pure (.type "method_descriptor"))(hm:MtR X id r)(hf:MO X ξ r g)(ho:DE X ξ o fo)(ha:DA X ξ (e :: es) fs)
  (hbase:attributeBase o name X.env (eval o X.env)=eval o X.env:=by rfl)
  (hfew:((backTo cpos (starEach (e :: es) X.env)).all (fun x=> !x.1) && (backToKw cpos (keywordEach [] X.env)).all (fun x=>x.1.isSome)
   && decide ((e :: es).length + ([]:List Keyword).length + (if ([]:List Keyword).isEmpty then 0 else 1) < 30))=true:=by rfl)
  (hline:(apos.endLine == cpos.line)=true:=by rfl) (hs:starEach (e :: es) X.env=(false,eval e X.env) :: starEach es X.env:=by rfl) (hplain:(backTo cpos (starEach es X.env)).any (·.1)=false:=by rfl):
  DE X ξ (.Call (.Attribute o name apos) (e :: es) [] cpos) (ZgF g fo fs):=by
 obtain ⟨to,po,qo⟩:=ho
 obtain ⟨ta,pa,qa⟩:=ha
 refine ⟨_,ZiY PySem.F.plainAttrs_list slot hty hm po pa hbase hfew hline hs hplain,fun σ ρ H α M Q s h q=> ?_⟩
 refine qo σ ρ H α M _ s h (OG.seq q fun x M1 v H1 α1 e1 h1 r1 q1=> ?_)
 by_cases k:ZhA x M1=true
 ·rw[if_pos k] at q1
  exact ⟨ZhB h1 r1 k,qa σ ρ H1 α1 M1 _ (s.mono e1) h1 (OG.seq q1 fun ds M2 vs H2 α2 e2 h2 r2 q2=>hf H2 α2 M2 v vs x ds Q h2 (Rep.mono e2 r1) r2 q2)⟩
 ·rw[if_neg k] at q1
  exact q1.elim
noncomputable def mApp:Me:=fun x ds M=>match x,ds with
 | .ref n,[d]=>(match M[n]? with | some (.lst xs)=>if xs.length < 10000000 then .ok .non (M.set n (.lst (xs ++ [d]))) else .bad | none=> .bad)
 |_,_=> .bad
theorem Zjw:MO X ξ rAppend mApp:=by
 intro H α M v vs x ds Q h rx rs q;cases rx with
 | @ref p n hp=>
  match rs with
  | .nil=>exact q.elim
  | .cons _ (.cons _ _)=>exact q.elim
  | .cons (v:=u) (d:=d) ru .nil=>
   cases em:M[n]? with
   |none=>simp only[mApp,em] at q;exact q.elim
   |some so=>
    cases so with
    |lst es=>
     obtain ⟨xs,g1,g2⟩:=h.at hp em
     by_cases c:es.length < 10000000
     ·simp only[mApp,em,if_pos c] at q
      obtain ⟨k1,k2⟩:=h.wrE hp g1 (g2.append (.cons ru .nil))
      exact ⟨p,xs,u,rfl,rfl,g1,by rw[g2.length];exact Nat.lt_of_lt_of_le c (by decide),q _ _ α k1 k2 .non⟩
     ·simp only[mApp,em,if_neg c] at q
      exact q.elim
 |_=>cases rs<;>exact q.elim
noncomputable def ZnO:Me:=fun x ds M=>match x,ds with
 | .ref n,[]=>(match M[n]? with | some (.lst _)=> .ok .non (M.set n (.lst [])) | none=> .bad)
 |_,_=> .bad
noncomputable def ZnP:Me:=fun x ds M=>match x,ds with
 | .ref n,[.ref m]=>(match M[n]?,M[m]? with | some (.lst xs),some (.lst ys)=>if xs.length + ys.length<=10000000 then .ok .non (M.set n (.lst (xs ++ ys))) else .bad | _,_=> .bad)
 |_,_=> .bad
theorem Zbs (ho:DE X ξ o fo)(ha:DE X ξ e fa)(hbase:attributeBase o "append" X.env (eval o X.env)=eval o X.env:=by rfl)
  (hfew:((backTo cpos (starEach [e] X.env)).all (fun x=> !x.1) && (backToKw cpos (keywordEach [] X.env)).all (fun x=>x.1.isSome)
   && decide ([e].length + ([]:List Keyword).length + (if ([]:List Keyword).isEmpty then 0 else 1) < 30))=true:=by rfl)
  (hline:(apos.endLine == cpos.line)=true:=by rfl) (hs:starEach [e] X.env=(false,eval e X.env) :: starEach [] X.env:=by rfl) (hplain:(backTo cpos (starEach [] X.env)).any (·.1)=false:=by rfl):
  DE X ξ (.Call (.Attribute o "append" apos) [e] [] cpos) (ZgF mApp fo (Zc fa aNil)):=ZlY PySem.F.slot_list_append PySem.F.type_list_append Zcf Zjw ho (Za ha Zd hs) hbase hfew hline hs hplain
noncomputable def DO (X:Cx)(ξ:XK)(e:Option Expr)(f:Ro->Sto->Out (Option Int)):Prop:= ∃ t:TO,PO X e t/\ ∀ σ ρ H α M (Q:Option Int->Hp->Prop),SR X.K H α σ ρ->HR X.K H α M->OG X.K (fun _ _ v d=>v=d) H α ξ Q (f ρ M)->t σ H Q
noncomputable def oNo:Ro->Sto->Out (Option Int):=fun _ M=> .ok none M
noncomputable def oSo (f:Ev):Ro->Sto->Out (Option Int):=fun ρ M=>(f ρ M).bind fun x M1=>match x with | .int i=> .ok (some i) M1 | _=> .bad
theorem ZlZ:DO X ξ none oNo:=⟨_,Zhc,fun σ ρ H α M Q s h q=>q none H α Ext.refl h rfl⟩
theorem Zl0 (ha:DE X ξ e fa):DO X ξ (some e) (oSo fa):=by
 obtain ⟨ta,pa,qa⟩:=ha
 refine ⟨_,Zhd pa,fun σ ρ H α M Q s h q=> ?_⟩
 refine qa σ ρ H α M _ s h (OG.seq q fun x M1 v H1 α1 e1 h1 r1 q1=> ?_)
 cases r1 with
 |int i=>exact ⟨i,rfl,q1 (some i) H1 α1 Ext.refl h1 rfl⟩
 |_=>exact q1.elim
noncomputable def Zd4 (xs:List D)(lo hi:Option Int):List D:=(xs.drop (HT.sIx xs.length 0 lo)).take (HT.sIx xs.length xs.length hi - HT.sIx xs.length 0 lo)
noncomputable def eSl (f:Ev)(lo hi:Ro->Sto->Out (Option Int)):Ev:=fun ρ M=>(f ρ M).bind fun x M1=>(lo ρ M1).bind fun l M2=>(hi ρ M2).bind fun u M3=>match x with
 | .ref n=>(match M3[n]? with | some (.lst xs)=> .ok (.ref M3.length) (M3 ++ [.lst (Zd4 xs l u)]) | none=> .bad)
 | .rol xs=> .ok (.ref M3.length) (M3 ++ [.lst (Zd4 xs l u)])
 | .tup xs=>if HT.sIx xs.length 0 l=0/\HT.sIx xs.length xs.length u=xs.length then .bad else .ok (.tup (Zd4 xs l u)) M3
 |_=> .bad
noncomputable def Zlu (M:Sto)(x:D):Option (List D):=match x with | .con _=>none | y=>Zbq M y
theorem ZeT {M:Sto}{x:D}{ys:List D}(e:Zlu M x=some ys):Zbq M x=some ys/\ ∀ zs,x≠ .con zs:=by
 cases x with
 |con _=>cases e
 |_=>exact ⟨e,fun _ z=>by cases z⟩
noncomputable def bTup:List D->Sto->Out D:=fun ds M=>match ds with
 | [x]=>match Zlu M x with | some xs=> .ok (.tup xs) M | none=> .bad
 |_=> .bad
theorem Zjx:CO X ξ (fun xs H Q=> ∃ p ys,xs=[.ref p]/\((SqL X.K H p ys/\ ∀ l,H l=none->Q (.ref l) (upd H l (.tup ys)))\/(SqT X.K H p ys/\Q (.ref p) H))) bTup:=by
 intro H α M vs ds Q h rs q;unfold bTup at q
 match rs with
 | .nil=>exact q.elim
 | .cons _ (.cons _ _)=>exact q.elim
 | .cons (d:=x) r .nil=>
  cases e:Zlu M x with
  |none=>simp only[e] at q;exact q.elim
  |some ys=>
   simp only[e] at q;obtain ⟨p,xs,rfl,h2,h3⟩:=ZfZ h r (ZeT e).1 (ZeT e).2
   rcases h2 with h2 | h2
   ·exact ⟨p,xs,rfl,.inl ⟨h2,fun l hl=>q _ _ α (Ext.new0 hl) (h.tup hl) (.tup Zr (Reps.mono (Ext.new0 hl) h3))⟩⟩
   ·exact ⟨p,xs,rfl,.inr ⟨SqT.of h2,q _ H α Ext.refl h (.tup h2 h3)⟩⟩
noncomputable def iR2 (fs:Av):Ro->Sto->Out Src:=fun ρ M=>(fs ρ M).bind fun ds M1=>match ds with
 | [.int i,.int j]=>if -(2 ^ 62)<=i/\i < 2 ^ 62/\ -(2 ^ 62)<=j/\j < 2 ^ 62 then .ok (.pur (Zai i (j - i).toNat)) M1 else .bad
 |_=> .bad
end
noncomputable def eRv (f:Ev):Ev:=fun ρ M=>(f ρ M).bind fun x M1=>match x with
 | .tup xs=> .ok (.tup xs.reverse) M1
 | .ref n=>(match M1[n]? with | some (.lst xs)=> .ok (.ref M1.length) (M1 ++ [.lst xs.reverse]) | none=> .bad)
 | .rol xs=> .ok (.ref M1.length) (M1 ++ [.lst xs.reverse])
 |_=> .bad
end DL
end
section
namespace DL
open PySem PySem.Spec PyProof.Rows L2
noncomputable def Zf5 (tg:Tg)(g:Sv)(src:Src):Nat->Nat->Ro->Sto->Fl
 |f,i,ρ,M=>match nxt src i M with
  |none=> .bad
  |some none=> .nx ρ M
  |some (some d)=>(match f with
   |0=> .bad
   |f + 1=>(match tg d ρ with
    |none=> .bad
    |some ρ1=>(match g ρ1 M with
     | .nx ρ2 M2=>Zf5 tg g src f (i + 1) ρ2 M2
     | .cnt ρ2 M2=>Zf5 tg g src f (i + 1) ρ2 M2
     | .brk ρ2 M2=> .nx ρ2 M2
     |o=>o)))
noncomputable def Zjy (tg:Tg)(fi:Ro->Sto->Out Src)(g:Sv):Sv:=fun ρ M=>ZD (fi ρ M) fun src M1=>Zf5 tg g src (cnt src M1) 0 ρ M1
section
variable {X:Cx}{ξ:XK}{tg iter a b:Expr}{gt:Tg}{fi:Ro->Sto->Out Src}{g:Sv}{body:List Stmt}{f fa fb:Ev}{fs:Av}{p pos:Pos}
end
section
variable {X:Cx}{ξ:XK}{a b:Expr}{elts:List Expr}{k0:Nat}{tp:Pos}{fa:Ev}{fs:Av}{p pos:Pos}{ta:TA}
noncomputable def iEn (fs:Av):Ro->Sto->Out Src:=fun ρ M=>(fs ρ M).bind fun ds M1=>match ds with | [.ref n]=> .ok (.enu n) M1 | _=> .bad
noncomputable def iZp (fs:Av):Ro->Sto->Out Src:=fun ρ M=>(fs ρ M).bind fun ds M1=>match ds with | [.ref n,.ref m]=> .ok (.zip n m) M1 | _=> .bad
end
end DL
end
section
namespace DL
open PySem PySem.Spec PyProof.Rows L2
open PySem.SeqAt (EqAt RcAt RcNeAt)
section
variable {X:Cx}{ξ:XK}{pins:List (Addr × Obj)}{σ:L2.St}{H:Hp}{s:Shared}{α:List Addr}{M:Sto}
noncomputable def eqs (M:Sto)(d:D):List D->Option (List Bool)
 | []=>some []
 |x :: r=>match eqF 12 M x d with | some b=>(match eqs M d r with | some bs=>some (b :: bs) | none=>none) | none=>none
end
section
variable {X:Cx}{ξ:XK}
noncomputable def inE (x y:D)(M:Sto):Option Bool:=match Zbq M y with | some ds=>(match eqs M x ds with | some bs=>some (bs.any id) | none=>none) | none=>none
noncomputable def ZnQ:Bo:=fun x y M=>match inE x y M with | some b=> .ok (.bl b) M | none=> .bad
noncomputable def ZeU:Bo:=fun x y M=>match inE x y M with | some b=> .ok (.bl (!b)) M | none=> .bad
noncomputable def Zo7:Me:=fun x ds M=>match x,ds with
 | .ref n,[d]=>(match M[n]? with | some (.lst xs)=>(match eqs M d xs with | some bs=>(match bs.findIdx? id with | some j=> .ok (.int (j:Nat)) M | none=> .bad) | none=> .bad) | none=> .bad)
 |_,_=> .bad
noncomputable def Zo8:Me:=fun x ds M=>match x,ds with
 | .ref n,[d]=>(match M[n]? with | some (.lst xs)=>(match eqs M d xs with | some bs=> .ok (.int (bs.countP id:Nat)) M | none=> .bad) | none=> .bad)
 |_,_=> .bad
noncomputable def Zcw:List D->Option (List Int)
 | []=>some []
 | .int b :: r=>match Zcw r with | some bs=>some (b :: bs) | none=>none
 |_ :: _=>none
noncomputable def Zjz (g:List Int->Option Int):List D->Sto->Out D:=fun ds M=>match ds with
 | [x]=>(match Zbq M x with | some xs=>(match x with | .con _=> .bad | .tup _=> .bad | _=>(match Zcw xs with | some ns=>(match g ns with | some i=> .ok (.int i) M | none=> .bad) | none=> .bad)) | none=> .bad)
 |_=> .bad
end
end DL
end
section
namespace DL
open PySem PySem.Spec PyProof.Rows L2
section
variable {κ:Type}[DecidableEq κ]
variable {K:PySem.W.Frag}{H H':Hp}{α α':List Addr}{key:κ->D}{dec:D->Option κ}
end
section
variable {X:Cx}{ξ:XK}{H:Hp}{α:List Addr}{M:Sto}
end
section
variable {X:Cx}{ξ:XK}{o i e:Expr}{fo fi f:Ev}{pos pos':Pos}
end
end DL
end
section
namespace DL
open PySem PySem.Spec PyProof.Rows L2
section
variable {X:Cx}{ξ:XK}{tg a:Expr}{fs:Av}{p pos:Pos}{ta:TA}
noncomputable def iRv (fs:Av):Ro->Sto->Out Src:=fun ρ M=>(fs ρ M).bind fun ds M1=>match ds with | [.ref n]=>(match M1[n]? with | some (.lst xs)=> .ok (.rev n xs.length) M1 | none=> .bad) | _=> .bad
end
end DL
end
section
namespace DL
open PySem PySem.Spec PyProof.Rows L2
section
variable {X:Cx}{ξ:XK}{e e1 e2:Expr}{es:List Expr}{f:Ev}{pos:Pos}
noncomputable def eFm (f:Ev):Ev:=fun ρ M=>(f ρ M).bind fun x M1=>match x with
 | .int i=>if i.natAbs.log2 < 1900 then .ok (.str (Str.ofString (toString i))) M1 else .bad
 | .str y=>if y.length<=100000 then .ok (.str y) M1 else .bad
 |_=> .bad
theorem ZjA (ha:DE X ξ e f):DE X ξ (.FormattedValue e (-1) none pos) (eFm f):=by
 obtain ⟨ta,pa,qa⟩:=ha
 refine ⟨fun σ H Q=>ta σ H fun x H1=>(∃ i,x= .int i/\i.natAbs.log2 < 1900/\Q (.str (Str.ofString (toString i))) H1)\/ ∃ y,x= .str y/\y.length<=100000/\Q (.str y) H1,fun pins s σ H Q I h=> ?_,fun σ ρ H α M Q s h q=> ?_⟩
 ·refine wpAny_FormattedValue_plain (wpAny_mono (pa pins s σ H _ I h) (fun v s1 ⟨x,H1,I1,r1,q1⟩=> ?_) fun _ _ z=>z)
  rcases q1 with ⟨i,rfl,hi,q⟩ | ⟨y,rfl,hy,q⟩
  ·obtain ⟨t,rfl⟩:=r1
   exact wpAny_formatField_int (by omega) ⟨.str (Str.ofString (toString i)),H1,I1.tok _,⟨_,rfl⟩,q⟩
  ·obtain ⟨t,rfl⟩:=r1
   exact wpAny_formatField_str ⟨.str y,H1,I1,⟨_,rfl⟩,q⟩ ⟨.str y,H1,I1.tok _,⟨_,rfl⟩,q⟩ (Nat.le_trans hy (by rw[sizeLine_eq];decide))
 ·refine qa σ ρ H α M _ s h (OG.seq q fun x M1 v H1 α1 e1 h1 r1 q1=> ?_)
  cases r1 with
  |int i=>
   by_cases hi:i.natAbs.log2 < 1900
   ·simp only[hi,if_true] at q1
    exact .inl ⟨i,rfl,hi,q1 _ H1 α1 Ext.refl h1 (.str _)⟩
   ·simp only[hi,if_false] at q1
    exact q1.elim
  |str y=>
   by_cases hi:y.length<=100000
   ·simp only[hi,if_true] at q1
    exact .inr ⟨y,rfl,hi,q1 _ H1 α1 Ext.refl h1 (.str _)⟩
   ·simp only[hi,if_false] at q1
    exact q1.elim
  |_=>exact q1.elim
noncomputable abbrev Jv:=Str->Ro->Sto->Out Str
noncomputable def PJ (X:Cx)(es:List Expr)(t:L2.St->Hp->Str->(Str->Hp->Prop)->Prop):Prop:=
 ∀ (pins:List (Addr × Obj)) (s:Shared) (σ:L2.St) (H:Hp) (acc:Str) (Q:Str->Hp->Prop),Inv X pins σ H s->t σ H acc Q->Joins (model X.prog X.w) X.A X.xe (evalEach es X.env) acc (fun out s1=>out.length<=100000/\ ∃ H',Inv X pins σ H' s1/\Q out H') s
noncomputable def DJ (X:Cx)(ξ:XK)(es:List Expr)(g:Jv):Prop:= ∃ t,PJ X es t/\ ∀ σ ρ H α M acc (Q:Str->Hp->Prop),SR X.K H α σ ρ->HR X.K H α M->OG X.K (fun _ _ v d=>v=d) H α ξ Q (g acc ρ M)->t σ H acc Q
noncomputable def jNil:Jv:=fun acc _ M=>if acc.length<=100000 then .ok acc M else .bad
noncomputable def ZdK (f:Ev)(g:Jv):Jv:=fun acc ρ M=>(f ρ M).bind fun x M1=>match x with
 | .str y=>if (acc ++ y).length<=100000 then g (acc ++ y) ρ M1 else .bad
 |_=> .bad
noncomputable def eFs (g:Jv):Ev:=fun ρ M=>(g Str.empty ρ M).bind fun x M1=> .ok (.str x) M1
theorem ZjB:DJ X ξ [] jNil:=by
 refine ⟨fun σ H acc Q=>acc.length<=100000/\Q acc H,fun pins s σ H acc Q I h=>⟨h.1,H,I,h.2⟩,fun σ ρ H α M acc Q s h q=> ?_⟩
 unfold jNil at q
 by_cases hl:acc.length<=100000
 ·rw[if_pos hl] at q
  exact ⟨hl,q acc H α Ext.refl h rfl⟩
 ·rw[if_neg hl] at q
  exact q.elim
theorem ZcV {g:Jv}(ha:DE X ξ e f)(hr:DJ X ξ es g):DJ X ξ (e :: es) (ZdK f g):=by
 obtain ⟨ta,pa,qa⟩:=ha
 obtain ⟨tr,pr',qr⟩:=hr
 refine ⟨fun σ H acc Q=>ta σ H fun x H1=> ∃ y,x= .str y/\(acc ++ y).length<=100000/\tr σ H1 (acc ++ y) Q,fun pins s σ H acc Q I h=> ?_,fun σ ρ H α M acc Q s h q=> ?_⟩
 ·show wpAny _ _ (eval e X.env) _ _ s
  refine wpAny_mono (pa pins s σ H _ I h) (fun v s1 ⟨x,H1,I1,r1,q1⟩=> ?_) fun _ _ z=>z
  obtain ⟨y,rfl,hy,q⟩:=q1
  obtain ⟨t,rfl⟩:=r1
  exact ⟨y,t,rfl,Nat.le_trans hy (by rw[sizeLine_eq];decide),pr' pins s1 σ H1 (acc ++ y) Q I1 q⟩
 ·refine qa σ ρ H α M _ s h (OG.seq q fun x M1 v H1 α1 e1 h1 r1 q1=> ?_)
  cases r1 with
  |str y=>
   by_cases hi:(acc ++ y).length<=100000
   ·simp only[hi,if_true] at q1
    exact ⟨y,rfl,hi,qr σ ρ H1 α1 M1 (acc ++ y) Q (s.mono e1) h1 q1⟩
   ·simp only[hi,if_false] at q1
    exact q1.elim
  |_=>exact q1.elim
theorem Zl1 {g:Jv}(h:DJ X ξ (e1 :: e2 :: es) g):DE X ξ (.JoinedStr (e1 :: e2 :: es) pos) (eFs g):=by
 obtain ⟨t,pj,qj⟩:=h
 refine ⟨fun σ H Q=>t σ H Str.empty fun x H1=>Q (.str x) H1,fun pins s σ H Q I h=> ?_,fun σ ρ H α M Q s h q=> ?_⟩
 ·refine wpAny_JoinedStr ?_
  have:=pj pins s σ H Str.empty _ I h
  have mono: ∀ (ms:List (Sem Value)) (acc:Str) (P R:Str->Shared->Prop) (s:Shared),(∀ o s,P o s->R o s)->Joins (model X.prog X.w) X.A X.xe ms acc P s->Joins (model X.prog X.w) X.A X.xe ms acc R s:=by
   intro ms
   induction ms with
   |nil=>intro acc P R s hp hj;exact hp _ _ hj
   |cons m r ih=>
    intro acc P R s hp hj;exact wpAny_mono hj (fun v s1 ⟨y,t,e,l,k⟩=>⟨y,t,e,l,ih _ P R s1 hp k⟩) fun _ _ z=>z
  refine mono _ _ _ _ s (fun o s1 ⟨hl,H',I',q⟩=> ?_) this
  exact ⟨Nat.le_trans hl (by rw[sizeLine_eq];decide),.str o,H',I'.tok _,⟨_,rfl⟩,q⟩
 ·refine qj σ ρ H α M Str.empty _ s h (OG.seq q fun x M1 v H1 α1 e1 h1 r1 q1=> ?_)
  cases r1
  exact q1 _ H1 α1 Ext.refl h1 (.str x)
end
end DL
end
section
namespace DL
open PySem PySem.Spec PyProof.Rows L2
theorem ZdL {β γ:Type}{o:Out β}{f:β->Sto->Out γ}{g:γ->Sto->Fl}:ZD (o.bind f) g=ZD o fun x M=>ZD (f x M) g:=by cases o<;>rfl
section
variable {X:Cx}{ξ:XK}{tg iter elt:Expr}{ifs:List Expr}{scope:Scope}{cl:List (Str × Addr)}{N:List Str}{k:Nat}{fr:List Nat}{fi:Ro->Sto->Out Src}{gt:Tg}{c:Tv}{f:Ev}{pos:Pos}
theorem ZeV (iv:Nat){x:Str}{pos' spos:Pos}(hN:X.N.Nodup)(B:Blk X scope cl N k fr)(hi:DI X ξ tg iter fi)(hg: ∀ C fp s H,DG (blk X scope cl N C fp s H) tg gt)(ht: ∀ C fp s H,DC (blk X scope cl N C fp s H) ifs c)(he: ∀ C fp s H,DE (blk X scope cl N C fp s H) E0 elt f)
  (hiv:X.N[iv]?=some x:=by rfl) (hxl:Loc X.env.scope x:=by first | exact Or.inl rfl | exact Or.inr rfl) (hm:X.may iv=true:=by rfl) (hsw:swapsWith (.ListComp elt [⟨tg,iter,ifs,0⟩] scope pos) (some (.Name x pos')) spos.line X.env=pure true:=by rfl) (hf:X.fn x=true\/X.env.scope.names.lookup x=some .local:=by first | exact .inl rfl | exact .inr rfl | assumption)
  (hs: ∀ x,foldedSetIterable iter X.env x=pure x:=by intro _;rfl):DS X ξ (.Assign [.Name x pos'] (.ListComp elt [⟨tg,iter,ifs,0⟩] scope pos) spos) (ZU (gNm iv) (Z3 fi k fr gt c f)):=by
 obtain ⟨wi,pi,qi⟩:=hi
 refine ⟨fun Dn σ H=> ∃ ρ α M,SR X.K H α σ ρ/\HR X.K H α M/\FP X.K H α ξ Dn (ZU (gNm iv) (Z3 fi k fr gt c f) ρ M),?_,fun σ ρ H α M Dn s h q=>⟨ρ,α,M,s,h,q⟩⟩
 rintro pins s σ H Dn I ⟨ρ,α,M,sr,hr,op⟩
 rw[exec_Assign_Name_used _ _ _ _ hsw];refine wpAny_bind (wpAny_standAt (wpAny_bind ?_))
 show wpAny _ X.A (do let _ <- comprehension (.ListComp elt [⟨tg,iter,ifs,0⟩] scope pos) scope X.env _ (newList []) false (eval iter X.env) (some (assign (.Name x pos') X.env))) _ _ s
 have op:FP X.K H α ξ Dn (ZD (fi ρ M) fun src M1=>ZD (match ZbB src gt c f M1.length (cnt src M1) 0 (roB k fr ρ) (M1 ++ [.lst []]) with | .ok _ M2'=> .ok (.ref M1.length) M2' | _=> .bad) fun d M1=>Fl.nx (ρ.set iv (some d)) M1):=by
  have e:ZU (gNm iv) (Z3 fi k fr gt c f) ρ M=(ZD (fi ρ M) fun src M1=>ZD (match ZbB src gt c f M1.length (cnt src M1) 0 (roB k fr ρ) (M1 ++ [.lst []]) with | .ok _ M2'=> .ok (.ref M1.length) M2' | _=> .bad) fun d M1=>Fl.nx (ρ.set iv (some d)) M1):=by
   unfold ZU Z3;rw[ZdL];rfl
  rw[<- e];exact op
 refine wpAny_bind (wpAny_mono (wpAny_comprehension_free (Q:=fun _ s'=>SP X pins Dn .next s') (use:=some (assign (.Name x pos') X.env)) rfl hs B.clos B.kind B.names ?_) (fun _ s' hq=>wpAny_pure (wpAny_pure hq)) fun _ _ e=>e)
 refine thn (pi pins s σ H (fun J H2=> ∃ α2 M2 src,Ext X.K H H2 α α2/\HR X.K H2 α2 M2/\Zjr X.K H2 α2 J src/\FP X.K H2 α2 ξ Dn (ZD (match ZbB src gt c f M2.length (cnt src M2) 0 (roB k fr ρ) (M2 ++ [.lst []]) with | .ok _ M2'=> .ok (.ref M2.length) M2' | _=> .bad) fun d M1=>Fl.nx (ρ.set iv (some d)) M1)) I
  (qi σ ρ H α M _ sr hr (FP.seq op fun src M1 J H1 α1 e1 h1 r1 q1=>⟨α1,M1,src,e1,h1,r1,q1⟩))) fun v s1 w1=>thn w1 fun itv s2 w2=> ?_
 obtain ⟨it,fp,tn,J,H2,rfl,I2,T,st2,f2,α2,M2,src,e2,h2,sc,op2⟩:=w2
 have srI:=sr.mono e2
 refine wpAny_newObj_type ?_
 have I3:Inv X pins σ (upd H2 s2.heap.objs.size (.lst [])) { s2 with heap:=s2.heap.push { cls:= .type "list",data:= .seq ([]:List Value).toArray } }:=I2.lnew (its:=[]) (t':=s2.toks) .nil (Nat.zero_le _)
 have fD:H2 s2.heap.objs.size=none:=I2.fresh
 generalize hD:s2.heap.objs.size=D at I3 fD;generalize hs3:({ s2 with heap:=s2.heap.push { cls:= .type "list",data:= .seq ([]:List Value).toArray } }:Shared)=s3 at I3
 generalize hH3:upd H2 D (.lst [])=H3 at I3;have h3:HR X.K H3 (α2 ++ [D]) (M2 ++ [.lst []]):=by rw[<- hH3];exact h2.new fD .nil
 have e3:Ext X.K H2 H3 α2 (α2 ++ [D]):=by rw[<- hH3];exact Ext.new fD
 have aD:RefK H3 (α2 ++ [D]) 0 M2.length D:=⟨h2.last D,by first | exact Kn.lst Zr | (rw[<- hH3];exact Kn.lst Zr)⟩
 have lt2: ∀ b∈fp,b < s2.heap.objs.size:=fun b hb=>let ⟨o,e,_⟩:=T.obj _ _ st2 b hb;Heap.lt_size e
 have keep3: ∀ b o,s2.heap.get? b=some o->s3.heap.get? b=some o:=fun b o e=>by rw[<- hs3];exact Heap.get?_push_of_some _ e
 have f3: ∀ b∈fp,ZcI X pins H3 b:=fun b hb=>⟨by rw[<- hH3,Zu (by rw[<- hD];exact Nat.ne_of_lt (lt2 b hb))];exact (f2 b hb).1,(f2 b hb).2⟩
 have lt3: ∀ b∈fp,b < s3.heap.objs.size:=fun b hb=>let ⟨o,e,_⟩:=T.obj _ _ st2 b hb;Heap.lt_size (keep3 b o e)
 have st3:tn 0 s3.heap:=T.keep _ _ _ st2 fun b _ o e=>keep3 b o e
 refine wpAny_newFunctionEnv B.cell (by intro y hy;simp at hy) (fun h₁ hns₁ hsb₁=> ?_) B.kind
 have keep4: ∀ b o,s3.heap.get? b=some o->h₁.get? b=some o:=fun b o e=>hsb₁.extBut b o (Nat.ne_of_lt (Heap.lt_size e)) (Heap.get?_push_of_some _ e)
 have I4:=ZeR (tk:=s3.toks + ([]:List (Str × Value)).length) B I3 f3 lt3 hns₁ keep4
 have st4:tn 0 h₁:=T.keep _ _ _ st3 fun b _ o e=>keep4 b o e
 have fp5: ∀ {H':Hp},(∀ b∈fp,H' b=none)-> ∀ b∈fp,ZcI (blk X scope cl N s3.heap.objs.size fp s3 H3) [] H' b:=fun hn b hb=>⟨hn b hb,Nat.ne_of_lt (lt3 b hb),(ZeQ B I3 f3 lt3).exfs b hb,.inl hb,fun x c h=>(f3 b hb).2.2.2.2.1 x c (B.sub x c h),fun p hp=>(by simp[blk] at hp)⟩
 cases er:ZbB src gt c f M2.length (cnt src M2) 0 (roB k fr ρ) (M2 ++ [.lst []]) with
 |exc x M9=>rw[er] at op2;exact op2.elim
 |bad=>rw[er] at op2;exact op2.elim
 |ok u9 M9=>
  rw[er] at op2;have loop:codeAny (model X.prog X.w) X.A (.compLoop (.ListComp elt [⟨tg,iter,ifs,0⟩] scope pos) 0 (.ref it) (.ref D) (compEnvC scope cl s3.heap.objs.size X.env)) (compPost (model X.prog X.w) X.A X.xe (some (assign (.Name x pos') X.env)) (fun _ s'=>SP X pins Dn .next s') (.ref D) s3.heap.objs.size) { s3 with heap:=h₁,toks:=s3.toks + ([]:List (Str × Value)).length }:=by
   refine Zds (Y:=blk X scope cl N s3.heap.objs.size fp s3 H3) T (fun _ _ z=>z) fp5 (hg _ fp s3 H3) (ht _ fp s3 H3) (he _ fp s3 H3) (fun i H' α' M' ex hr=>sc i H' α' M' (e3.trans ex) hr) aD I4 st4 (fun b hb=>(f3 b hb).1) ((srI.blk).mono e3) h3 er ?_
   intro σ5 H5 α5 s6 I6 ex5 hr5;obtain ⟨I7,tu⟩:=Zdr B I3 f3 I6
   obtain ⟨m6,hm6,_⟩:=id I6.loc
   refine wpAny_assign_Name (Zb6 (v:= .ref D) I7 hN hiv hxl hm rfl (fun s8 I8 ⟨a,sb8,ha⟩=> ?_) hf)
   have nca:s3.heap.objs.size≠a:=by
    rcases ha with e | e
    ·rw[e];exact Nat.ne_of_gt I3.lt
    ·intro z
     obtain ⟨v,o,e',_⟩:=I3.cell x a e
     exact absurd (Heap.lt_size e') (by rw[<- z];exact Nat.lt_irrefl _)
   exact ⟨m6,hm6.sameBut sb8 nca,fun h' sb=>⟨_,H5,tu _ s8 h' I8 (fun b o hb e=>(sb.2 b hb).trans e),op2 _ H5 α5 (e3.trans ex5) hr5 ((srI.mono (e3.trans ex5)).set iv (.ref (ex5.get aD)))⟩⟩
  exact codeAny_compStart_list loop (T.self X.A 0 _ _ _ st4 loop)
end
end DL
end
section
namespace DL
open PySem PySem.Spec PyProof.Rows L2
noncomputable def dRep:Bo:=fun x y M=>match x,y with
 | .ref n,.int k=>match M[n]? with
  |some (.lst xs)=>if (-9223372036854775808<=k/\k < 9223372036854775808)/\xs.length * k.toNat<=100000 then .ok (.ref M.length) (M ++ [.lst (List.replicate k.toNat xs).flatten]) else .bad
  |none=> .bad
 |_,_=> .bad
theorem Reps.rep {K:PySem.W.Frag}{H:Hp}{α:List Addr}{vs:List V}{ds:List D}(r:Reps K H α vs ds): ∀ k:Nat,Reps K H α (List.replicate k vs).flatten (List.replicate k ds).flatten
 |0=> .nil
 |k + 1=>by
  rw[List.replicate_succ,List.replicate_succ,List.flatten_cons,List.flatten_cons];exact r.append (Reps.rep r k)
section
variable {X:Cx}{ξ:XK}{a b:Expr}{fa fb:Ev}{pos:Pos}
theorem ZjC:BO X ξ rRep dRep:=by
 intro H α M v w x y Q h rv rw' q;cases rv with
 | @ref p n hp=>
  cases rw' with
  |int k=>
   cases e1:M[n]? with
   |none=>simp only[dRep,e1] at q;exact q.elim
   |some o=>
    cases o with
    |lst ds=>
     by_cases c:(-9223372036854775808<=k/\k < 9223372036854775808)/\ds.length * k.toNat<=100000
     ·simp only[dRep,e1,if_pos c] at q
      obtain ⟨xs,g1,r1⟩:=h.at hp e1
      exact ⟨p,k,xs,rfl,rfl,g1,by omega,by omega,by rw[r1.length];exact Zex c.2,fun l hl=>q _ _ (α ++ [l]) (Ext.new hl) (h.new hl (r1.rep k.toNat)) (.ref ⟨h.last l,Kn.lst Zr⟩)⟩
     ·simp only[dRep,e1,if_neg c] at q
      exact q.elim
  |_=>exact q.elim
 |_=>cases rw'<;>exact q.elim
theorem ZjD (ha:DE X ξ a fa)(hb:DE X ξ b fb):DE X ξ (.BinOp a .Mult b pos) (e2 dRep fa fb):=ZcS Zi1 ZjC ha hb
end
end DL
end
namespace DL
open PySem PySem.Spec L2
open PySem.W
section
variable {prog:Program}{w:World}{A:Around}{E:Value->Shared->Prop}{s:Shared}
end
section
variable {prog:Program}{w:World}{A:Around}{s:Shared}{R:Result->Shared->Prop}
variable {I:Addr}{fp wr:List Addr}{G:Array GenState->Array GenState->Prop}{n:Nat}{P:Nat->Value->Prop}{St:Nat->Shared->Prop}
end
section
variable {prog:Program}{w:World}{A:Around}{E:Value->Shared->Prop}{s:Shared}
variable {I:Addr}{fp wr:List Addr}{G:Array GenState->Array GenState->Prop}{n:Nat}{P:Nat->Value->Prop}{St:Nat->Shared->Prop}
end
section
variable {X:Cx}{ξ:XK}{a:Expr}{fs:Av}{p1 p2 p3 pos:Pos}{ta:TA}
end
end DL
section
namespace DL3
open PySem PySem.Spec PyProof.Rows L2 DL
open Sem (wp)
section
variable {prog:Program}{w:World}{A:Around}{E:Value->Shared->Prop}{s:Shared}
end
section
variable {prog:Program}{w:World}{A:Around}{E:Value->Shared->Prop}{s:Shared}
end
section
variable {X:Cx}{ξ:XK}{y1 y2 y3:Expr}{elts:List Expr}{k0:Nat}{tp:Pos}{fs:Av}{p pos:Pos}{ta:TA}
end
end DL3
end
section
namespace DL4
open PySem PySem.Spec PyProof.Rows L2 DL
open Sem (wp)
section
variable {prog:Program}{w:World}{A:Around}{E:Value->Shared->Prop}{s:Shared}
end
section
variable {prog:Program}{w:World}{A:Around}{E:Value->Shared->Prop}{s:Shared}
end
section
variable {X:Cx}{ξ:XK}{y1 y2 y3 y4:Expr}{elts:List Expr}{k0:Nat}{tp:Pos}{fs:Av}{p pos:Pos}{ta:TA}
end
end DL4
end
section
namespace PySem.SeqAt
open AutoSeq1 (wpAny_loadPart')
open MeetsSeq MeetsSeq2 MeetsSeq3 SeqRoads2
end PySem.SeqAt
namespace DL
open PySem PySem.Spec PyProof.Rows L2
open PySem.SeqAt
section
variable {X:Cx}{pins:List (Addr × Obj)}{σ:L2.St}{H:Hp}{s:Shared}{α:List Addr}{M:Sto}
end
end DL
end
section
namespace PySem
open Sem (wp)
section
variable {prog:Program}{w:World}{A:Around}{R:Result->Shared->Prop}{I:Addr}{fp wr:List Addr}{P:Nat->Value->Prop}{St:Nat->Heap->Prop}
end
section
variable {prog:Program}{w:World}{A:Around}{E:Value->Shared->Prop}{s:Shared}
end
end PySem
namespace DL
open PySem PySem.Spec PyProof.Rows L2
open PySem.SeqAt
section
variable {X:Cx}{pins:List (Addr × Obj)}{σ:L2.St}{H:Hp}{s:Shared}{α:List Addr}{M:Sto}
end
end DL
end
section
namespace HT
open PySem PyProof.Rows
section
open PySem.SeqAt
open PySem.AutoSeq1 (wpAny_loadPart')
open PySem.MeetsSeq PySem.MeetsSeq2 PySem.MeetsSeq3
end
section
variable {prog:Program}{w:World}{A:Around}{E:Value->Shared->Prop}{s:Shared}
end
end HT
namespace DL
open PySem PySem.Spec PyProof.Rows L2
section
variable {X:Cx}{ξ:XK}
end
end DL
end
section
namespace DL
open PySem PySem.Spec PyProof.Rows L2
end DL
end
section
namespace DL
open PySem PySem.Spec PyProof.Rows L2
section
variable {X:Cx}{pins:List (Addr × Obj)}{σ:L2.St}{H:Hp}{s:Shared}{a b:Addr}{v:V}{r:Value}{A:Around}{E:Value->Shared->Prop}
end
section
variable {X:Cx}{ξ:XK}{tg iter kx vx:Expr}{ifs:List Expr}{scope:Scope}{cl:List (Str × Addr)}{N:List Str}{k:Nat}{fr:List Nat}{fi:Ro->Sto->Out Src}{gt:Tg}{c:Tv}{fk fv:Ev}{pos:Pos}
end
end DL
end
section
namespace DL
open PySem PySem.Spec PyProof.Rows L2
section
variable {prog:Program}{w:World}{A:Around}{E:Value->Shared->Prop}{s:Shared}{d it:Addr}{od:Obj}{es:Array DictEntry}{ep i n:Nat}
end
section
variable {X:Cx}{pins:List (Addr × Obj)}{σ:L2.St}{H:Hp}{s:Shared}{d:Addr}{o:Obj}{kvs:List (List Key × V)}
end
section
variable {X:Cx}{ξ:XK}{tg a:Expr}{f:Ev}{te:TE}
end
end DL
end
section
namespace DL
open PySem PySem.Spec PyProof.Rows L2
section
variable {X:Cx}{ξ:XK}{e:Expr}{es:List Expr}{fs:Av}{p pos:Pos}{x:Str}
end
section
variable {X:Cx}{ξ:XK}{pos p:Pos}{v:Expr}{keys:List (Option Expr)}{values:List Expr}{k:Str}{f:Ev}{kfs:List (Str × Ev)}{j:Nat}
end
section
variable {X:Cx}{ξ:XK}{tg a:Expr}{f:Ev}{te:TE}
end
end DL
end
section
namespace DL
open PySem PySem.Spec PyProof.Rows L2
section
variable {X:Cx}{ξ:XK}{pins:List (Addr × Obj)}{σ:L2.St}{H:Hp}{s:Shared}{α:List Addr}{M:Sto}
end
end DL
end
section
namespace DL
open PySem PySem.Spec PyProof.Rows L2
section
variable {X:Cx}{ξ:XK}{tg:Expr}{fs:Av}{pos:Pos}
end
end DL
end
namespace DL
open PySem PySem.Spec L2
section
variable {X:Cx}{ξ:XK}{a b c:Expr}{fa fb fc:Ev}{pos:Pos}
end
end DL
section
namespace DL
open PySem PySem.Spec PyProof.Rows L2 PySem.W
section
variable {K:PySem.W.Frag}{H:Hp}{α:List Addr}
end
section
variable {X:Cx}{ξ:XK}{pos:Pos}
variable {o e:Expr}{fo fa:Ev}{apos cpos:Pos}
end
end DL
end
section
namespace PySem.SeqAt
open MeetsSeq MeetsSeq2 MeetsSeq3 SeqRoads2
end PySem.SeqAt
namespace DL
open PySem PySem.Spec PyProof.Rows L2 PySem.W
section
variable {X:Cx}{ξ:XK}{o e:Expr}{fo fa:Ev}{apos cpos:Pos}
end
end DL
end
section
namespace ST
open PySem PyProof.Rows
noncomputable abbrev lt (a b:List Int):Bool:=HT.ZiV a b
noncomputable def le (a b:List Int):Prop:=lt b a=false
variable (kf:Keyed->List Int)
noncomputable def ky (xs:Array Keyed)(i:Nat):List Int:=match xs[i]? with | some p=>kf p | none=>[]
noncomputable def Dn (xs:Array Keyed)(n:Nat):Prop:= ∀ i j,i<=j->j < n->le (ky kf xs j) (ky kf xs i)
variable {kf}
section
variable {prog:Program}{w:World}{A:Around}{E:Value->Shared->Prop}{s:Shared}{B:SortSt->Prop}{N:Nat}
end
end ST
end
section
namespace ST
end ST
namespace DL
open PySem PySem.Spec PyProof.Rows L2 PySem.W
section
variable {X:Cx}{ξ:XK}
end
end DL
end
section
namespace DL
open PySem PySem.Spec PyProof.Rows L2
section
variable {X:Cx}{ξ:XK}{o e e2:Expr}{fo fa fb:Ev}{apos cpos:Pos}
theorem Reps.tk {K:PySem.W.Frag}{H:Hp}{α:List Addr}: ∀ {vs:List V} {ds:List D} (i:Nat),Reps K H α vs ds->Reps K H α (vs.take i) (ds.take i)
 |_,_,0,_=> .nil
 |_,_,_ + 1,.nil=> .nil
 |_,_,i + 1,.cons r t=> .cons r (Reps.tk i t)
end
end DL
end
section
namespace DL
open PySem PySem.Spec PyProof.Rows L2
section
variable {X:Cx}{ξ:XK}
end
end DL
end
section
namespace DL
open PySem PySem.Spec L2
section
variable {X:Cx}{ξ:XK}{e:Expr}{f:Ev}{pos:Pos}
end
end DL
end
section
namespace DQ
open PySem PySem.Spec PyProof.Rows
section
variable {prog:Program}{w:World}{A:Around}{E:Value->Shared->Prop}{s:Shared}
theorem ZhC {it:Addr}{x:Str}{t:Tok}{i:Nat}{Q:Option Value->Shared->Prop}(q:Zag A s.heap)(hit:s.heap.IsStrIter it "str_ascii_iterator" x t i)(hx:x.cps[i]?=none)
  (hQ: ∀ h',Heap.ExtBut it s.heap h'->Q none { s with heap:=h' }):wpAny (model prog w) A (pyNext (.ref it)) Q E s:=by
 obtain ⟨o,ho,hc,hd⟩:=id hit
 refine Zc5 hit.typeIs F.slot_str_ascii_iterator_next F.entry_str_ascii_iterator_next (F.args_str_ascii_iterator_next_1 _) ?_ hQ
 refine wpAny_bind (m:=field (.ref it) 0) (wpAny_field ho hd (x:= .str x t) rfl ?_)
 refine wpAny_bind (m:=field (.ref it) 1) (wpAny_field ho hd (x:= .int i 0) rfl ?_)
 simp only[Int.toNat_natCast,hx];refine wpAny_bind (wpAny_rule (wpAny_bind (wpAny_setField ho hd (by simp) (wpAny_bind (wpAny_letGo ?_)))))
 have q2:Zag A.in1 (s.heap.update it (Obj.mapFields (·.setIfInBounds 0 Value.none))):=by
  rcases q with q | ⟨ea,oe,vs,e1,e2,e3,e4⟩
  ·exact .inl q
  ·refine .inr ⟨ea,oe,vs,e1,?_,e3,e4⟩
   rw[Heap.get?_update_other _ _ (fun z=> ?_)]
   ·exact e2
   ·rw[<- z,ho] at e2
    cases e2
    rw[hd] at e3;cases e3
    simp at e4
 refine Zar q2 fun h' e k ho=>⟨e,rfl,ho,h',fun b o hb z=>k b o ?_,rfl⟩
 rw[Heap.get?_update_other _ _ (Ne.symm hb)]
 exact z
end
end DQ
namespace DL
open PySem PySem.Spec PyProof.Rows L2
noncomputable def Itx (x:Str):It:=⟨fun i _=>i < x.cps.size,fun i H v H'=>H'=H/\ ∃ c,x.cps[i]?=some c/\v= .str ⟨#[c]⟩,fun i _=>x.cps.size<=i⟩
theorem Zf6 {P:Program}{w:World}{K:PySem.W.Frag}{B:Around}{tg:Expr}(x:Str)(t:Tok)(it:Addr):Turn P w K B tg (Itx x) [it] it (fun i h=>h.IsStrIter it "str_ascii_iterator" x t i) where
 mem:=by simp
 obj:=fun i h st b hb=>by
  have e:b=it:=by simpa using hb
  subst e;obtain ⟨o,e,c,d⟩:=st
  exact ⟨o,e,fun v z=>by rw[d] at z;cases z⟩
 keep:=fun i h h' st k=>let ⟨o,e,r⟩:=st;⟨o,k it (by simp) o e,r⟩
 item:=by
  intro X hP hw hK hB i pins s σ H E I hf st hg;subst hP hw hK;obtain ⟨f0,f1,f2,f3,f4,f5⟩:=hf it (by simp)
  have hi:x.cps[i]?=some x.cps[i]:=Array.getElem?_eq_getElem hg
  refine wpAny_pyNext_ascii_item st hi fun h' st' sb=> ?_
  have I1:Inv X pins σ H { s with heap:=h',toks:=s.toks + 1 }:=I.turned (fun b o hb e=>(sb.2 b hb).trans e) f0 f1 f3 f4 f5
  obtain ⟨o,e,c,d⟩:=id st'
  exact ⟨_,rfl,ZfK (s:={ s with heap:=h',toks:=s.toks + 1 }) e c d (by decide) ⟨.str ⟨#[x.cps[i]]⟩,H,I1,⟨_,rfl⟩,⟨rfl,_,hi,rfl⟩,st',fun b hb=>(hf b hb).1⟩⟩
 done:=by
  intro X hP hw hK hB i pins s σ H E I hf st hg;subst hP hw hK;obtain ⟨f0,f1,f2,f3,f4,f5⟩:=hf it (by simp)
  exact DQ.ZhC I.qh st (by simp[show x.cps.size<=i from hg]) fun h' eb=>⟨rfl,I.turned (t':=s.toks) (fun b o hb e=>eb b o hb e) f0 f1 f3 f4 f5⟩
 self:=fun _ _ _ _ _ st h=>wpAny_pyIter_striter_ascii st h
section
variable {X:Cx}{ξ:XK}{tg o a b e:Expr}{es:List Expr}{f fo fa fb:Ev}{fs:Av}{name:Str}{p pos apos cpos:Pos}{id:String}{r:V->List V->Hp->VK->Prop}{g:Me}
noncomputable def asc (x:Str):Bool:=x.cps.all (· < 128)
noncomputable def Zo9 (tl:TE):TI:=fun σ H R=>tl σ H fun v H1=> ∃ x,v= .str x/\asc x=true/\R (Itx x) H1
theorem ZjE {l:Expr}{tl:TE}(hl:PE X l tl):PI X tg l (Zo9 tl):=by
 intro pins s σ H R I h;refine thn (hl pins s σ H _ I h) fun v s1 ⟨x,H1,I1,r1,q1⟩=> ?_
 obtain ⟨x,rfl,hx,q⟩:=q1
 obtain ⟨t,rfl⟩:=r1
 have fp: ∀ b∈[s1.heap.objs.size],ZcI X pins H1 b:=fun b hb=>by
  have e:b=s1.heap.objs.size:=by simpa using hb
  subst e;exact I1.fpOk (Nat.le_refl _) (I1.hok.fresh (Nat.le_refl _))
 refine wpAny_pyIter_ascii hx ?_
 exact ⟨s1.heap.objs.size,[s1.heap.objs.size],_,_,H1,rfl,I1.kept (t':=s1.toks) fun b o e=>Heap.get?_push_of_some _ e,Zf6 x t _,⟨_,Heap.get?_push_size _ rfl,rfl,rfl⟩,fp,q⟩
noncomputable def sgs (x:Str):List D:=x.cps.toList.map fun c=> .str ⟨#[c]⟩
noncomputable def iTx (f:Ev):Ro->Sto->Out Src:=fun ρ M=>(f ρ M).bind fun d M1=>match d with
 | .str x=>if asc x=true then .ok (.pur (sgs x)) M1 else .bad
 |_=> .bad
theorem ZjF (ha:DE X ξ a f):DI X ξ tg a (iTx f):=by
 obtain ⟨ta,pa,qa⟩:=ha
 refine ⟨_,ZjE pa,fun σ ρ H α M R s hh q=>qa σ ρ H α M _ s hh (OG.seq q fun d M1 v H1 α1 e1 h1 r1 w1=> ?_)⟩
 cases r1 with
 |str x=>
  by_cases c:asc x=true
  ·simp only[if_pos c] at w1
   refine ⟨x,rfl,c,w1 (Itx x) H1 α1 Ext.refl h1 ?_⟩
   intro i H' α' M' ex hr;show match some (sgs x)[i]? with | some none=>_ | some (some d)=>_ | none=>True
   unfold sgs;rw[List.getElem?_map,Array.getElem?_toList]
   cases ei:x.cps[i]? with
   |none=>exact Array.getElem?_eq_none_iff.mp ei
   |some c=>
    refine ⟨(Array.getElem?_eq_some_iff.mp ei).1,fun v H'' y=> ?_⟩
    obtain ⟨rfl,c',e1,rfl⟩:=y
    rw[ei] at e1;cases e1
    exact ⟨Ext.refl,hr,.str _⟩
  ·simp only[if_neg c] at w1
   exact w1.elim
 |_=>exact w1.elim
noncomputable def ZfD (g:Me)(fo:Ev)(fs:Av):Ev:=fun ρ M=>(fo ρ M).bind fun x M1=>match x with | .str y=>(fs ρ M1).bind fun ds M2=>g (.str y) ds M2 | _=> .bad
theorem Zbt (slot:Slot "str" name id)(hty:typeOf (.builtin id)=pure (.type "method_descriptor"))(hm:MtR X id r)(hf:MO X ξ r g)(ho:DE X ξ o fo)(ha:DA X ξ (e :: es) fs)
  (hbase:attributeBase o name X.env (eval o X.env)=eval o X.env:=by rfl)
  (hfew:((backTo cpos (starEach (e :: es) X.env)).all (fun x=> !x.1) && (backToKw cpos (keywordEach [] X.env)).all (fun x=>x.1.isSome)
   && decide ((e :: es).length + ([]:List Keyword).length + (if ([]:List Keyword).isEmpty then 0 else 1) < 30))=true:=by rfl)
  (hline:(apos.endLine == cpos.line)=true:=by rfl) (hs:starEach (e :: es) X.env=(false,eval e X.env) :: starEach es X.env:=by rfl) (hplain:(backTo cpos (starEach es X.env)).any (·.1)=false:=by rfl):
  DE X ξ (.Call (.Attribute o name apos) (e :: es) [] cpos) (ZfD g fo fs):=by
 obtain ⟨to,po,qo⟩:=ho
 obtain ⟨ta,pa,qa⟩:=ha
 refine ⟨_,ZiY PySem.F.plainAttrs_str slot hty hm po pa hbase hfew hline hs hplain,fun σ ρ H α M Q s h q=> ?_⟩
 refine qo σ ρ H α M _ s h (OG.seq q fun x M1 v H1 α1 e1 h1 r1 q1=> ?_)
 cases r1 with
 |str y=>exact ⟨rfl,qa σ ρ H1 α1 M1 _ (s.mono e1) h1 (OG.seq q1 fun ds M2 vs H2 α2 e2 h2 r2 q2=>hf H2 α2 M2 _ vs _ ds Q h2 (.str y) r2 q2)⟩
 |_=>exact q1.elim
noncomputable def mStw:Me:=fun x ds M=>match x,ds with | .str y,[.str z]=> .ok (.bl (Txt.startswith y z)) M | _,_=> .bad
theorem ZjG:MtM X "str.startswith" (fun x vs H Q=> ∃ y z,x= .str y/\vs=[.str z]/\Q (.bl (Txt.startswith y z)) H):=by
 intro pins s σ H x vs v us Q I rx rv h;obtain ⟨y,z,rfl,rfl,q⟩:=h
 obtain ⟨t,rfl⟩:=rx
 obtain ⟨u,rfl,t',rfl⟩:=ZaS rv
 exact SC.startswith ⟨.bl _,H,I,rfl,q⟩
theorem ZjH:MO X ξ (fun x vs H Q=> ∃ y z,x= .str y/\vs=[.str z]/\Q (.bl (Txt.startswith y z)) H) mStw:=by
 intro H α M v vs x ds Q h rx rs q;unfold mStw at q
 split at q
 ·cases rx
  cases rs with | cons ru rt=>cases rt;cases ru;exact ⟨_,_,rfl,rfl,q _ H α Ext.refl h (.bl _)⟩
 ·exact q.elim
theorem ZeW {xs:List V}{its:List Value}(r:ZB xs its): ∀ {ys:List Str},xs=ys.map V.str-> ∃ l:List (Str × Tok),its=strValues l/\l.map (·.1)=ys:=by
 induction r with
 |nil=>intro ys e;cases ys with | nil=>exact ⟨[],rfl,rfl⟩ | cons _ _=>cases e
 |cons r1 _ ih=>
  intro ys e;cases ys with
  |nil=>cases e
  |cons y ys=>
   cases e
   obtain ⟨t,rfl⟩:=r1
   obtain ⟨l,rfl,h2⟩:=ih rfl
   exact ⟨(y,t) :: l,rfl,by rw[List.map_cons,h2]⟩
theorem Zcx: ∀ (l:List (Str × Tok)),ZB ((l.map (·.1)).map V.str) (strValues l)
 | []=> .nil
 | (y,t) :: l=> .cons ⟨t,rfl⟩ (Zcx l)
noncomputable def txs:List D->Option (List Str)
 | []=>some []
 | .str y :: r=>match txs r with | some ys=>some (y :: ys) | none=>none
 |_ :: _=>none
theorem ZgG {K:PySem.W.Frag}{H:Hp}{α:List Addr}: ∀ {vs:List V} {ds:List D} {ys:List Str},Reps K H α vs ds->txs ds=some ys->vs=ys.map V.str
 |_,_,_,.nil,e=>by cases e;rfl
 |_,_,ys,.cons (v:=v) (d:=d) (ds:=ds) r t,e=>by
  cases r with
  |str y=>
   cases e1:txs ds with
   |none=>simp only[txs,e1] at e;cases e
   |some zs=>
    simp only[txs,e1] at e;cases e
    rw[ZgG t e1];rfl
  |_=>cases e
noncomputable def rJoin:V->List V->Hp->VK->Prop:=fun x vs H Q=> ∃ y l ys,x= .str y/\vs=[.ref l]/\H l=some (.lst (ys.map V.str))/\JoinOk y ys=true/\Q (.str (Txt.join y ys)) H
theorem ZbT:MtM X "str.join" rJoin:=by
 intro pins s σ H x vs v us Q I rx rv h;obtain ⟨y,l,ys,rfl,rfl,hH,hj,q⟩:=h
 obtain ⟨t,rfl⟩:=rx
 obtain ⟨u,rfl,ru⟩:=ZaS rv
 cases ru
 obtain ⟨z,its,n,r,hl,e⟩:=I.lstM hH
 obtain ⟨l',rfl,h2⟩:=ZeW r rfl
 exact SC.join (l:=l') ⟨_,e,rfl,_,rfl⟩ h2 hj fun t' k=>⟨.str _,H,I.tok _,⟨_,rfl⟩,q⟩
noncomputable def mJn:Me:=fun x ds M=>match x,ds with
 | .str y,[.ref n]=>(match M[n]? with | some (.lst xs)=>(match txs xs with | some ys=>if JoinOk y ys=true then .ok (.str (Txt.join y ys)) M else .bad | none=> .bad) | none=> .bad)
 |_,_=> .bad
theorem ZbU:MO X ξ rJoin mJn:=by
 intro H α M v vs x ds Q h rx rs q;unfold mJn at q
 split at q
 ·rename_i y n
  cases rx
  cases rs with
  |cons ru rt=>
   cases rt
   cases ru with
   |ref hp=>
    cases em:M[n]? with
    |none=>simp only[em] at q;exact q.elim
    |some so=>
     cases so with
     |lst ds=>
      obtain ⟨xs,g1,g2⟩:=h.at hp em
      cases et:txs ds with
      |none=>simp only[em,et] at q;exact q.elim
      |some ys=>
       by_cases c:JoinOk y ys=true
       ·simp only[em,et,if_pos c] at q
        rw[ZgG g2 et] at g1;exact ⟨y,_,ys,rfl,rfl,g1,c,q _ H α Ext.refl h (.str _)⟩
       ·simp only[em,et,if_neg c] at q
        exact q.elim
 ·exact q.elim
end
end DL
end
section
namespace SX
open PySem PySem.Builtin.Str DL
noncomputable def ZcK (c:Nat):List Nat->Nat->List Nat
 | [],_=>[]
 |x :: r,k=>if x=c then k :: ZcK c r (k + 1) else ZcK c r (k + 1)
theorem Zcy (c x:Nat)(r:List Nat)(k:Nat):ZcK c (x :: r) k=if x=c then k :: ZcK c r (k + 1) else ZcK c r (k + 1):=rfl
theorem ZbV (c:Nat): ∀ (l:List Nat) (k:Nat),(ZcK c l k).length<=l.length
 | [],_=>Nat.le_refl _
 |x :: r,k=>by
  rw[Zcy]
  have:=ZbV c r (k + 1)
  split<;>simp<;>omega
noncomputable def stp (s:Str)(c L:Nat)(b:Array Nat × Nat)(a:Nat):Array Nat × Nat:=if (decide (b.1.size < L) && decide (b.2<=a) && decide (a + 1<=s.length) && subAt s ⟨#[c]⟩ a)=true then (b.1.push a,a + 1) else (b.1,b.2)
theorem Zcz (s:Str)(c L:Nat): ∀ (m i:Nat) (fd:Array Nat) (fr:Nat),i + m=s.cps.toList.length + 1->fr<=i->
  (List.foldl (stp s c L) (fd,fr) (List.range' i m)).1.toList=fd.toList ++ (ZcK c (s.cps.toList.drop i) i).take (L - fd.size)
 |0,i,fd,fr,h,_=>by
  rw[List.drop_eq_nil_of_le (by omega)]
  simp[ZcK]
 |m + 1,i,fd,fr,h,hf=>by
  rw[List.range'_succ,List.foldl_cons];have hl:s.length=s.cps.toList.length:=by simp[Str.length]
  have no: ∀ (q:(decide (fd.size < L) && decide (fr<=i) && decide (i + 1<=s.length) && subAt s ⟨#[c]⟩ i)=false),stp s c L (fd,fr) i=(fd,fr):=fun q=>by unfold stp;rw[if_neg (by rw[q];decide)]
  by_cases hi:i < s.cps.toList.length
  ·have e:s.cps.toList.drop i=s.cps.toList[i] :: s.cps.toList.drop (i + 1):=List.drop_eq_getElem_cons hi
   have hs:subAt s ⟨#[c]⟩ i=decide (s.cps.toList[i]=c):=by
    unfold subAt;rw[show (⟨#[c]⟩:Str).length=1 from rfl];have e2:s.cps.extract i (i + 1)= #[s.cps.toList[i]]:=by
     apply Array.toList_inj.mp
     rw[Array.toList_extract,List.extract_eq_drop_take];rw[e]
     simp
    rw[e2]
    by_cases q:s.cps.toList[i]=c
    ·rw[q];simp
    ·rw[decide_eq_false q];apply beq_eq_false_iff_ne.mpr;intro z;injection z with z;injection z with z _;exact q z
   rw[e,Zcy]
   by_cases q:s.cps.toList[i]=c
   ·by_cases hL:fd.size < L
    ·have y:stp s c L (fd,fr) i=(fd.push i,i + 1):=by
      unfold stp;rw[hs,if_pos (by rw[decide_eq_true hL,decide_eq_true hf,decide_eq_true (show i + 1<=s.length by omega),decide_eq_true q];rfl)]
     rw[y,Zcz s c L m (i + 1) _ _ (by omega) (Nat.le_refl _)]
     rw[if_pos q,show L - fd.size=(L - (fd.push i).size) + 1 by rw[Array.size_push];omega,List.take_succ_cons]
     simp
    ·rw[no (by rw[decide_eq_false hL];rfl)]
     rw[Zcz s c L m (i + 1) _ _ (by omega) (by omega),show L - fd.size=0 by omega]
     simp
   ·rw[no (by rw[hs,decide_eq_false q,Bool.and_false])]
    rw[Zcz s c L m (i + 1) _ _ (by omega) (by omega),if_neg q]
  ·rw[no (by rw[decide_eq_false (show ¬ i + 1<=s.length by omega),Bool.and_false,Bool.false_and])]
   rw[Zcz s c L m (i + 1) _ _ (by omega) (by omega),List.drop_eq_nil_of_le (by omega),List.drop_eq_nil_of_le (by omega)]
   rfl
theorem occ (s:Str)(c L:Nat):occurrences s ⟨#[c]⟩ 0 s.length L=(ZcK c s.cps.toList 0).take L:=by
 have:=Zcz s c L (s.cps.toList.length + 1) 0 #[] 0 (by omega) (Nat.le_refl _)
 unfold occurrences;dsimp only;rw[Std.Legacy.Range.forIn_eq_forIn_range'];have hz:[0:s.length + 1].size=s.cps.toList.length + 1:=by simp[Std.Legacy.Range.size,Str.length]
 rw[hz];simp only[List.drop_zero,Array.toList_empty,List.nil_append,Array.size_empty,Nat.sub_zero] at this;rw[<- this];have q: ∀ (i:Nat) (t:Array Nat × Nat),(if (decide (t.1.size < L) && decide (t.2<=i) && decide (i + (⟨#[c]⟩:Str).length<=s.length) && subAt s ⟨#[c]⟩ i)=true then (pure (ForInStep.yield (t.1.push i,i + (⟨#[c]⟩:Str).length)):Id _) else pure (ForInStep.yield (t.1,t.2)))
   =pure (ForInStep.yield (stp s c L t i)):=fun i t=>by unfold stp;rw[show (⟨#[c]⟩:Str).length=1 from rfl];split<;>rfl
 simp only[q,List.forIn_pure_yield_eq_foldl];rfl
noncomputable def spl (c:Nat):List Nat->List (List Nat)
 | []=>[[]]
 |x :: r=>if x=c then [] :: spl c r else match spl c r with | a :: t=>(x :: a) :: t | []=>[[x]]
theorem ZdM (c x:Nat)(r:List Nat):spl c (x :: r)=if x=c then [] :: spl c r else match spl c r with | a :: t=>(x :: a) :: t | []=>[[x]]:=rfl
theorem ZeX (c:Nat): ∀ l,spl c l≠[]
 | []=>by simp[spl]
 |x :: r=>by
  rw[ZdM]
  split
  ·simp
  ·cases e:spl c r with | nil=>simp | cons a t=>simp
noncomputable def pb (f:Nat->Nat->Str)(n:Nat):Nat->List Nat->List Str
 |a,[]=>[f a n]
 |a,i :: r=>f a i :: pb f n (i + 1) r
theorem ZgH (f:Nat->Nat->Str)(n:Nat): ∀ (a:Nat) (cs:List Nat),((a :: cs.map (· + 1)).zip (cs ++ [n])).map (fun x=>f x.1 x.2)=pb f n a cs
 |a,[]=>rfl
 |a,i :: r=>by
  have:=ZgH f n (i + 1) r
  simp only[List.map_cons,List.cons_append,List.zip_cons_cons,pb];rw[<- this]
theorem ZeY (s:Str)(c:Nat): ∀ (l mid:List Nat) (a k:Nat),a + mid.length=k->s.cps.toList.drop a=mid ++ l->a<=s.cps.toList.length->
  pb (strSub s) s.length a (ZcK c l k)=(match spl c l with | x :: t=>(⟨(mid ++ x).toArray⟩:Str) :: t.map (fun y=>⟨y.toArray⟩) | []=>[])
 | [],mid,a,k,h,e,ha=>by
  show [strSub s a s.length]=[(⟨(mid ++ []).toArray⟩:Str)]
  have hl:s.length=s.cps.toList.length:=by simp[Str.length]
  rw[List.append_nil] at e;simp only[List.append_nil,List.map_nil,List.cons.injEq,and_true];unfold strSub
  congr 1
  apply Array.toList_inj.mp
  rw[Array.toList_extract,List.extract_eq_drop_take,e,hl];exact List.take_of_length_le (by rw[<- e,List.length_drop];exact Nat.le_refl _)
 |x :: r,mid,a,k,h,e,ha=>by
  have hk:k < s.cps.toList.length:=by
   have:=congrArg List.length e
   rw[List.length_drop,List.length_append,List.length_cons] at this;omega
  by_cases q:x=c
  ·have e2:s.cps.toList.drop (k + 1)=[] ++ r:=by
    have:=congrArg (List.drop (mid.length + 1)) e
    rw[List.drop_drop,List.drop_append,List.drop_eq_nil_of_le (Nat.le_succ _),show mid.length + 1 - mid.length=1 by omega] at this
    rw[<- h,Nat.add_assoc];exact this
   have ih:=ZeY s c r [] (k + 1) (k + 1) rfl e2 (by omega)
   rw[Zcy,ZdM,if_pos q,if_pos q];show strSub s a k :: pb (strSub s) s.length (k + 1) (ZcK c r (k + 1))=_
   rw[ih];simp only[List.append_nil]
   congr 1
   ·unfold strSub
    congr 1
    apply Array.toList_inj.mp
    rw[Array.toList_extract,List.extract_eq_drop_take,e,show k - a=mid.length by omega,List.take_left]
   ·cases e3:spl c r with
    |nil=>exact absurd e3 (ZeX c r)
    |cons y t=>rfl
  ·have ih:=ZeY s c r (mid ++ [x]) a (k + 1) (by rw[List.length_append];simp;omega) (by rw[e];simp) ha
   rw[Zcy,ZdM,if_neg q,if_neg q,ih];cases e3:spl c r with
   |nil=>exact absurd e3 (ZeX c r)
   |cons y t=>simp
theorem Zf7 (s:Str)(c:Nat)(hc:c < 256):Txt.split s ⟨#[c]⟩=(spl c s.cps.toList).map fun l=>(⟨l.toArray⟩:Str):=by
 have hl:s.length=s.cps.toList.length:=by simp[Str.length]
 have key:partsBetween s (ZcK c s.cps.toList 0) 1=(spl c s.cps.toList).map fun l=>(⟨l.toArray⟩:Str):=by
  have h:=ZeY s c s.cps.toList [] 0 0 rfl rfl (Nat.zero_le _)
  rw[<- ZgH] at h;unfold partsBetween;refine Eq.trans ?_ (h.trans ?_)
  ·rfl
  ·cases e3:spl c s.cps.toList with
   |nil=>exact absurd e3 (ZeX c _)
   |cons y t=>rfl
 have whole:ZcK c s.cps.toList 0=[]->[s]=(spl c s.cps.toList).map fun l=>(⟨l.toArray⟩:Str):=fun e=>by
  rw[<- key,e];unfold partsBetween;simp only[List.map_nil,List.nil_append,List.zip_cons_cons,List.zip_nil_right,List.map_cons,List.cons.injEq,and_true];unfold strSub;cases s with
  |mk a=>congr 1;apply Array.toList_inj.mp;simp[Str.length]
 have k1:Builtin.Str.strKind (⟨#[c]⟩:Str)=1:=by
  unfold Builtin.Str.strKind;rw[if_pos (by simp[hc])]
 have k2:decide (Builtin.Str.strKind s < Builtin.Str.strKind (⟨#[c]⟩:Str))=false:=by
  rw[k1]
  apply decide_eq_false
  unfold Builtin.Str.strKind
  split<;>(try split)<;>omega
 have o:occurrences s ⟨#[c]⟩ 0 s.length (s.length + 1)=ZcK c s.cps.toList 0:=by
  rw[occ,List.take_of_length_le]
  have:=ZbV c s.cps.toList 0
  omega
 unfold Txt.split;rw[k2,Bool.or_false,o,show (⟨#[c]⟩:Str).length=1 from rfl]
 split
 ·rename_i h
  have h:s.length < 1:=of_decide_eq_true h
  refine whole ?_
  have:s.cps.toList=[]:=List.eq_nil_of_length_eq_zero (by omega)
  rw[this];rfl
 ·split
  ·rename_i h
   exact whole (List.isEmpty_iff.mp h)
  ·exact key
theorem Zl2 (s:Str)(c:Nat):(!(occurrences s ⟨#[c]⟩ 0 s.length 1).isEmpty)=s.cps.toList.contains c:=by
 rw[occ]
 have: ∀ (l:List Nat) (k:Nat),(!((ZcK c l k).take 1).isEmpty)=l.contains c:=by
  intro l
  induction l with
  |nil=>intro k;rfl
  |cons x r ih=>
   intro k;rw[Zcy]
   by_cases q:x=c
   ·rw[if_pos q,q];simp
   ·rw[if_neg q,ih,List.contains_cons]
    have:(c == x)=false:=beq_eq_false_iff_ne.mpr (Ne.symm q)
    rw[this];rfl
 exact this _ 0
noncomputable def jn (c:Nat):List (List Nat)->List Nat
 | []=>[]
 | [a]=>a
 |a :: r=>a ++ c :: jn c r
theorem ZcW (c:Nat): ∀ (a l:List Nat),c ∉ a->spl c (a ++ c :: l)=a :: spl c l
 | [],l,_=>by show spl c (c :: l)=_;rw[ZdM,if_pos rfl]
 |x :: a,l,h=>by
  have hx:x≠c:=fun e=>h (by rw[e];exact List.mem_cons_self ..)
  show spl c (x :: (a ++ c :: l))=_
  rw[ZdM,if_neg hx,ZcW c a l fun m=>h (List.mem_cons_of_mem _ m)]
theorem Zbi (c:Nat): ∀ (a:List Nat),c ∉ a->spl c a=[a]
 | [],_=>rfl
 |x :: a,h=>by
  have hx:x≠c:=fun e=>h (by rw[e];exact List.mem_cons_self ..)
  rw[ZdM,if_neg hx,Zbi c a fun m=>h (List.mem_cons_of_mem _ m)]
theorem ZgI (c:Nat): ∀ (ls:List (List Nat)),ls≠[]->(∀ a∈ls,c ∉ a)->spl c (jn c ls)=ls
 | [],h,_=>absurd rfl h
 | [a],_,h=>Zbi c a (h a (List.mem_cons_self ..))
 |a :: b :: r,_,h=>by
  show spl c (a ++ c :: jn c (b :: r))=_
  rw[ZcW c a _ (h a (List.mem_cons_self ..)),ZgI c (b :: r) (by simp) fun x m=>h x (List.mem_cons_of_mem _ m)]
theorem ZeZ (c:Nat)(ys:List Str):(Txt.join ⟨#[c]⟩ ys).cps.toList=jn c (ys.map (·.cps.toList)):=by
 have go: ∀ (l:List Str) (acc:Array Nat),(l.foldl (fun acc p=>acc ++ #[c] ++ p.cps) acc).toList=acc.toList ++ l.flatMap fun p=>c :: p.cps.toList:=by
  intro l
  induction l with
  |nil=>intro acc;simp
  |cons a r ih=>intro acc;rw[List.foldl_cons,ih];simp
 have e: ∀ (a:List Nat) (l:List Str),jn c (a :: l.map (·.cps.toList))=a ++ l.flatMap fun p=>c :: p.cps.toList:=by
  intro a l
  induction l generalizing a with
  |nil=>simp[jn]
  |cons b r ih=>
   rw[List.map_cons];show a ++ c :: jn c (b.cps.toList :: r.map (·.cps.toList))=_
   rw[ih]
   simp
 cases ys with
 |nil=>rfl
 |cons a r=>
  show Array.toList (List.foldl (fun acc p=>acc ++ #[c] ++ p.cps) a.cps r)=_
  rw[go,List.map_cons,e]
end SX
end
section
namespace DL
open PySem PySem.Spec PyProof.Rows L2 SX
section
variable {X:Cx}{ξ:XK}{tg o a b e:Expr}{es:List Expr}{f fo fa fb:Ev}{fs:Av}{name:Str}{p pos apos cpos:Pos}
noncomputable def mSpl:Me:=fun x ds M=>match x,ds with
 | .str y,[.str z]=>(match z.cps.toList with | [c]=>if c < 128/\y.length<=100000 then .ok (.ref M.length) (M ++ [.lst ((spl c y.cps.toList).map fun l=> .str ⟨l.toArray⟩)]) else .bad | _=> .bad)
 |_,_=> .bad
noncomputable def rSpl:V->List V->Hp->VK->Prop:=fun x vs H Q=> ∃ y c,x= .str y/\vs=[.str ⟨#[c]⟩]/\c < 128/\y.length<=100000/\ ∀ l,H l=none->Q (.ref l) (upd H l (.lst ((Txt.split y ⟨#[c]⟩).map V.str)))
theorem Zf8 (x:Str)(c:Nat):(Builtin.Str.partsBetween x (Builtin.Str.occurrences x ⟨#[c]⟩ 0 x.length (x.length + 1)) (⟨#[c]⟩:Str).length).length<=x.length + 1:=by
 unfold Builtin.Str.partsBetween;rw[occ];have h1:=ZbV c x.cps.toList 0
 have h2:x.cps.toList.length=x.length:=by simp[Str.length]
 have h3:(List.take (x.length + 1) (ZcK c x.cps.toList 0)).length<=x.length:=by rw[List.length_take];omega
 simp only[List.length_map,List.length_zip,List.length_cons,List.length_append];omega
theorem Zdu:MtM X "str.split" rSpl:=by
 intro pins s σ H x vs v us Q I rx rv h;obtain ⟨y,c,rfl,rfl,hc,hy,q⟩:=h
 obtain ⟨t,rfl⟩:=rx
 obtain ⟨u,rfl,t',rfl⟩:=ZaS rv
 have hz:=sizeLine_eq
 have sz:y.length<=sizeLine:=by rw[hz];omega
 have hn:((⟨#[c]⟩:Str).length == 0)=false:=rfl
 have fin: ∀ (l:List (Str × Tok)) (k:Nat),l.map (·.1)=Txt.split y ⟨#[c]⟩->l.length<=sizeLine->EP X pins σ Q (.ref s.heap.objs.size) { s with heap:=s.heap.push { cls:= .type "list",data:= .seq (strValues l).toArray },toks:=k }:=fun l k e hl=>
  ⟨.ref s.heap.objs.size,_,I.lnew (its:=strValues l) (t':=k) (e ▸ Zcx l) (by rw[List.length_map,<- e,List.length_map];exact hl),rfl,q _ I.fresh⟩
 cases h1:(decide (y.length < (⟨#[c]⟩:Str).length) || decide (Builtin.Str.strKind y < Builtin.Str.strKind ⟨#[c]⟩))
 ·cases hf:(Builtin.Str.occurrences y ⟨#[c]⟩ 0 y.length (y.length + 1)).isEmpty
  ·have hp:(Builtin.Str.partsBetween y (Builtin.Str.occurrences y ⟨#[c]⟩ 0 y.length (y.length + 1)) (⟨#[c]⟩:Str).length).length<=sizeLine:=Nat.le_trans (Zf8 y c) (by rw[hz];omega)
   refine call_meets F.slot_str_split (typeIs_str _ _ _) F.entry_str_split (F.args_str_split_2 _ _) (meets_str_split_sep y ⟨#[c]⟩ t t' h1 hn hf sz hp) ?_
   show wants _ _ _ { s with toks:=_,heap:=s.heap.push { cls:= .type "list",data:= .seq (strsFrom s.toks (Builtin.Str.partsBetween y (Builtin.Str.occurrences y ⟨#[c]⟩ 0 y.length (y.length + 1)) (⟨#[c]⟩:Str).length)).toArray } }
   rw[strsFrom_eq];exact fin (numbered s.toks _) _ ((numbered_texts _ _).trans ((if_neg (ne_true_of_eq_false h1)).trans (if_neg (ne_true_of_eq_false hf))).symm) (by
    have:=congrArg List.length (numbered_texts s.toks (Builtin.Str.partsBetween y (Builtin.Str.occurrences y ⟨#[c]⟩ 0 y.length (y.length + 1)) (⟨#[c]⟩:Str).length))
    rw[List.length_map] at this
    omega)
  ·exact call_meets F.slot_str_split (typeIs_str _ _ _) F.entry_str_split (F.args_str_split_2 _ _) (meets_str_split_not_found y ⟨#[c]⟩ t t' h1 hn hf) (fin [(y,t)] s.toks ((if_neg (ne_true_of_eq_false h1)).trans (if_pos hf)).symm (by rw[hz];exact (by decide:1<=16777216)))
 ·exact call_meets F.slot_str_split (typeIs_str _ _ _) F.entry_str_split (F.args_str_split_2 _ _) (meets_str_split_cannot_occur y ⟨#[c]⟩ t t' h1) (fin [(y,t)] s.toks (if_pos h1).symm (by rw[hz];exact (by decide:1<=16777216)))
theorem Reps.strs {K:PySem.W.Frag}{H:Hp}{α:List Addr}: ∀ ys:List Str,Reps K H α (ys.map V.str) (ys.map D.str)
 | []=> .nil
 |y :: ys=> .cons (.str y) (Reps.strs ys)
theorem ZgJ:MO X ξ rSpl mSpl:=by
 intro H α M v vs x ds Q h rx rs q;unfold mSpl at q
 split at q
 ·rename_i y z
  cases rx
  cases rs with
  |cons ru rt=>
   cases rt
   cases ru
   split at q
   ·rename_i c ez
    by_cases cc:c < 128/\y.length<=100000
    ·rw[if_pos cc] at q
     have e:z=⟨#[c]⟩:=by
      cases z with
      |mk zz=>congr 1;exact Array.toList_inj.mp ez
     subst e;refine ⟨y,c,rfl,rfl,cc.1,cc.2,fun l hl=> ?_⟩
     rw[Zf7 y c (by omega)]
     refine q _ _ (α ++ [l]) (Ext.new hl) (h.new hl ?_) (.ref ⟨h.last l,Kn.lst Zr⟩)
     have:=Reps.strs (K:=X.K) (H:=H) (α:=α) ((spl c y.cps.toList).map fun l=>(⟨l.toArray⟩:Str))
     rw[List.map_map,List.map_map] at this;rw[List.map_map];exact this
    ·rw[if_neg cc] at q
     exact q.elim
   ·exact q.elim
 ·exact q.elim
noncomputable def bLenT:List D->Sto->Out D:=fun ds M=>match ds with | [.str z]=>if z.length<=100000 then .ok (.int z.length) M else .bad | _=> .bad
theorem Ze0:CO X ξ (fun xs H Q=> ∃ z,xs=[.str z]/\z.length<=sizeLine/\Q (.int z.length) H) bLenT:=by
 intro H α M vs ds Q h rs q;unfold bLenT at q
 split at q
 ·cases rs with
  |cons r t=>
   cases t
   cases r
   split at q
   ·rename_i c;exact ⟨_,rfl,Zex c,q _ H α Ext.refl h (.int _)⟩
   ·exact q.elim
 ·exact q.elim
noncomputable def bStr:List D->Sto->Out D:=fun ds M=>match ds with | [.int i]=>if i.natAbs.log2 < 1900 then .ok (.str (Str.ofString (toString i))) M else .bad | _=> .bad
theorem ZcA:CO X ξ (fun xs H Q=> ∃ i,xs=[.int i]/\i.natAbs.log2 < 1920/\Q (.str (toString i)) H) bStr:=by
 intro H α M vs ds Q h rs q;unfold bStr at q
 split at q
 ·cases rs with
  |cons r t=>
   cases t
   cases r
   split at q
   ·rename_i c;exact ⟨_,rfl,by omega,q _ H α Ext.refl h (.str _)⟩
   ·exact q.elim
 ·exact q.elim
theorem Ze1:Zau X (.type "int") (fun xs H Q=> ∃ z n,xs=[.str z]/\z.length<=640/\intText? z=some n/\Q (.int n) H):=by
 intro pins s σ H xs us Q I r h;obtain ⟨z,n,rfl,hz,hn,q⟩:=h
 obtain ⟨u,rfl,t,rfl⟩:=ZaS r
 exact PySem.W.KIN.call_text hn hz ⟨.int n,H,I.tok _,⟨_,rfl⟩,q⟩
noncomputable def bIntT:List D->Sto->Out D:=fun ds M=>match ds with | [.str z]=>if z.length<=640 then (match intText? z with | some n=> .ok (.int n) M | none=> .bad) else .bad | _=> .bad
theorem ZhD:CO X ξ (fun xs H Q=> ∃ z n,xs=[.str z]/\z.length<=640/\intText? z=some n/\Q (.int n) H) bIntT:=by
 intro H α M vs ds Q h rs q;unfold bIntT at q
 split at q
 ·rename_i z
  cases rs with
  |cons r t=>
   cases t
   cases r
   split at q
   ·rename_i c
    cases e:intText? z with
    |none=>rw[e] at q;exact q.elim
    |some n=>rw[e] at q;exact ⟨_,n,rfl,c,e,q _ H α Ext.refl h (.int _)⟩
   ·exact q.elim
 ·exact q.elim
noncomputable def dInT:Bo:=fun x y M=>match x,y with
 | .str i,.str j=>(match i.cps.toList with | [c]=> .ok (.bl (j.cps.toList.contains c)) M | _=> .bad)
 |_,_=> .bad
theorem ZjI:BO X ξ (fun x y H Q=> ∃ i j,x= .str i/\y= .str j/\Q (.bl (!(Builtin.Str.occurrences j i 0 j.length 1).isEmpty)) H) dInT:=by
 intro H α M v w x y Q h rv rw' q;unfold dInT at q
 split at q
 ·rename_i i j
  cases rv
  cases rw'
  split at q
  ·rename_i c ez
   have e:i=⟨#[c]⟩:=by
    cases i with
    |mk zz=>congr 1;exact Array.toList_inj.mp ez
   subst e;exact ⟨_,j,rfl,rfl,by rw[Zl2];exact q _ H α Ext.refl h (.bl _)⟩
  ·exact q.elim
 ·exact q.elim
noncomputable def Zlv:Bo:=fun x y M=>match x,y with
 | .str z,.int i=>if 0<=i/\i < 100000 then (match z.cps.toList[i.toNat]? with | some c=> .ok (.str ⟨#[c]⟩) M | none=> .bad) else .bad
 |_,_=> .bad
theorem ZjJ (ha:DE X ξ a fa)(hb:DE X ξ b fb)(hs:Zc9 b:=by intro _ _;rfl):DE X ξ (.Subscript a b pos) (DL.e2 Zlv fa fb):=by
 obtain ⟨ta,pa,qa⟩:=ha
 obtain ⟨tb,pb,qb⟩:=hb
 refine ⟨_,ZcM pa pb hs,fun σ ρ H α M Q s h q=> ?_⟩
 refine qa σ ρ H α M _ s h (OG.seq q fun x M1 v H1 α1 e1 h1 r1 q1=>qb σ ρ H1 α1 M1 _ (s.mono e1) h1 (OG.seq q1 fun y M2 w H2 α2 e2 h2 r2 q2=> ?_))
 unfold Zlv at q2
 split at q2
 ·rename_i z i
  cases r1
  cases r2
  split at q2
  ·rename_i c
   cases e:z.cps.toList[i.toNat]? with
   |none=>rw[e] at q2;exact q2.elim
   |some d=>
    rw[e] at q2;have el:=(List.getElem?_eq_some_iff.mp e).1
    refine ⟨z,i,d,rfl,rfl,c.1,by omega,?_,by rw[<- Array.getElem?_toList];exact e,q2 _ H2 α2 Ext.refl h2 (.str _)⟩
    have:z.length=z.cps.toList.length:=by simp[Str.length]
    omega
  ·exact q2.elim
 ·exact q2.elim
noncomputable def rSlS:V->Option Int->Option Int->Hp->VK->Prop:=fun x lo hi H Q=> ∃ z,x= .str z/\z.length<=sizeLine/\Q (.str (Txt.slice z lo hi)) H
theorem ZjK:SlR X rSlS:=by
 intro pins s σ H x v vl vu lo hi sl Q I rx hs pl pu h;obtain ⟨z,rfl,hz,q⟩:=h
 obtain ⟨t,rfl⟩:=rx
 refine ⟨"str",_,F.slot_str_getitem.lookup,typeIs_str _ _ _,?_⟩
 have fin: ∀ t' k,EP X pins σ Q (.str (Txt.slice z lo hi) t') { s with toks:=k }:=fun t' k=>⟨.str _,H,I.tok _,⟨_,rfl⟩,q⟩
 cases pl with
 |none=>
  cases pu with
  |none=>exact wpAny_getItem_str_slice (l:=none) (u:=none) (st:=none) hs rfl (post_val_or_str ⟨Nat.le_trans (Txt.slice_le z _ _) hz,fin⟩)
  |int j uj=>exact wpAny_getItem_str_slice (l:=none) (u:=some (j,uj)) (st:=none) hs rfl (post_val_or_str ⟨Nat.le_trans (Txt.slice_le z _ _) hz,fin⟩)
 |int i ui=>
  cases pu with
  |none=>exact wpAny_getItem_str_slice (l:=some (i,ui)) (u:=none) (st:=none) hs rfl (post_val_or_str ⟨Nat.le_trans (Txt.slice_le z _ _) hz,fin⟩)
  |int j uj=>exact wpAny_getItem_str_slice (l:=some (i,ui)) (u:=some (j,uj)) (st:=none) hs rfl (post_val_or_str ⟨Nat.le_trans (Txt.slice_le z _ _) hz,fin⟩)
noncomputable def ZhE (z:Str)(lo hi:Option Int):Str:=⟨((z.cps.toList.drop (lo.getD 0).toNat).take ((hi.getD z.cps.toList.length).toNat - (lo.getD 0).toNat)).toArray⟩
noncomputable def okT (z:Str)(lo hi:Option Int):Prop:=0<=lo.getD 0/\lo.getD 0<=hi.getD z.cps.toList.length/\hi.getD z.cps.toList.length<=z.cps.toList.length
noncomputable instance (z:Str) (lo hi:Option Int):Decidable (okT z lo hi):=by unfold okT;infer_instance
theorem ZhF {z:Str}{lo hi:Option Int}(h:okT z lo hi):Txt.slice z lo hi=ZhE z lo hi:=by
 unfold okT at h;have hl:z.length=z.cps.toList.length:=by simp[Str.length]
 have k: ∀ {i j:Int},0<=i/\i<=j/\j<=z.cps.toList.length->Txt.slice z (some i) (some j)=⟨((z.cps.toList.drop i.toNat).take (j.toNat - i.toNat)).toArray⟩:=fun {i j} q=>by
  rw[eq_of_beq (slice_closes q)]
  congr 3
  omega
 have n0: ∀ u,Txt.slice z none u=Txt.slice z (some 0) u:=fun u=>by unfold Txt.slice;rw[StrLaws.sliceIdx_none_lo]
 have n1: ∀ l,Txt.slice z l none=Txt.slice z l (some (z.length:Int)):=fun l=>by unfold Txt.slice;rw[StrLaws.sliceIdx_none_hi]
 unfold ZhE;cases lo with
 |none=>
  rw[n0];cases hi with
  |none=>rw[n1,hl];exact k h
  |some j=>exact k h
 |some i=>
  cases hi with
  |none=>rw[n1,hl];exact k h
  |some j=>exact k h
noncomputable def Zlw (f:Ev)(lo hi:Ro->Sto->Out (Option Int)):Ev:=fun ρ M=>(f ρ M).bind fun x M1=>(lo ρ M1).bind fun l M2=>(hi ρ M2).bind fun u M3=>match x with
 | .str z=>if z.length<=100000/\okT z l u then .ok (.str (ZhE z l u)) M3 else .bad
 |_=> .bad
theorem ZjL {lo hi:Option Expr}{fl fh:Ro->Sto->Out (Option Int)}{p2:Pos}(he:DE X ξ e fa)(hl:DO X ξ lo fl)(hh:DO X ξ hi fh):DE X ξ (.Subscript e (.Slice lo hi none p2) pos) (Zlw fa fl fh):=by
 obtain ⟨ta,pa,qa⟩:=he
 obtain ⟨tl,pl,ql⟩:=hl
 obtain ⟨th,ph,qh⟩:=hh
 refine ⟨_,ZfO ZjK pa pl ph,fun σ ρ H α M Q s h q=> ?_⟩
 refine qa σ ρ H α M _ s h (OG.seq q fun x M1 v H1 α1 e1 h1 r1 q1=> ?_)
 refine ql σ ρ H1 α1 M1 _ (s.mono e1) h1 (OG.seq q1 fun l M2 l' H2 α2 e2 h2 r2 q2=> ?_)
 refine qh σ ρ H2 α2 M2 _ ((s.mono e1).mono e2) h2 (OG.seq q2 fun u M3 u' H3 α3 e3 h3 r3 q3=> ?_)
 cases r2
 cases r3
 cases r1 with
 |str z=>
  by_cases c:z.length<=100000/\okT z l u
  ·simp only[if_pos c] at q3
   exact ⟨z,rfl,Zex c.1,by rw[ZhF c.2];exact q3 _ H3 α3 Ext.refl h3 (.str _)⟩
  ·simp only[if_neg c] at q3
   exact q3.elim
 |_=>exact q3.elim
end
end DL
end
section
namespace SX
open PySem PySem.NumText
theorem Ze2 {x y:Str}(h:x.cps.toList=y.cps.toList):x=y:=by
 cases x with
 |mk a=>cases y with | mk b=>congr 1;exact Array.toList_inj.mp h
theorem Zaw (x:Str):x.length=x.cps.toList.length:=by simp[Str.length]
theorem ZhG (x y:Str):(x ++ y).cps.toList=x.cps.toList ++ y.cps.toList:=PySem.W.KT.app_list x y
noncomputable def tx (i:Int):Str:=Str.ofString (toString i)
noncomputable def dg (m:Nat):List Nat:=(Nat.toDigits 10 m).map Char.toNat
theorem Ze3 (m:Nat):AllDigits (dg m):=by
 intro c hc;obtain ⟨ch,hch,e⟩:=List.mem_map.mp hc
 rw[<- e];exact PyProof.Rows.digit_range (Nat.isDigit_of_mem_toDigits (by decide) (by decide) hch)
theorem ZjM (m:Nat):dg m≠[]:=by
 intro e;have h:=Nat.length_toDigits_pos (b:=10) (n:=m)
 rw[List.map_eq_nil_iff.mp e] at h;exact absurd h (by decide)
theorem ZjN (m:Nat):digitsVal (dg m)=m:=PySem.W.KIN.val_back m
theorem Zlx (i:Int):(tx i).cps.toList=(if i < 0 then [45] else []) ++ dg i.natAbs:=by
 unfold tx;cases i with
 |ofNat m=>
  rw[if_neg (by simp)]
  exact PySem.W.KIN.signs_num m
 |negSucc m=>
  rw[if_pos (Int.negSucc_lt_zero m)];rw[PyProof.Rows.signs_ofString];show (("-" ++ Nat.repr (m + 1)).toList).map Char.toNat=_
  rw[String.toList_append,List.map_append,Nat.toList_repr];rfl
theorem ZgK {m k:Nat}(hk:0 < k)(h:m < 10 ^ k):(dg m).length<=k:=by
 unfold dg;rw[List.length_map];exact (Nat.length_toDigits_le_iff (by decide) hk).mpr h
theorem ZhH:dg 0=[48]:=by decide
theorem ZhI {m:Nat}(h:m≠0): ∃ c r,dg m=c :: r/\c≠48:=by
 induction m using Nat.strongRecOn with
 |_ m ih=>
  by_cases c:m < 10
  ·refine ⟨(Nat.digitChar m).toNat,[],by unfold dg;rw[Nat.toDigits_of_lt_base c];rfl,?_⟩
   have: ∀ d:Nat,d < 10->d≠0->(Nat.digitChar d).toNat≠48:=by decide
   exact this m c h
  ·obtain ⟨a,r,e,n⟩:=ih (m / 10) (by omega) (by omega)
   have t:Nat.toDigits 10 (m / 10) ++ Nat.toDigits 10 (m % 10)=Nat.toDigits 10 (10 * (m / 10) + m % 10):=Nat.toDigits_append_toDigits (by decide) (by omega) (Nat.mod_lt m (by decide))
   rw[Nat.div_add_mod] at t;refine ⟨a,r ++ dg (m % 10),?_,n⟩
   unfold dg at e ⊢;rw[<- t,List.map_append,e];rfl
theorem Zay {i:Int}(h:i.natAbs < 10 ^ 60):(tx i).length<=61:=by
 rw[Zaw,Zlx,List.length_append]
 have:=ZgK (by decide) h
 split<;>simp<;>omega
theorem Ze4 {i:Int}{c:Nat}(h1:c≠45)(h2: ¬ (48<=c/\c<=57)):c ∉ (tx i).cps.toList:=by
 rw[Zlx];intro m
 rcases List.mem_append.mp m with m | m
 ·split at m
  ·simp at m;exact h1 m
  ·cases m
 ·exact h2 (Ze3 _ c m)
end SX
end
section
namespace DQ
open PySem PySem.Spec PyProof.Rows
open Builtin Builtin.ObjectAttr
open PySem.W (Looks findIn mroIn specialIn takesIn clsIn looks_findIn looks_mroIn looks_find findObj handedIn hasDictIn lookIn)
section
variable {prog:Program}{w:World}{A:Around}{E:Value->Shared->Prop}{s:Shared}{K:PySem.W.Frag}{e C:Addr}{oe:Obj}{od:Option Obj}{name:Str}{v:Value}
end
section
variable {prog:Program}{w:World}{A:Around}{E:Value->Shared->Prop}{h:Heap}{g:Array GenState}{d:Drawn}{t:Nat}{os:OsState}
variable {nm q:Str}{C N:Addr}{bs bm bmB:List Value}{hdct:Bool}{sn:List Str}{sub:List Value}{ab:Bool}{col:Option Bool}{dd:Option Addr}{k0 k1 k2 k3 k5:Option Value}{B newId initId:String}
end
section
variable {prog:Program}{w:World}{A:Around}{E:Value->Shared->Prop}{s:Shared}{env:Env}
variable {nm q:Str}{C N:Addr}{bs bm bmB:List Value}{hdct:Bool}{sn:List Str}{sub:List Value}{ab:Bool}{col:Option Bool}{dd:Option Addr}{k0 k1 k2 k3 k5:Option Value}{B newId initId:String}
end
end DQ
end
section
namespace DL
open PySem PySem.Spec PyProof.Rows L2
open PySem.W (nsIn excIn tailIn nsOkIn mroIn clsIn typeIn findIn specialIn takesIn hasDictIn readsIn findCls handedIn)
section
variable {X:Cx}{pins:List (Addr × Obj)}{σ:L2.St}{H H':Hp}{s:Shared}{h':Heap}{t:Nat}{e C dx:Addr}{f:Str}
end
section
variable {P:Program}{w:World}{K:PySem.W.Frag}{mg:Str->Option Value}{base:Heap}
end
section
variable {X:Cx}{ξ:XK}{pos:Pos}
end
section
variable {X:Cx}{ξ:XK}{pos:Pos}
end
end DL
end
section
namespace DL
open PySem PySem.Spec PyProof.Rows L2
open PySem.W (nsIn excIn tailIn nsOkIn mroIn clsIn typeIn findIn specialIn takesIn kitOne Looks looks_mroIn looks_typeIn exmAny exm_tup2)
section
variable {X:Cx}{cs:List Str}{d d':Str}{np np' tp:Pos}{kk:Nat}
end
section
variable {X:Cx}{ξ:XK}{cs:List Str}{t:Expr}{body suite:List Stmt}{b0:Stmt}{gb gh:Sv}{pos hpos:Pos}
end
end DL
end
section
namespace DL
open PySem PySem.Spec PyProof.Rows L2
noncomputable def Ze5:Sv:=(Zz (sIf (tv (e2 dGt (e2 dIx (Zh 0) (eC (.int 0))) (eC (.int 0)))) (Zz (ZU (gNm 2) (e2 dMod (e2 dIx (Zh 0) (eC (.int 0))) (Zh 1)))
 (Zz (ZcJ (Zh 0) (eC (.int 0)) (e2 dDiv (e2 dIx (Zh 0) (eC (.int 0))) (Zh 1)))
 (ZQ (Zh 2)))) sNil)
 (Zz (ZcJ (Zh 0) (eC (.int 1)) (e2 dMod (e2 dMul (e2 dIx (Zh 0) (eC (.int 1))) (eC (.int 48271))) (eC (.int 2147483647))))
 (ZQ (e2 dMod (e2 dDiv (e2 dMod (e2 dMul (e2 dIx (Zh 0) (eC (.int 1))) (eC (.int 16807))) (eC (.int 2147483647))) (eC (.int 32))) (Zh 1)))))
noncomputable def FDigit:List D->Sto->Out D:=fnF Ze5 2 1
noncomputable def Bag (n:Nat)(M:Sto):Prop:= ∃ a b:Int,0<=a/\M[n]?=some (.lst [.int a,.int b])
structure Gr (n:Nat) (M M':Sto):Prop where
 len:M.length<=M'.length
 bag:Bag n M'
 keep: ∀ k,k≠n->k < M.length->M'[k]?=M[k]?
theorem ZcX {g:Sv}{n k:Nat}{ds:List D}{M M':Sto}{d:D}(hl:ds.length=n)(h:g (ds.map some ++ List.replicate k none) M= .ret d M'):fnF g n k ds M= .ok d M':=by
 unfold fnF;rw[if_pos hl,h]
theorem ZaV {g h:Sv}{ρ ρ1:Ro}{M M1:Sto}(e:g ρ M= .nx ρ1 M1):Zz g h ρ M=h ρ1 M1:=by
 unfold Zz;rw[e]
theorem Z4 {i j:Int}(h1: -(2 ^ 64) < j)(h2:j < 2 ^ 64):Zs i j:= .inr (.inl (intBits_le_64 h1 h2))
theorem Zbu {i j:Int}(h1: -(2 ^ 64) < i)(h2:i < 2 ^ 64):Zs i j:= .inl (intBits_le_64 h1 h2)
theorem at0 {x:D}{r:List D}:atI (x :: r) 0=some x:=by
 show (ixN (r.length + 1) 0).bind _=_
 unfold ixN;rw[if_pos (by decide),if_pos (by omega)]
 rfl
theorem at1 {x y:D}{r:List D}:atI (x :: y :: r) 1=some y:=by
 show (ixN (r.length + 2) 1).bind _=_
 unfold ixN;rw[if_pos (by decide),if_pos (by omega)]
 rfl
theorem ix0 {n:Nat}:ixN (n + 1) 0=some 0:=by
 unfold ixN;rw[if_pos (by decide),if_pos (by omega)]
 rfl
theorem ix1 {n:Nat}:ixN (n + 2) 1=some 1:=by
 unfold ixN;rw[if_pos (by decide),if_pos (by omega)]
 rfl
theorem Zdv {n:Nat}{m:Int}{M:Sto}(hb:Bag n M)(hm:0 < m)(hd:ZK m): ∃ r M',FDigit [.ref n,.int m] M= .ok (.int r) M'/\0<=r/\r < m/\Gr n M M':=by
 obtain ⟨a,b,ha,e⟩:=hb
 have hl:n < M.length:=(List.getElem?_eq_some_iff.mp e).1
 have hs: ∀ x,(M.set n x)[n]?=some x:=fun x=>List.getElem?_set_self hl
 have gr: ∀ a' b',0<=a'->Gr n M (M.set n (.lst [.int a',.int b'])):=fun a' b' h=>⟨by simp,⟨a',b',h,hs _⟩,fun k hk _=>by rw[List.getElem?_set_ne (Ne.symm hk)]⟩
 by_cases c:0 < a
 ·refine ⟨a.fmod m,M.set n (.lst [.int (a.fdiv m),.int b]),?_,?_,?_,gr _ _ ?_⟩
  ·simp[FDigit,Ze5,fnF,Zz,sNil,ZQ,Zcp,ZaU,sIf,ZU,ZbN,ZcJ,ZD,gNm,gNl,gCs,gTp,DL.e2,Zh,eC,Zdf,Zbg,Zj,Zc,aNil,tv,Zbn,Zbo,ZV,Zaj,ZfV,Zbe,eIf,Zey,ZbM,Out.bind,dAdd,dSub,dMul,dDiv,dMod,dPow,dLt,dLe,dGt,dGe,dIx,atD,at0,at1,ix0,ix1,bLen,bAbs,bMax,bMin,bInt,bList,Zbq,ZG,kd,ZaC,dIs,ZaI,isP,e,c,hd,Int.ne_of_gt hm]
  ·rw[Int.fmod_eq_emod_of_nonneg _ (by omega)];exact Int.emod_nonneg _ (by omega)
  ·rw[Int.fmod_eq_emod_of_nonneg _ (by omega)];exact Int.emod_lt_of_pos _ hm
  ·rw[Int.fdiv_eq_ediv_of_nonneg _ (by omega)];exact Int.ediv_nonneg ha (by omega)
 ·refine ⟨(((b * 48271).fmod 2147483647 * 16807).fmod 2147483647 |>.fdiv 32).fmod m,M.set n (.lst [.int a,.int ((b * 48271).fmod 2147483647)]),?_,?_,?_,gr _ _ ha⟩
  ·have f1:Zs b 48271:=Z4 (by decide) (by decide)
   have f2:Zs ((b * 48271).fmod 2147483647) 16807:=Z4 (by decide) (by decide)
   have f3:ZK 32:=by decide +kernel
   simp[FDigit,Ze5,fnF,Zz,sNil,ZQ,Zcp,ZaU,sIf,ZU,ZbN,ZcJ,ZD,gNm,gNl,gCs,gTp,DL.e2,Zh,eC,Zdf,Zbg,Zj,Zc,aNil,tv,Zbn,Zbo,ZV,Zaj,ZfV,Zbe,eIf,Zey,ZbM,Out.bind,dAdd,dSub,dMul,dDiv,dMod,dPow,dLt,dLe,dGt,dGe,dIx,atD,at0,at1,ix0,ix1,bLen,bAbs,bMax,bMin,bInt,bList,Zbq,ZG,kd,ZaC,dIs,ZaI,isP,e,c,hs,f1,f2,f3,Int.ne_of_gt hm]
  ·rw[Int.fmod_eq_emod_of_nonneg _ (by omega)];exact Int.emod_nonneg _ (by omega)
  ·rw[Int.fmod_eq_emod_of_nonneg _ (by omega)];exact Int.emod_lt_of_pos _ hm
theorem Bag.lt {n:Nat}{M:Sto}(h:Bag n M):n < M.length:=let ⟨_,_,_,e⟩:=h;(List.getElem?_eq_some_iff.mp e).1
theorem Bag.app {n:Nat}{M:Sto}(h:Bag n M)(L:Sto):Bag n (M ++ L):=by
 have hl:=h.lt
 obtain ⟨a,b,h1,h2⟩:=h
 exact ⟨a,b,h1,by rw[List.getElem?_append_left hl];exact h2⟩
theorem Gr.trans {n:Nat}{M M1 M2:Sto}(a:Gr n M M1)(b:Gr n M1 M2):Gr n M M2:=
 ⟨Nat.le_trans a.len b.len,b.bag,fun k h1 h2=>(b.keep k h1 (Nat.lt_of_lt_of_le h2 a.len)).trans (a.keep k h1 h2)⟩
theorem Gr.app {n:Nat}{M:Sto}(h:Bag n M)(L:Sto):Gr n M (M ++ L):=⟨by simp,h.app L,fun k _ hk=>by rw[List.getElem?_append_left hk]⟩
theorem Gr.app2 {n:Nat}{M M1:Sto}(h:Gr n M M1)(L:Sto):Gr n M (M1 ++ L):=h.trans (.app h.bag L)
theorem Gr.new {n:Nat}{M M1:Sto}{o:SO}{L:Sto}(hb:Bag n M)(h:Gr n (M ++ o :: L) M1):M1[M.length]?=some o:=by
 rw[h.keep _ (Nat.ne_of_gt hb.lt) (by simp)]
 simp
noncomputable def Zpa:Sv:=(Zz (ZU (gNm 2) (eC (.int 0)))
 (Zz (sIf (tv (e2 dLt (Zh 1) (Zj bLen (Zc (Zh 0) aNil)))) (ZU (gNm 2) (Zj bAbs (Zc (e2 dIx (Zh 0) (Zh 1)) aNil))) sNil)
 (Zz (ZU (gNm 3) (e2 dAdd (eC (.int 1)) (e2 dMod (e2 dAdd (e2 dAdd (e2 dAdd (e2 dMod (Zh 2) (eC (.int 2147483647))) (e2 dMul (e2 dMul (eC (.int 7919)) (Zh 1)) (Zh 1))) (e2 dMul (eC (.int 11)) (Zh 1))) (eC (.int 5))) (eC (.int 2147483646)))))
 (ZQ (Zbg (Zc (e2 dMul (Zh 2) (Zj bInt (Zc (e2 dGe (Zh 2) (e2 dPow (eC (.int 10)) (eC (.int 18)))) aNil))) (Zc (Zh 3) aNil)))))))
noncomputable def FBag:List D->Sto->Out D:=fnF Zpa 2 2
theorem Zf9 {ns:List Int}{k:Nat}(h:k < ns.length):atI (ns.map D.int) (k:Int)=some (.int ns[k]):=Zhg (by rw[List.getElem?_map,List.getElem?_eq_getElem h];rfl)
theorem ZjO {ns:List Int}{k:Nat}{M:Sto}(hk:k < 1000): ∃ a b:Int,0<=a/\FBag [.rol (ns.map D.int),.int k] M= .ok (.ref M.length) (M ++ [.lst [.int a,.int b]]):=by
 have f2:Zs 7919 (k:Int):=Zbu (by decide) (by decide)
 have f3:Zs (7919 * (k:Int)) (k:Int):=Z4 (by omega) (by omega)
 have f4:Zs 11 (k:Int):=Zbu (by decide) (by decide)
 have body: ∀ cell:Int,0<=cell-> ∃ a b:Int,0<=a/\ ∀ M,Zz (ZU (gNm 3) (e2 dAdd (eC (.int 1)) (e2 dMod (e2 dAdd (e2 dAdd (e2 dAdd (e2 dMod (Zh 2) (eC (.int 2147483647))) (e2 dMul (e2 dMul (eC (.int 7919)) (Zh 1)) (Zh 1))) (e2 dMul (eC (.int 11)) (Zh 1))) (eC (.int 5))) (eC (.int 2147483646)))))
   (ZQ (Zbg (Zc (e2 dMul (Zh 2) (Zj bInt (Zc (e2 dGe (Zh 2) (e2 dPow (eC (.int 10)) (eC (.int 18)))) aNil))) (Zc (Zh 3) aNil)))) [some (.rol (ns.map D.int)),some (.int k),some (.int cell),none] M= .ret (.ref M.length) (M ++ [.lst [.int a,.int b]]):=by
  intro cell hc;have f5:Zs cell 1:=Z4 (by decide) (by decide)
  have f6:Zs cell 0:=Z4 (by decide) (by decide)
  by_cases c:(10 ^ 18:Int)<=cell
  ·refine ⟨cell * 1,1 + (cell.fmod 2147483647 + 7919 * (k:Int) * k + 11 * k + 5).fmod 2147483646,by omega,fun M=> ?_⟩
   have c':(1000000000000000000:Int)<=cell:=by omega
   simp[fnF,Zz,sNil,ZQ,Zcp,ZaU,sIf,ZU,ZbN,ZcJ,ZD,gNm,gNl,gCs,gTp,DL.e2,Zh,eC,Zdf,Zbg,Zj,Zc,aNil,tv,Zbn,Zbo,ZV,Zaj,ZfV,Zbe,eIf,Zey,ZbM,Out.bind,dAdd,dSub,dMul,dDiv,dMod,dPow,dLt,dLe,dGt,dGe,dIx,atD,at0,at1,ix0,ix1,bLen,bAbs,bMax,bMin,bInt,bList,Zbq,ZG,kd,ZaC,dIs,ZaI,isP,f2,f3,f4,f5,f6,c']
  ·refine ⟨cell * 0,1 + (cell.fmod 2147483647 + 7919 * (k:Int) * k + 11 * k + 5).fmod 2147483646,by omega,fun M=> ?_⟩
   have c': ¬ (1000000000000000000:Int)<=cell:=by omega
   simp[fnF,Zz,sNil,ZQ,Zcp,ZaU,sIf,ZU,ZbN,ZcJ,ZD,gNm,gNl,gCs,gTp,DL.e2,Zh,eC,Zdf,Zbg,Zj,Zc,aNil,tv,Zbn,Zbo,ZV,Zaj,ZfV,Zbe,eIf,Zey,ZbM,Out.bind,dAdd,dSub,dMul,dDiv,dMod,dPow,dLt,dLe,dGt,dGe,dIx,atD,at0,at1,ix0,ix1,bLen,bAbs,bMax,bMin,bInt,bList,Zbq,ZG,kd,ZaC,dIs,ZaI,isP,f2,f3,f4,f5,f6,c']
 by_cases c:k < ns.length
 ·obtain ⟨a,b,h,e⟩:=body (if ns[k] < 0 then -ns[k] else ns[k]) (by split<;>omega)
  refine ⟨a,b,h,ZcX rfl ?_⟩
  have c':(k:Int) < (ns.length:Int):=by omega
  refine (ZaV (ρ1:=[some (.rol (ns.map D.int)),some (.int k),some (.int 0),none]) (M1:=M) rfl).trans ?_
  refine (ZaV (ρ1:=[some (.rol (ns.map D.int)),some (.int k),some (.int (if ns[k] < 0 then -ns[k] else ns[k])),none]) (M1:=M) ?_).trans (e M)
  simp[fnF,Zz,sNil,ZQ,Zcp,ZaU,sIf,ZU,ZbN,ZcJ,ZD,gNm,gNl,gCs,gTp,DL.e2,Zh,eC,Zdf,Zbg,Zj,Zc,aNil,tv,Zbn,Zbo,ZV,Zaj,ZfV,Zbe,eIf,Zey,ZbM,Out.bind,dAdd,dSub,dMul,dDiv,dMod,dPow,dLt,dLe,dGt,dGe,dIx,atD,at0,at1,ix0,ix1,bLen,bAbs,bMax,bMin,bInt,bList,Zbq,ZG,kd,ZaC,dIs,ZaI,isP,Zf9 c,c']
 ·obtain ⟨a,b,h,e⟩:=body 0 (by omega)
  refine ⟨a,b,h,ZcX rfl ?_⟩
  have c': ¬ (k:Int) < (ns.length:Int):=by omega
  refine (ZaV (ρ1:=[some (.rol (ns.map D.int)),some (.int k),some (.int 0),none]) (M1:=M) rfl).trans ?_
  refine (ZaV (ρ1:=[some (.rol (ns.map D.int)),some (.int k),some (.int 0),none]) (M1:=M) ?_).trans (e M)
  simp[fnF,Zz,sNil,ZQ,Zcp,ZaU,sIf,ZU,ZbN,ZcJ,ZD,gNm,gNl,gCs,gTp,DL.e2,Zh,eC,Zdf,Zbg,Zj,Zc,aNil,tv,Zbn,Zbo,ZV,Zaj,ZfV,Zbe,eIf,Zey,ZbM,Out.bind,dAdd,dSub,dMul,dDiv,dMod,dPow,dLt,dLe,dGt,dGe,dIx,atD,at0,at1,ix0,ix1,bLen,bAbs,bMax,bMin,bInt,bList,Zbq,ZG,kd,ZaC,dIs,ZaI,isP,c',c]
theorem Zdw {ρ:Ro}{i:Nat}{x:Option D}(h:ρ[i]?=some x):ρ.set i x=ρ:=by
 apply List.ext_getElem?
 intro k
 by_cases hk:k=i
 ·subst hk
  rw[List.getElem?_set_self (List.getElem?_eq_some_iff.mp h).1,h]
 ·rw[List.getElem?_set_ne (Ne.symm hk)]
noncomputable def cEu (i j:Nat):Sv:=ZbN i j (Zc (Zh j) (Zc (e2 dMod (Zh i) (Zh j)) aNil))
theorem ZjP {c:Tv}{i j:Nat}{M:Sto}(hij:i≠j)(hc: ∀ (ρ:Ro) (b:Nat),ρ[j]?=some (some (.int b))->c ρ M= .ok (decide (b≠0)) M): ∀ (b a:Nat) (ρ:Ro),ρ[i]?=some (some (.int a))->ρ[j]?=some (some (.int b))->
  sWh c (cEu i j) ρ M= .nx ((ρ.set i (some (.int (Nat.gcd a b:Nat)))).set j (some (.int 0))) M:=by
 intro b
 induction b using Nat.strongRecOn with
 |ind b ih=>
  intro a ρ hi hj
  by_cases h0:b=0
  ·subst h0
   rw[Zcq (M1:=M) (by rw[hc ρ 0 hj];rfl),Nat.gcd_zero_right,Zdw hi,Zdw (x:=some (.int 0)) hj]
  ·have hl:i < ρ.length:=(List.getElem?_eq_some_iff.mp hi).1
   have hl2:j < ρ.length:=(List.getElem?_eq_some_iff.mp hj).1
   have ht:c ρ M= .ok true M:=by rw[hc ρ b hj,decide_eq_true h0]
   have hb:cEu i j ρ M= .nx ((ρ.set i (some (.int b))).set j (some (.int (a % b:Nat)))) M:=by
    have hb0: ¬ (b:Int)=0:=by omega
    have hm:(a:Int).fmod (b:Int)=((a % b:Nat):Int):=by rw[Int.fmod_eq_emod_of_nonneg _ (by omega)];rfl
    simp[cEu,ZbN,Zc,aNil,Zh,e2,dMod,Out.bind,ZD,hi,hj,hb0,hm,h0]
   have g1:((ρ.set i (some (.int b))).set j (some (.int (a % b:Nat))))[i]?=some (some (.int b)):=by
    rw[List.getElem?_set_ne (Ne.symm hij),List.getElem?_set_self hl]
   have g2:((ρ.set i (some (.int b))).set j (some (.int (a % b:Nat))))[j]?=some (some (.int (a % b:Nat))):=by
    rw[List.getElem?_set_self (by simpa using hl2)]
   have q:=ih (a % b) (Nat.mod_lt _ (by omega)) b _ g1 g2
   rw[Zdo ht hb (by rw[q];intro z;cases z),q]
   have eg:Nat.gcd b (a % b)=Nat.gcd a b:=by rw[Nat.gcd_comm b,<- Nat.gcd_rec,Nat.gcd_comm]
   rw[eg,List.set_comm _ _ (Ne.symm hij),List.set_set,List.set_set]
theorem ZjQ {M:Sto}{a b:Int}:eqF 12 M (.int a) (.int b)=some (a == b):=rfl
theorem ne0 {j:Nat}{M:Sto}(ρ:Ro)(b:Nat)(h:ρ[j]?=some (some (.int b))):tv (e2 dNe (Zh j) (eC (.int 0))) ρ M= .ok (decide (b≠0)) M:=by
 simp[tv,e2,Zh,eC,h,Out.bind,dNe,ZjQ]
 by_cases c:b=0
 ·subst c;rfl
 ·have: ¬ (b:Int)=0:=by omega
  simp[c,this]
theorem Ze6 (a:Int):(if a < 0 then -a else a)=(a.natAbs:Int):=by split<;>omega
noncomputable def Zpb:Sv:=(Zz (ZbN 2 3 (Zc (Zj bAbs (Zc (Zh 0) aNil)) (Zc (Zj bAbs (Zc (Zh 1) aNil)) aNil)))
 (Zz (sWh (tv (e2 dNe (Zh 3) (eC (.int 0)))) (ZbN 2 3 (Zc (Zh 3) (Zc (e2 dMod (Zh 2) (Zh 3)) aNil))))
 (ZQ (Zh 2))))
noncomputable def FGcd:List D->Sto->Out D:=fnF Zpb 2 2
theorem ZjR (a b:Int)(M:Sto):FGcd [.int a,.int b] M= .ok (.int (Int.gcd a b:Nat)) M:=by
 refine ZcX rfl ?_
 refine (ZaV (ρ1:=[some (.int a),some (.int b),some (.int (a.natAbs:Nat)),some (.int (b.natAbs:Nat))]) (M1:=M) ?_).trans ?_
 ·simp[fnF,Zz,sNil,ZQ,Zcp,ZaU,sIf,ZU,ZbN,ZcJ,ZD,gNm,gNl,gCs,gTp,DL.e2,Zh,eC,Zdf,Zbg,Zj,Zc,aNil,tv,Zbn,Zbo,ZV,Zaj,ZfV,Zbe,eIf,Zey,ZbM,Out.bind,dAdd,dSub,dMul,dDiv,dMod,dPow,dLt,dLe,dGt,dGe,dIx,atD,at0,at1,ix0,ix1,bLen,bAbs,bMax,bMin,bInt,bList,Zbq,ZG,kd,ZaC,dIs,ZaI,isP,Ze6]
 ·have q:=ZjP (c:=tv (e2 dNe (Zh 3) (eC (.int 0)))) (i:=2) (j:=3) (M:=M) (by decide) ne0 b.natAbs a.natAbs [some (.int a),some (.int b),some (.int (a.natAbs:Nat)),some (.int (b.natAbs:Nat))] rfl rfl
  refine (ZaV q).trans ?_
  rfl
end DL
end
section
end
section
namespace HD
open PySem PySem.W PyProof.Rows
noncomputable def Zly (thr:Thread->Bool)(stp:SharedT->Thread->Option (SharedT × Thread))(n:Nat):SharedT->Thread->Option SharedT:=
 Nat.rec (motive:=fun _=>SharedT->Thread->Option SharedT) (fun _ _=>none) (fun _ ih s t=>Bool.rec (motive:=fun _=>Option SharedT) (Option.rec (motive:=fun _=>Option SharedT) none (fun r=>ih r.1 r.2) (stp s t)) (some s) (thr t)) n
noncomputable def Zga (ok:Thread->Bool)(stp:SharedT->Thread->Option (SharedT × Thread))(s:SharedT)(t:Thread):Option (SharedT × Thread):=Bool.rec (motive:=fun _=>Option (SharedT × Thread)) none (stp s t) (ok t)
section
variable {tb:String->Option Builtin}{p:Program}{w:World}{n₀:Nat}{ann:Option Value}
theorem ZgL: ∀ {n:Nat} {s s':SharedT} {t:Thread},Zly through (Zga (stepOk n₀ ann) (stepT (denote tb) p w)) n s t=some s'->topRun tb p w n₀ ann n s.abs t=some s'.abs
 |0,s,s',t,h=>by cases h
 |n + 1,s,s',t,h=>by
  unfold topRun
  change Bool.rec (motive:=fun _=>Option SharedT) (Option.rec (motive:=fun _=>Option SharedT) none (fun r=>Zly through (Zga (stepOk n₀ ann) (stepT (denote tb) p w)) n r.1 r.2) (Zga (stepOk n₀ ann) (stepT (denote tb) p w) s t)) (some s) (through t)=some s' at h
  cases ht:through t with
  |true=>
   rw[ht] at h;have h':some s=some s':=h
   cases h'
   rfl
  |false=>
   rw[ht] at h;cases hk:stepOk n₀ ann t with
   |false=>
    have e:Zga (stepOk n₀ ann) (stepT (denote tb) p w) s t=none:=by unfold Zga;rw[hk]
    rw[e] at h;cases h
   |true=>
    have e:Zga (stepOk n₀ ann) (stepT (denote tb) p w) s t=stepT (denote tb) p w s t:=by unfold Zga;rw[hk]
    rw[e] at h;cases hs:stepT (denote tb) p w s t with
    |none=>rw[hs] at h;cases h
    |some r=>
     obtain ⟨s2,t2⟩:=r
     rw[hs] at h
     have:=stepT_spec hs
     rw[this];exact ZgL (n:=n) h
end
noncomputable def T0 (w:World)(os:OsState):SharedT:=
 ⟨[boot_o_0,boot_o_1,boot_o_2,boot_o_3,boot_o_4,boot_o_5,boot_o_6,boot_o_7,boot_o_8,boot_o_9,boot_o_10].foldl (fun (r:Nat × BT) o=>(r.1 + 1,r.2.ins r.1 (o w.params))) (0,.nil) |>.2,11,(boot_heap w.params).life,#[],boot_drawn,boot_toks,os⟩
theorem ZjS (w:World)(os:OsState):(T0 w os).abs=⟨boot_heap w.params,#[],boot_drawn,boot_toks,os⟩:=by kernel_rfl
theorem ZhJ:Str.ofString "__annotations__"=⟨#[95,95,97,110,110,111,116,97,116,105,111,110,115,95,95]⟩:=by decide +kernel
theorem Ze7 {p q:Program}{loose:List Str}{Xt:Shared->Bool}{α:Type}{Yf:Shared->α}{Ya:World->α}{N M:Nat}(e:opening p=plainProg p.main.scope.names)(hN:Nat.ble 600 N=true)(f: ∀ s,fenceModules? p s=some s)(le:Nat.ble M N=true)
  (Zl3: ∀ (w:World) (os:OsState),(Zly through (Zga (stepOk 11 (some (.ref 6))) (stepT (denote treeTable) p w)) M (T0 w os) (topStub p)).map (fun s=>((staticsOk (importedModules p.main.body) (boot_heap w.params) s.abs.heap && namesBound p s.abs.heap && gensDone s.abs && laidKept (boot_heap w.params) s.abs.heap),
    openSeen q loose (importedModules p.main.body) Xt true s.abs,Yf s.abs))=some (true,openGood q loose,Ya w)):LeftO p q loose Xt Yf Ya N:=fun w=>by
 obtain ⟨⟨h,gs,d,k,os⟩,e1,e2⟩:=Option.map_eq_some_iff.mp (boot_open e hN f w)
 obtain ⟨rfl,rfl,rfl,rfl⟩:h=boot_heap w.params/\gs=Array.mk []/\d=boot_drawn/\k=boot_toks:=by simpa using e2
 obtain ⟨s',r1,r2⟩:=Option.map_eq_some_iff.mp (Zl3 w os)
 obtain ⟨l1,l2,l3⟩:_/\_/\_:=by simpa only[Prod.mk.injEq] using r2
 have r:=ZgL r1
 rw[ZjS] at r;have r:=topRun_mono (N - M) _ _ _ _ r
 rw[show M + (N - M)=N by have:=Nat.le_of_ble_eq_true le;omega] at r
 have z1:((boot_heap w.params).isNs mainGlobals && (Array.mk []:Array GenState).size == 0)=true:=by kernel_rfl
 have z2:(boot_heap w.params).objs.size=11:=rfl
 have z3:(boot_heap w.params).nsMap mainGlobals "__annotations__"=some (.ref 6):=by
  rw[ZhJ]
  kernel_rfl
 have t:topFrom treeTable p w N ⟨boot_heap w.params,Array.mk [],boot_drawn,boot_toks,os⟩=some s'.abs:=by
  unfold topFrom;dsimp only;rw[z1,z2,z3,r];show (match staticsOk (importedModules p.main.body) (boot_heap w.params) s'.abs.heap && namesBound p s'.abs.heap && gensDone s'.abs && laidKept (boot_heap w.params) s'.abs.heap with | true=>_ | false=>_)=_
  rw[l1]
 unfold openEnds;rw[e1];show (topFrom treeTable p w N _).map _=_
 rw[t];exact congrArg some (Prod.ext l2 l3)
end HD
namespace HD
open PySem PySem.W
theorem Zl4: @stepOk= @PySem.W.Fast.tw6613529449190102663:=PySem.W.Fast.te6613529449190102663
theorem ZhK: @stepT= @PySem.W.Fast.tw10156331382660048174:=PySem.W.Fast.te10156331382660048174
theorem ZjT: @denote= @PySem.W.Fast.tw11892475500146522536:=PySem.W.Fast.te11892475500146522536
theorem ZjU: @treeTable= @PySem.W.Fast.tw14364793385576792824:=PySem.W.Fast.te14364793385576792824
theorem ZhL: @openSeen= @PySem.W.Fast.tw4187177175401517315:=PySem.W.Fast.te4187177175401517315
theorem ZjV: @importedModules= @PySem.W.Fast.tw5923862056798008813:=PySem.W.Fast.te5923862056798008813
end HD
end
section
namespace DL
open PySem PySem.Spec PyProof.Rows L2
noncomputable def wO {β:Type}(o:Out β)(Q:β->Sto->Prop)(E:Str->Sto->Prop):Prop:=match o with
 | .ok a M=>Q a M
 | .exc c M=>E c M
 | .bad=>False
noncomputable def wS (f:Fl)(N:Ro->Sto->Prop)(R:D->Sto->Prop)(B C:Ro->Sto->Prop)(E:Str->Sto->Prop):Prop:=match f with
 | .nx ρ M=>N ρ M
 | .ret d M=>R d M
 | .brk ρ M=>B ρ M
 | .cnt ρ M=>C ρ M
 | .exc c M=>E c M
 | .bad=>False
noncomputable def Br (k:Bool)(A B:Prop):Prop:=(k=true->A)/\(k=false->B)
noncomputable def wG {β:Type}(o:Option β)(N:β->Prop):Prop:=match o with | some ρ=>N ρ | none=>False
noncomputable def wV (o:Option (Option D))(Q:D->Prop):Prop:=match o with | some (some d)=>Q d | _=>False
noncomputable def wI (x:D)(Q:Int->Prop):Prop:=match x with | .int i=>Q i | _=>False
noncomputable def wB (x:D)(Q:Bool->Prop):Prop:=match x with | .bl i=>Q i | _=>False
noncomputable def wR (x:D)(Q:Nat->Prop):Prop:=match x with | .ref i=>Q i | _=>False
noncomputable def w1 (x:List D)(Q:D->Prop):Prop:=match x with | [v]=>Q v | _=>False
noncomputable def w2 (x:List D)(Q:D->D->Prop):Prop:=match x with | [v,w]=>Q v w | _=>False
noncomputable def wL (o:Option SO)(Q:List D->Prop):Prop:=match o with | some (.lst xs)=>Q xs | none=>False
section
variable {β:Type}{o o':Option (Option D)}{x x':D}{Q:D->Prop}{QI:Int->Prop}{QB:Bool->Prop}{QR:Nat->Prop}{QL:List D->Prop}{l l':Option SO}{d:D}{i:Int}{k:Bool}{n:Nat}{xs:List D}{g g':Option β}{QG:β->Prop}{y:β}
theorem Zpc:w1 [d] Q=Q d:=rfl
theorem Zpd {Q2:D->D->Prop}:w2 [d,x] Q2=Q2 d x:=rfl
theorem Zpe:wV (some (some d)) Q=Q d:=rfl
theorem Zpf:wI (.int i) QI=QI i:=rfl
theorem Zpg:wB (.bl k) QB=QB k:=rfl
theorem Zph:wR (.ref n) QR=QR n:=rfl
theorem Zpi:wL (some (.lst xs)) QL=QL xs:=rfl
theorem Zpj:wG (some y) QG=QG y:=rfl
end
section
variable {β:Type}{Q:β->Sto->Prop}{E:Str->Sto->Prop}{N B C:Ro->Sto->Prop}{R:D->Sto->Prop}{ρ:Ro}{M:Sto}{A A':Prop}
theorem Zl {d:β}:wO (.ok d M) Q E=Q d M:=rfl
theorem ZjW {c:Str}:wO (.exc c M:Out β) Q E=E c M:=rfl
theorem ZjX:Br true A A'=A:=by simp[Br]
theorem ZnR:Br false A A'=A':=by simp[Br]
theorem brD {p:Prop}[Decidable p](h1:p->A)(h2: ¬ p->A'):Br (decide p) A A':=⟨fun h=>h1 (of_decide_eq_true h),fun h=>h2 (of_decide_eq_false h)⟩
theorem ZbW {o:Out β}{Q':β->Sto->Prop}{E':Str->Sto->Prop}(h:wO o Q E)(hq: ∀ d M,Q d M->Q' d M)(he: ∀ c M,E c M->E' c M):wO o Q' E':=by
 cases o with
 |ok d M=>exact hq d M h
 |exc c M=>exact he c M h
 |bad=>exact h
theorem ZgM {o:Out β}(h:wO o Q (fun _ _=>False)): ∃ d M',o= .ok d M'/\Q d M':=by
 cases o with
 |ok d M=>exact ⟨d,M,rfl,h⟩
 |exc c M=>exact h.elim
 |bad=>exact h.elim
theorem Zk {γ:Type}{o:Out γ}{f:γ->Sto->Out β}:wO (o.bind f) Q E=wO o (fun x M1=>wO (f x M1) Q E) E:=by cases o<;>rfl
end
section
variable {Q:D->Sto->Prop}{E:Str->Sto->Prop}{N B C:Ro->Sto->Prop}{R:D->Sto->Prop}{ρ:Ro}{M:Sto}{e f g:Ev}{fs:Av}
theorem Zl5 {op:Bo}:wO (e2 op f g ρ M) Q E=wO (f ρ M) (fun x M1=>wO (g ρ M1) (fun y M2=>wO (op x y M2) Q E) E) E:=by
 unfold e2;rw[Zk]
 congr 1
 funext x M1
 rw[Zk]
theorem Zpk {i:Nat}:wO (Zh i ρ M) Q E=wV ρ[i]? (fun d=>Q d M):=by
 unfold Zh;cases ρ[i]? with
 |none=>rfl
 |some o=>cases o<;>rfl
theorem ZhM {F:List D->Sto->Out D}:wO (Zj F fs ρ M) Q E=wO (fs ρ M) (fun ds M1=>wO (F ds M1) Q E) E:=Zk
theorem ZhN {Q:List D->Sto->Prop}:wO (Zc f fs ρ M) Q E=wO (f ρ M) (fun x M1=>wO (fs ρ M1) (fun xs M2=>Q (x :: xs) M2) E) E:=by
 unfold Zc;rw[Zk]
 congr 1
 funext x M1
 rw[Zk]
 congr 1
theorem ZjY:wO (Zdf fs ρ M) Q E=wO (fs ρ M) (fun xs M1=>xs.length<=1000/\Q (.tup xs) M1) E:=by
 unfold Zdf;rw[Zk]
 congr 1
 funext x M1
 by_cases h:x.length<=1000
 ·rw[if_pos h];simp[h,wO]
 ·rw[if_neg h];simp[h,wO]
theorem ZjZ:wO (Zbg fs ρ M) Q E=wO (fs ρ M) (fun xs M1=>xs.length<=1000/\Q (.ref M1.length) (M1 ++ [.lst xs])) E:=by
 unfold Zbg;rw[Zk]
 congr 1
 funext x M1
 by_cases h:x.length<=1000
 ·rw[if_pos h];simp[h,wO]
 ·rw[if_neg h];simp[h,wO]
variable {t u:Tv}
theorem Zj0 {Q:Bool->Sto->Prop}:wO (ZV t ρ M) Q E=wO (t ρ M) (fun k M1=>Q (!k) M1) E:=by
 unfold ZV;rw[Zk]
 congr 1
variable {a b:Sv}
theorem Zj1:wS (Zz a b ρ M) N R B C E=wS (a ρ M) (fun ρ1 M1=>wS (b ρ1 M1) N R B C E) R B C E:=by
 unfold Zz;cases a ρ M<;>rfl
theorem ZI {β:Type}{o:Out β}{k:β->Sto->Fl}:wS (ZD o k) N R B C E=wO o (fun x M1=>wS (k x M1) N R B C E) E:=by cases o<;>rfl
theorem Zj2:wS (ZQ f ρ M) N R B C E=wO (f ρ M) R E:=ZI
theorem ZhO:wS (ZaU f ρ M) N R B C E=wO (f ρ M) (fun _ M1=>N ρ M1) E:=ZI
theorem Zj3 {i:Nat}:wS (ZU (gNm i) f ρ M) N R B C E=wO (f ρ M) (fun d M1=>N (ρ.set i (some d)) M1) E:=ZI
theorem ZhP {gs:Tgs}:wS (ZU (gTp gs) f ρ M) N R B C E=wO (f ρ M) (fun d M1=>wG (gTp gs d ρ) (fun r=>N r M1)) E:=by
 unfold ZU;rw[ZI]
 congr 1
 funext d M1
 cases gTp gs d ρ<;>rfl
theorem Zj4 {i j:Nat}:wS (ZbN i j fs ρ M) N R B C E=wO (fs ρ M) (fun ds M1=>w2 ds fun v w=>N ((ρ.set i (some v)).set j (some w)) M1) E:=by
 unfold ZbN;rw[ZI]
 congr 1
 funext ds M1
 rcases ds with _ | ⟨v,_ | ⟨w,_ | ⟨z,r⟩⟩⟩<;>rfl
theorem Zj5 {fo fi:Ev}:wS (ZcJ fo fi f ρ M) N R B C E=wO (f ρ M) (fun d M1=>wO (fo ρ M1) (fun o M2=>wO (fi ρ M2) (fun i M3=>wR o fun n=>wI i fun k=>wL M3[n]? fun xs=>wG (ixN xs.length k) fun j=>N ρ (M3.set n (.lst (xs.set j d)))) E) E) E:=by
 unfold ZcJ;rw[ZI]
 congr 1
 funext d M1
 rw[ZI]
 congr 1
 funext o M2
 rw[ZI]
 congr 1
 funext i M3
 cases o<;>cases i<;>try rfl
 rename_i n k;cases e:M3[n]? with
 |none=>simp only[e,wR,wI,wL,wS]
 |some s=>
  cases s with
  |lst xs=>
   cases e2:ixN xs.length k<;>simp only[e,e2,wR,wI,wL,wG,wS]
theorem Zgb {c:Str}:wS (ZaM c fs ρ M) N R B C E=wO (fs ρ M) (fun ds M1=>ds.length<=1000/\E c M1) E:=by
 unfold ZaM;rw[ZI]
 congr 1
 funext ds M1
 by_cases h:ds.length<=1000
 ·rw[if_pos h];simp[h,wS]
 ·rw[if_neg h];simp[h,wS]
theorem wF {n k:Nat}{ds:List D}(hl:ds.length=n):wO (fnF a n k ds M) Q E=wS (a (ds.map some ++ List.replicate k none) M) (fun _ M1=>Q .non M1) Q (fun _ _=>False) (fun _ _=>False) E:=by
 unfold fnF;rw[if_pos hl];cases a (ds.map some ++ List.replicate k none) M<;>rfl
theorem Ze8 {o:Fl}{N' B' C':Ro->Sto->Prop}{R':D->Sto->Prop}{E':Str->Sto->Prop}(h:wS o N R B C E)(hn: ∀ ρ M,N ρ M->N' ρ M)(hr: ∀ d M,R d M->R' d M)(hb: ∀ ρ M,B ρ M->B' ρ M)(hc: ∀ ρ M,C ρ M->C' ρ M)(he: ∀ c M,E c M->E' c M):wS o N' R' B' C' E':=by
 cases o with
 |nx ρ M=>exact hn _ _ h
 |ret ρ M=>exact hr _ _ h
 |brk ρ M=>exact hb _ _ h
 |cnt ρ M=>exact hc _ _ h
 |exc ρ M=>exact he _ _ h
 |bad=>exact h
variable {tg:Tg}{bd:Sv}{fi:Ro->Sto->Out Src}
theorem Ze9 (I:Nat->Ro->Sto->Prop): ∀ (xs:List D) (k:Nat) (ρ:Ro) (M:Sto),I k ρ M->(∀ i ρ M (h:i < xs.length),I (k + i) ρ M->wG (tg xs[i] ρ) fun r=>wS (bd r M) (I (k + i + 1)) R N (I (k + i + 1)) E)->(∀ ρ M,I (k + xs.length) ρ M->N ρ M)->wS (Zav tg bd xs ρ M) N R B C E
 | [],k,ρ,M,h,_,hn=>hn ρ M h
 |x :: xs,k,ρ,M,h,st,hn=>by
  have s:=st 0 ρ M (by simp) h
  unfold Zav;simp only[List.getElem_cons_zero,Nat.add_zero] at s;cases e:tg x ρ with
  |none=>rw[e] at s;exact s.elim
  |some ρ1=>
   rw[e] at s;simp only[wG] at s;have rc: ∀ ρ2 M2,I (k + 1) ρ2 M2->wS (Zav tg bd xs ρ2 M2) N R B C E:=fun ρ2 M2 h2=>Ze9 I xs (k + 1) ρ2 M2 h2 (fun i ρ M hi hI=>by
    have z:=st (i + 1) ρ M (by simp;omega) (by rw[show k + (i + 1)=k + 1 + i by omega];exact hI)
    simp only[List.getElem_cons_succ] at z;rw[show k + (i + 1) + 1=k + 1 + i + 1 by omega] at z
    exact z) (fun ρ M hI=>hn ρ M (by rw[show k + (x :: xs).length=k + 1 + xs.length by simp;omega];exact hI))
   cases eg:bd ρ1 M<;>rw[eg] at s<;>simp only[eg]
   ·exact rc _ _ s
   ·exact s
   ·exact s
   ·exact rc _ _ s
   ·exact s
   ·exact s
theorem ZhQ:wS (Zbr tg fs bd ρ M) N R B C E=wO (fs ρ M) (fun ds M1=>w1 ds fun d=>wI d fun j=>(-(2 ^ 62)<=j/\j < 2 ^ 62)/\wS (Zav tg bd (Zai 0 j.toNat) ρ M1) N R B C E) E:=by
 unfold Zbr;rw[ZI]
 congr 1
 funext ds M1
 rcases ds with _ | ⟨v,_ | ⟨w,r⟩⟩
 ·rfl
 ·cases v<;>try rfl
  rename_i j
  by_cases h: -(2 ^ 62)<=j/\j < 2 ^ 62
  ·simp only[w1,wI,eq_true h,true_and,if_true]
  ·simp only[w1,wI,eq_false h,false_and,if_false]
   rfl
 ·cases v<;>rfl
theorem Zfa (I:Nat->Ro->Sto->Prop){n:Nat}{lo:Int}(h0:I 0 ρ M)(st: ∀ i ρ M,i < n->I i ρ M->wG (tg (.int (lo + i)) ρ) fun r=>wS (bd r M) (I (i + 1)) R N (I (i + 1)) E)(hn: ∀ ρ M,I n ρ M->N ρ M):wS (Zav tg bd (Zai lo n) ρ M) N R B C E:=by
 have hl:(Zai lo n).length=n:=by simp[Zai]
 refine Ze9 I _ 0 ρ M h0 (fun i ρ M h hI=> ?_) (fun ρ M hI=>hn ρ M (by rw[hl,Nat.zero_add] at hI;exact hI))
 have:(Zai lo n)[i]= .int (lo + i):=by simp[Zai]
 rw[this];rw[Nat.zero_add] at *;exact st i ρ M (by rw[hl] at h;exact h) hI
theorem Zj6:wS (Zlr tg f bd ρ M) N R B C E=wO (f ρ M) (fun d M1=>wS (ZgD tg bd d ρ M1) N R B C E) E:=ZI
theorem ZhR (I:Nat->Ro->Sto->Prop){n:Nat}{xs:List D}: ∀ (f i:Nat) (ρ:Ro) (M:Sto),i + f=xs.length->I i ρ M->(∀ i ρ M,I i ρ M->M[n]?=some (.lst xs))->(∀ i ρ M (h:i < xs.length),I i ρ M->wG (tg xs[i] ρ) fun r=>wS (bd r M) (I (i + 1)) R N (I (i + 1)) E)->(∀ ρ M,I xs.length ρ M->N ρ M)->wS (Zd3 tg bd n f i ρ M) N R B C E:=by
  intro f
  induction f with
  |zero=>
   intro i ρ M e h hm st hn;have hx:=hm _ _ _ h
   unfold Zd3;rw[hx]
   have:xs[i]?=none:=List.getElem?_eq_none (by omega)
   simp only[this];exact hn ρ M (by rw[show xs.length=i by omega];exact h)
  |succ f ih=>
   intro i ρ M e h hm st hn;have hx:=hm _ _ _ h
   unfold Zd3;rw[hx];have hi:i < xs.length:=by omega
   have:xs[i]?=some xs[i]:=List.getElem?_eq_getElem hi
   simp only[this];have s:=st i ρ M hi h
   cases e:tg xs[i] ρ with
   |none=>rw[e] at s;exact s.elim
   |some ρ1=>
    rw[e] at s;simp only[wG] at s;have rc: ∀ ρ2 M2,I (i + 1) ρ2 M2->wS (Zd3 tg bd n f (i + 1) ρ2 M2) N R B C E:=fun ρ2 M2 h2=>ih (i + 1) ρ2 M2 (by omega) h2 hm st hn
    cases eg:bd ρ1 M<;>rw[eg] at s<;>simp only[eg]
    ·exact rc _ _ s
    ·exact s
    ·exact s
    ·exact rc _ _ s
    ·exact s
    ·exact s
theorem ZhS (I:Nat->Ro->Sto->Prop){n:Nat}{xs:List D}(hM:M[n]?=some (.lst xs))(h0:I 0 ρ M)(hm: ∀ i ρ M,I i ρ M->M[n]?=some (.lst xs))(st: ∀ i ρ M (h:i < xs.length),I i ρ M->wG (tg xs[i] ρ) fun r=>wS (bd r M) (I (i + 1)) R N (I (i + 1)) E)(hn: ∀ ρ M,I xs.length ρ M->N ρ M):wS (ZgD tg bd (.ref n) ρ M) N R B C E:=by
 show wS (match M[n]? with | some (.lst xs)=>Zd3 tg bd n xs.length 0 ρ M | none=> .bad) N R B C E
 rw[hM];exact ZhR I xs.length 0 ρ M (by omega) h0 hm st hn
theorem ZhT:wS (Zjy tg fi bd ρ M) N R B C E=wO (fi ρ M) (fun src M1=>wS (Zf5 tg bd src (cnt src M1) 0 ρ M1) N R B C E) E:=ZI
theorem ZnS (I:Nat->Ro->Sto->Prop){src:Src}{xs:List D}: ∀ (f i:Nat) (ρ:Ro) (M:Sto),i<=xs.length->xs.length<=i + f->I i ρ M->(∀ i ρ M,i<=xs.length->I i ρ M->nxt src i M=some xs[i]?)->(∀ i ρ M (h:i < xs.length),I i ρ M->wG (tg xs[i] ρ) fun r=>wS (bd r M) (I (i + 1)) R N (I (i + 1)) E)->(∀ ρ M,I xs.length ρ M->N ρ M)->wS (Zf5 tg bd src f i ρ M) N R B C E:=by
  intro f
  induction f with
  |zero=>
   intro i ρ M le e h hm st hn;have hx:=hm _ _ _ le h
   unfold Zf5;rw[hx];have hi: ¬ i < xs.length:=by omega
   have:xs[i]?=none:=List.getElem?_eq_none (by omega)
   simp only[this];exact hn ρ M (by rw[show xs.length=i by omega];exact h)
  |succ f ih=>
   intro i ρ M le e h hm st hn;have hx:=hm _ _ _ le h
   unfold Zf5;rw[hx]
   by_cases hi:i < xs.length
   ·have:xs[i]?=some xs[i]:=List.getElem?_eq_getElem hi
    simp only[this];have s:=st i ρ M hi h
    cases e:tg xs[i] ρ with
    |none=>rw[e] at s;exact s.elim
    |some ρ1=>
     rw[e] at s;simp only[wG] at s;have rc: ∀ ρ2 M2,I (i + 1) ρ2 M2->wS (Zf5 tg bd src f (i + 1) ρ2 M2) N R B C E:=fun ρ2 M2 h2=>ih (i + 1) ρ2 M2 (by omega) (by omega) h2 hm st hn
     cases eg:bd ρ1 M<;>rw[eg] at s<;>simp only[eg]
     ·exact rc _ _ s
     ·exact s
     ·exact s
     ·exact rc _ _ s
     ·exact s
     ·exact s
   ·have:xs[i]?=none:=List.getElem?_eq_none (by omega)
    simp only[this];exact hn ρ M (by rw[show xs.length=i by omega];exact h)
theorem Zgc {c:Tv}(I:Nat->Ro->Sto->Prop)(st: ∀ n ρ M,I n ρ M->wO (c ρ M) (fun k M1=>Br k (wS (bd ρ M1) (fun ρ2 M2=> ∃ m,m < n/\I m ρ2 M2) R N (fun ρ2 M2=> ∃ m,m < n/\I m ρ2 M2) E) (N ρ M1)) E): ∀ (n:Nat) (ρ:Ro) (M:Sto),I n ρ M->wS (sWh c bd ρ M) N R B C E:=by
 intro n
 induction n using Nat.strongRecOn with
 |ind n ih=>
  intro ρ M h;have s:=st n ρ M h
  cases ec:c ρ M with
  |bad=>rw[ec] at s;exact s.elim
  |exc x M1=>rw[ec] at s;rw[Za9 (n:=1) (o:= .exc x M1) (by simp only[whN,ec])];exact s
  |ok k M1=>
   rw[ec] at s;cases k with
   |false=>
    rw[Zl,ZnR] at s;rw[Zcq ec];exact s
   |true=>
    rw[Zl,ZjX] at s;cases eg:bd ρ M1 with
    |nx ρ2 M2=>
     rw[eg] at s;obtain ⟨m,hm,hI⟩:=s
     have r:=ih m hm ρ2 M2 hI
     rw[Zdo ec eg (by intro z;rw[z] at r;exact r)]
     exact r
    |cnt ρ2 M2=>
     rw[eg] at s;obtain ⟨m,hm,hI⟩:=s
     have r:=ih m hm ρ2 M2 hI
     have nb:sWh c bd ρ2 M2≠ .bad:=by intro z;rw[z] at r;exact r
     obtain ⟨j,ej⟩:=ZeJ nb
     rw[Za9 (n:=j + 1) (o:=sWh c bd ρ2 M2) (by simp only[whN,ec,eg];exact ej)]
     exact r
    |brk ρ2 M2=>rw[eg] at s;rw[Za9 (n:=1) (o:= .nx ρ2 M2) (by simp only[whN,ec,eg])];exact s
    |ret d M2=>rw[eg] at s;rw[Za9 (n:=1) (o:= .ret d M2) (by simp only[whN,ec,eg])];exact s
    |exc d M2=>rw[eg] at s;rw[Za9 (n:=1) (o:= .exc d M2) (by simp only[whN,ec,eg])];exact s
    |bad=>rw[eg] at s;exact s.elim
theorem ZhU {fi:Ro->Sto->Out Src}{k:Nat}{fr:List Nat}{c:Tv}:wO (Z3 fi k fr tg c f ρ M) Q E=wO (fi ρ M) (fun src M1=>wO (ZbB src tg c f M1.length (cnt src M1) 0 (roB k fr ρ) (M1 ++ [.lst []])) (fun _ M2=>Q (.ref M1.length) M2) (fun _ _=>False)) E:=by
 unfold Z3;rw[Zk]
 congr 1
 funext src M1
 cases ZbB src tg c f M1.length (cnt src M1) 0 (roB k fr ρ) (M1 ++ [.lst []])<;>rfl
theorem Zfb (I:Nat->Ro->Sto->Prop){src:Src}{xs:List D}{c:Tv}{m:Nat}{Q:Sto->Prop}: ∀ (fu i:Nat) (ρ:Ro) (M:Sto),i<=xs.length->xs.length<=i + fu->I i ρ M->(∀ i ρ M,i<=xs.length->I i ρ M->nxt src i M=some xs[i]?)->
  (∀ i ρ M (h:i < xs.length),I i ρ M->wG (tg xs[i] ρ) fun r=>wO (c r M) (fun k M1=>Br k (wO (f r M1) (fun y M2=>wL M2[m]? fun ys=>ys.length < 10000000/\I (i + 1) r (M2.set m (.lst (ys ++ [y])))) (fun _ _=>False)) (I (i + 1) r M1)) (fun _ _=>False))->
  (∀ ρ M,I xs.length ρ M->Q M)->wO (ZbB src tg c f m fu i ρ M) (fun _ M2=>Q M2) (fun _ _=>False):=by
  intro fu
  induction fu with
  |zero=>
   intro i ρ M le e h hm st hn;have hx:=hm _ _ _ le h
   unfold ZbB;rw[hx];have hi: ¬ i < xs.length:=by omega
   have:xs[i]?=none:=List.getElem?_eq_none (by omega)
   simp only[this];exact hn ρ M (by rw[show xs.length=i by omega];exact h)
  |succ fu ih=>
   intro i ρ M le e h hm st hn;have hx:=hm _ _ _ le h
   unfold ZbB;rw[hx]
   by_cases hi:i < xs.length
   ·have:xs[i]?=some xs[i]:=List.getElem?_eq_getElem hi
    simp only[this];have s:=st i ρ M hi h
    cases e:tg xs[i] ρ with
    |none=>rw[e] at s;exact s.elim
    |some ρ1=>
     rw[e] at s;simp only[wG] at s;have rc: ∀ ρ2 M2,I (i + 1) ρ2 M2->wO (ZbB src tg c f m fu (i + 1) ρ2 M2) (fun _ M2=>Q M2) (fun _ _=>False):=fun ρ2 M2 h2=>ih (i + 1) ρ2 M2 (by omega) (by omega) h2 hm st hn
     cases ec:c ρ1 M with
     |bad=>rw[ec] at s;exact s.elim
     |exc _ _=>rw[ec] at s;exact s.elim
     |ok k M1=>
      rw[ec] at s;rw[Zl] at s;cases k with
      |false=>
       rw[ZnR] at s;simp only[ec];exact rc _ _ s
      |true=>
       rw[ZjX] at s;simp only[ec];cases ef:f ρ1 M1 with
       |bad=>rw[ef] at s;exact s.elim
       |exc _ _=>rw[ef] at s;exact s.elim
       |ok y M2=>
        rw[ef,Zl] at s;simp only[ef];cases ey:M2[m]? with
        |none=>rw[ey] at s;exact s.elim
        |some o=>
         cases o with
         |lst ys=>
          rw[ey] at s;simp only[wL,ey] at s ⊢;rw[if_pos s.1];exact rc _ _ s.2
   ·have:xs[i]?=none:=List.getElem?_eq_none (by omega)
    simp only[this];exact hn ρ M (by rw[show xs.length=i by omega];exact h)
end
end DL
end
section
namespace DL
open PySem PySem.Spec PyProof.Rows L2
section
variable {Q:D->Sto->Prop}{E:Str->Sto->Prop}{N B C:Ro->Sto->Prop}{R:D->Sto->Prop}{ρ:Ro}{M:Sto}{f:Ev}{fs:Av}{i j:Int}{n m k:Nat}{x y d:D}{xs ys ds:List D}{lo hi:Ro->Sto->Out (Option Int)}
theorem ZcB (h: -(18446744073709551616) < i/\i < 18446744073709551616):Zs i j:=Zbu h.1 h.2
theorem ZbX (h: -(18446744073709551616) < j/\j < 18446744073709551616):Zs i j:=Z4 h.1 h.2
theorem Zba (h:0 < j/\j < 18446744073709551616):ZK j:=by
 refine ⟨by omega,?_⟩
 have:j.natAbs.log2 < 64:=(Nat.log2_lt (by omega)).mpr (by omega)
 omega
theorem Zl6:wO (dAdd (.int i) (.int j) M) Q E=Q (.int (i + j)) M:=rfl
theorem Zl7:wO (dSub (.int i) (.int j) M) Q E=Q (.int (i - j)) M:=rfl
theorem ZgN (h:Zs i j):wO (dMul (.int i) (.int j) M) Q E=Q (.int (i * j)) M:=by
 show wO (if Zs i j then _ else _) Q E=_
 rw[if_pos h];rfl
theorem Zl8 (h: -(18446744073709551616) < i/\i < 18446744073709551616):wO (dMul (.int i) (.int j) M) Q E=Q (.int (i * j)) M:=ZgN (ZcB h)
theorem Zj7 (h: -(18446744073709551616) < j/\j < 18446744073709551616):wO (dMul (.int i) (.int j) M) Q E=Q (.int (i * j)) M:=ZgN (ZbX h)
theorem Zl9 (h:0 < j/\j < 18446744073709551616):wO (dDiv (.int i) (.int j) M) Q E=Q (.int (i / j)) M:=by
 show wO (if ZK j then _ else _) Q E=_
 rw[if_pos (Zba h),Int.fdiv_eq_ediv_of_nonneg _ (by omega)];rfl
theorem Zma (h:0 < j):wO (dMod (.int i) (.int j) M) Q E=Q (.int (i % j)) M:=by
 show wO (if j≠0 then _ else _) Q E=_
 rw[if_pos (by omega),Int.fmod_eq_emod_of_nonneg _ (by omega)];rfl
theorem Zmb (h:0<=j/\j<=1000000/\i.natAbs < 18446744073709551616):wO (dPow (.int i) (.int j) M) Q E=Q (.int (i ^ j.toNat)) M:=by
 show wO (if 0<=j/\j<=1000000/\i.natAbs < 2 ^ 64 then _ else _) Q E=_
 rw[if_pos ⟨h.1,h.2.1,by omega⟩];rfl
theorem Zpl:wO (dLt (.int i) (.int j) M) Q E=Q (.bl (decide (i < j))) M:=rfl
theorem Zpm:wO (dLe (.int i) (.int j) M) Q E=Q (.bl (decide (i<=j))) M:=rfl
theorem Zpn:wO (dGt (.int i) (.int j) M) Q E=Q (.bl (decide (j < i))) M:=rfl
theorem Zpo:wO (dGe (.int i) (.int j) M) Q E=Q (.bl (decide (j<=i))) M:=rfl
theorem Zmc:wO (dAdd (.ref n) (.ref m) M) Q E=wL M[n]? fun xs=>wL M[m]? fun ys=>xs.length + ys.length<=10000000/\Q (.ref M.length) (M ++ [.lst (xs ++ ys)]):=by
 show wO (match M[n]?,M[m]? with | some (.lst xs),some (.lst ys)=>_ | _,_=>_) Q E=_
 cases e1:M[n]? with
 |none=>rfl
 |some o=>
  cases o with
  |lst xs=>
   cases e2:M[m]? with
   |none=>rfl
   |some p=>
    cases p with
    |lst ys=>
     by_cases h:xs.length + ys.length<=10000000
     ·simp[wL,h,wO]
     ·simp[wL,h,wO]
theorem Zj8 (h:xs.length + ys.length<=100000/\xs≠[]):wO (dAdd (.tup xs) (.tup ys) M) Q E=Q (.tup (xs ++ ys)) M:=by
 show wO (if xs.length + ys.length<=100000/\xs≠[] then _ else _) Q E=_
 rw[if_pos h];rfl
theorem Zpp:wO (dEq x y M) Q E=wG (eqF 12 M x y) fun b=>Q (.bl b) M:=by
 show wO (match eqF 12 M x y with | some b=>_ | none=>_) Q E=_
 cases eqF 12 M x y<;>rfl
theorem Zpq:wO (dNe x y M) Q E=wG (eqF 12 M x y) fun b=>Q (.bl (!b)) M:=by
 show wO (match eqF 12 M x y with | some b=>_ | none=>_) Q E=_
 cases eqF 12 M x y<;>rfl
theorem Zpr:wO (dIs x y M) Q E=wG (isP x y) fun b=>Q (.bl b) M:=by
 show wO (match isP x y with | some b=>_ | none=>_) Q E=_
 cases isP x y<;>rfl
theorem Zmd:wO (ZaI x y M) Q E=wG (isP x y) fun b=>Q (.bl (!b)) M:=by
 show wO (match isP x y with | some b=>_ | none=>_) Q E=_
 cases isP x y<;>rfl
theorem ZhV:wO (atD xs i M) Q E=wG (atI xs i) fun d=>Q d M:=by
 unfold atD;cases atI xs i<;>rfl
theorem Zme:wO (dIx (.tup xs) (.int i) M) Q E=wG (atI xs i) fun d=>Q d M:=ZhV
theorem Zmf:wO (dIx (.rol xs) (.int i) M) Q E=wG (atI xs i) fun d=>Q d M:=ZhV
theorem Zmg:wO (dIx (.ref n) (.int i) M) Q E=wL M[n]? fun xs=>wG (atI xs i) fun d=>Q d M:=by
 show wO (match M[n]? with | some (.lst xs)=>atD xs i M | _=> .bad) Q E=_
 cases e1:M[n]? with
 |none=>rfl
 |some o=>cases o with | lst xs=>exact ZhV
theorem Zj9:wO (bLen [.ref n] M) Q E=wL M[n]? fun xs=>Q (.int xs.length) M:=by
 show wO (match (match M[n]? with | some (.lst xs)=>some xs | _=>none) with | some xs=>_ | none=>_) Q E=_
 cases e1:M[n]? with
 |none=>rfl
 |some o=>cases o with | lst xs=>rfl
theorem Zka:wO (bLen [.tup xs] M) Q E=Q (.int xs.length) M:=rfl
theorem Zkb:wO (bLen [.rol xs] M) Q E=Q (.int xs.length) M:=rfl
theorem Zmh:wO (bAbs [.int i] M) Q E=Q (.int (i.natAbs:Int)) M:=by rw[<- Ze6];rfl
theorem Zmi:wO (bMax [.int i,.int j] M) Q E=Q (.int (max i j)) M:=by
 have:max i j=if j > i then j else i:=by split<;>omega
 rw[this];rfl
theorem Zmj:wO (bMin [.int i,.int j] M) Q E=Q (.int (min i j)) M:=by
 have:min i j=if j < i then j else i:=by split<;>omega
 rw[this];rfl
theorem Zkc {k:Bool}:wO (bInt [.bl k] M) Q E=Q (.int (if k then 1 else 0)) M:=rfl
theorem Zkd:wO (bInt [.int i] M) Q E=Q (.int i) M:=rfl
theorem ZhW:wO (bList [.ref n] M) Q E=wL M[n]? fun xs=>Q (.ref M.length) (M ++ [.lst xs]):=by
 show wO (match (match M[n]? with | some (.lst xs)=>some xs | _=>none) with | some xs=>_ | none=>_) Q E=_
 cases e1:M[n]? with
 |none=>rfl
 |some o=>cases o with | lst xs=>rfl
theorem ZhX:wO (bList [.tup xs] M) Q E=Q (.ref M.length) (M ++ [.lst xs]):=rfl
theorem Zmk:wO (bAll [.ref n] M) Q E=wL M[n]? fun xs=>wG (ZH xs) fun bs=>Q (.bl (bs.all id)) M:=by
 show wO (match M[n]? with | some (.lst xs)=>(match ZH xs with | some bs=>Out.ok (.bl (bs.all id)) M | none=> .bad) | none=> .bad) Q E=_
 cases e1:M[n]? with
 |none=>rfl
 |some o=>
  cases o with
  |lst xs=>
   show wO (match ZH xs with | some bs=>Out.ok (.bl (bs.all id)) M | none=> .bad) Q E=wG (ZH xs) _
   cases ZH xs<;>rfl
theorem Zke {g:List Int->Option Int}:wO (Zjz g [.ref n] M) Q E=wL M[n]? fun xs=>wG (Zcw xs) fun ns=>wG (g ns) fun i=>Q (.int i) M:=by
 show wO (match (match M[n]? with | some (.lst xs)=>some xs | _=>none) with | some xs=>(match Zcw xs with | some ns=>(match g ns with | some i=>Out.ok (.int i) M | none=> .bad) | none=> .bad) | none=> .bad) Q E=_
 cases e1:M[n]? with
 |none=>rfl
 |some o=>
  cases o with
  |lst xs=>
   show wO (match Zcw xs with | some ns=>(match g ns with | some i=>Out.ok (.int i) M | none=> .bad) | none=> .bad) Q E=wG (Zcw xs) _
   cases Zcw xs with
   |none=>rfl
   |some ns=>
    show wO (match g ns with | some i=>Out.ok (.int i) M | none=> .bad) Q E=wG (g ns) _
    cases g ns<;>rfl
theorem Zps {g:Me}{fo:Ev}:wO (ZgF g fo fs ρ M) Q E=wO (fo ρ M) (fun x M1=>ZhA x M1=true/\wO (fs ρ M1) (fun ds M2=>wO (g x ds M2) Q E) E) E:=by
 unfold ZgF;rw[Zk]
 congr 1
 funext x M1
 by_cases h:ZhA x M1=true
 ·simp only[h,if_true,true_and];rw[Zk]
 ·simp[h,wO]
theorem Zkf:ZhA (.ref n) M=M[n]?.isSome:=rfl
theorem Zml:wO (mApp (.ref n) [d] M) Q E=wL M[n]? fun xs=>xs.length < 10000000/\Q .non (M.set n (.lst (xs ++ [d]))):=by
 show wO (match M[n]? with | some (.lst xs)=>if xs.length < 10000000 then _ else _ | none=>_) Q E=_
 cases e1:M[n]? with
 |none=>rfl
 |some o=>
  cases o with
  |lst xs=>
   by_cases h:xs.length < 10000000
   ·simp[wL,h,wO]
   ·simp[wL,h,wO]
theorem Zmm:wO (ZnO (.ref n) [] M) Q E=wL M[n]? fun xs=>Q .non (M.set n (.lst [])):=by
 show wO (match M[n]? with | some (.lst xs)=>_ | none=>_) Q E=_
 cases e1:M[n]? with
 |none=>rfl
 |some o=>cases o with | lst xs=>rfl
theorem Zmn:wO (ZnP (.ref n) [.ref m] M) Q E=wL M[n]? fun xs=>wL M[m]? fun ys=>xs.length + ys.length<=10000000/\Q .non (M.set n (.lst (xs ++ ys))):=by
 show wO (match M[n]?,M[m]? with | some (.lst xs),some (.lst ys)=>if xs.length + ys.length<=10000000 then _ else _ | _,_=>_) Q E=_
 cases e1:M[n]? with
 |none=>rfl
 |some o=>
  cases o with
  |lst xs=>
   cases e2:M[m]? with
   |none=>rfl
   |some p=>
    cases p with
    |lst ys=>
     by_cases h:xs.length + ys.length<=10000000
     ·simp[wL,h,wO]
     ·simp[wL,h,wO]
noncomputable def slR (x:D)(l u:Option Int)(M3:Sto):Out D:=match x with
 | .ref n=>(match M3[n]? with | some (.lst xs)=> .ok (.ref M3.length) (M3 ++ [.lst (Zd4 xs l u)]) | none=> .bad)
 | .rol xs=> .ok (.ref M3.length) (M3 ++ [.lst (Zd4 xs l u)])
 | .tup xs=>if HT.sIx xs.length 0 l=0/\HT.sIx xs.length xs.length u=xs.length then .bad else .ok (.tup (Zd4 xs l u)) M3
 |_=> .bad
theorem Zmo:wO (eSl f lo hi ρ M) Q E=wO (f ρ M) (fun x M1=>wO (lo ρ M1) (fun l M2=>wO (hi ρ M2) (fun u M3=>wO (slR x l u M3) Q E) E) E) E:=by
 unfold eSl;rw[Zk]
 congr 1
 funext x M1
 rw[Zk]
 congr 1
 funext l M2
 rw[Zk]
 congr 1
theorem Zmp {l u:Option Int}:wO (slR (.ref n) l u M) Q E=wL M[n]? fun xs=>Q (.ref M.length) (M ++ [.lst (Zd4 xs l u)]):=by
 unfold slR;cases e1:M[n]? with
 |none=>simp only[e1];rfl
 |some o=>cases o with | lst xs=>simp only[e1];rfl
theorem Zmq {Q:Option Int->Sto->Prop}:wO (oSo f ρ M) Q E=wO (f ρ M) (fun x M1=>wI x fun i=>Q (some i) M1) E:=by
 unfold oSo;rw[Zk]
 congr 1
 funext x M1
 cases x<;>rfl
theorem Zkg (h:0<=i):Zd4 xs none (some i)=xs.take i.toNat:=by
 unfold Zd4;simp only[HT.sIx];rw[if_neg (by omega),List.drop_zero,Nat.sub_zero]
 by_cases c:i.toNat<=xs.length
 ·rw[Nat.min_eq_left c]
 ·rw[Nat.min_eq_right (by omega),List.take_of_length_le (Nat.le_refl _),List.take_of_length_le (by omega)]
theorem Zgd (h:0<=i):Zd4 xs (some i) none=xs.drop i.toNat:=by
 unfold Zd4;simp only[HT.sIx];rw[if_neg (by omega)]
 by_cases c:i.toNat<=xs.length
 ·rw[Nat.min_eq_left c,List.take_of_length_le (by simp)]
 ·rw[Nat.min_eq_right (by omega),List.drop_eq_nil_of_le (Nat.le_refl _),List.drop_eq_nil_of_le (by omega),List.take_nil]
theorem Zfc {L:Sto}:(M ++ L)[M.length]?=L[0]?:=by rw[List.getElem?_append_right (Nat.le_refl _),Nat.sub_self]
theorem ZhY {L:Sto}{i:Nat}:(M ++ L)[M.length + i]?=L[i]?:=by rw[List.getElem?_append_right (by omega)];congr 1;omega
theorem Z0 {L:Sto}(h:n < M.length):(M ++ L)[n]?=M[n]?:=List.getElem?_append_left h
theorem ZgO {L:Sto}{o:SO}:(M ++ L).set M.length o=M ++ L.set 0 o:=by rw[List.set_append_right _ _ (Nat.le_refl _),Nat.sub_self]
theorem Zmr {L:Sto}{o:SO}{i:Nat}:(M ++ L).set (M.length + i) o=M ++ L.set i o:=by rw[List.set_append_right _ _ (by omega)];congr 2;omega
theorem Zkh {o:SO}(h:k≠n):(M.set n o)[k]?=M[k]?:=List.getElem?_set_ne (Ne.symm h)
theorem Zki {o:SO}(h:n < M.length):(M.set n o)[n]?=some o:=List.getElem?_set_self h
theorem Zt {o:SO}(h:M[n]?=some o):n < M.length:=(List.getElem?_eq_some_iff.mp h).1
noncomputable abbrev pr (x y:Int):D:= .tup [.int x,.int y]
noncomputable def prs (rs:List (Int × Int)):List D:=rs.map fun p=>pr p.1 p.2
noncomputable def nts (ns:List Int):List D:=ns.map D.int
theorem ZhZ {rs:List (Int × Int)}:(prs rs).length=rs.length:=List.length_map _
theorem ZM {rs:List Int}:(nts rs).length=rs.length:=List.length_map _
theorem Zh0 {a b:List (Int × Int)}:prs a ++ prs b=prs (a ++ b):=(List.map_append).symm
theorem Zh1 {a b:List Int}:nts a ++ nts b=nts (a ++ b):=(List.map_append).symm
theorem Zge {a:List (Int × Int)}:(prs a).take n=prs (a.take n):=List.map_take.symm
theorem Zgf {a:List (Int × Int)}:(prs a).drop n=prs (a.drop n):=List.map_drop.symm
theorem Zgg {a:List Int}:(nts a).take n=nts (a.take n):=List.map_take.symm
theorem Zgh {a:List Int}:(nts a).drop n=nts (a.drop n):=List.map_drop.symm
theorem Zgi {a b:Int}{r:List (Int × Int)}:pr a b :: prs r=prs ((a,b) :: r):=rfl
theorem Zh2 {a:List (Int × Int)}{b c:Int}:(prs a).set n (pr b c)=prs (a.set n (b,c)):=by unfold prs;rw[List.map_set]
theorem Zh3 {a:List Int}{b:Int}:(nts a).set n (.int b)=nts (a.set n b):=by unfold nts;rw[List.map_set]
noncomputable def cy (rs:List (Int × Int))(i:Int):Int × Int:=rs.getD (i % rs.length).toNat (0,0)
noncomputable def cn (rs:List Int)(i:Int):Int:=rs.getD (i % rs.length).toNat 0
theorem Zkj {rs:List (Int × Int)}:cy rs (i % rs.length)=cy rs i:=by unfold cy;rw[Int.emod_emod_of_dvd _ (Int.dvd_refl _)]
theorem Zkk {rs:List (Int × Int)}:cy rs (i - rs.length)=cy rs i:=by unfold cy;rw[Int.sub_emod_right]
theorem Zkl {a b:Int}:eqF (n + 1) M (.int a) (.int b)=some (decide (a=b)):=rfl
theorem Zpt {a b:Bool}:eqF (n + 1) M (.bl a) (.bl b)=some (a == b):=rfl
theorem ZnT {a b c d:Int}:eqF (n + 2) M (pr a b) (pr c d)=some (decide ((a,b)=(c,d))):=by
 show some ((a == c) && ((b == d) && true))=_
 congr 1
 rw[Bool.eq_iff_iff]
 simp
theorem Zkm {rs ss:List (Int × Int)}:eqL (eqF (n + 2) M) (prs rs) (prs ss)=some (decide (rs=ss)):=by
 induction rs generalizing ss with
 |nil=>cases ss<;>rfl
 |cons r rs ih=>
  cases ss with
  |nil=>rfl
  |cons s ss=>
   show (match eqF (n + 2) M (pr r.1 r.2) (pr s.1 s.2) with | some a=>(match eqL _ (prs rs) (prs ss) with | some b=>some (a && b) | none=>none) | none=>none)=_
   rw[ZnT,ih];simp only[]
   congr 1
   rw[Bool.eq_iff_iff];obtain ⟨r1,r2⟩:=r
   obtain ⟨s1,s2⟩:=s
   simp
theorem ZgP {rs ss:List Int}:eqL (eqF (n + 1) M) (nts rs) (nts ss)=some (decide (rs=ss)):=by
 induction rs generalizing ss with
 |nil=>cases ss<;>rfl
 |cons r rs ih=>
  cases ss with
  |nil=>rfl
  |cons s ss=>
   show (match eqF (n + 1) M (.int r) (.int s) with | some a=>(match eqL _ (nts rs) (nts ss) with | some b=>some (a && b) | none=>none) | none=>none)=_
   rw[Zkl,ih];simp only[]
   congr 1
   rw[Bool.eq_iff_iff]
   simp
theorem Zfd {xs ys:List D}(h1:M[n]?=some (.lst xs))(h2:M[m]?=some (.lst ys)):eqF (k + 1) M (.ref n) (.ref m)=if xs.length=ys.length then eqL (eqF k M) xs ys else some false:=by
 show (match kd M (.ref n),kd M (.ref m) with | some a,some b=>eqK (eqF k M) a b | _,_=>none)=_
 have e1:kd M (.ref n)=some (.lst xs):=by show (match M[n]? with | some (.lst xs)=>some (Kd.lst xs) | _=>none)=_;rw[h1]
 have e2:kd M (.ref m)=some (.lst ys):=by show (match M[m]? with | some (.lst xs)=>some (Kd.lst xs) | _=>none)=_;rw[h2]
 rw[e1,e2];rfl
theorem Zh4 {rs ss:List Int}(h1:M[n]?=some (.lst (nts rs)))(h2:M[m]?=some (.lst (nts ss))):eqF 12 M (.ref n) (.ref m)=some (decide (rs=ss)):=by
 rw[Zfd h1 h2,ZM,ZM]
 by_cases c:rs.length=ss.length
 ·rw[if_pos c,ZgP]
 ·rw[if_neg c]
  congr 1
  symm
  exact decide_eq_false fun z=>c (by rw[z])
theorem Zkn:ZG M (.int i)=some "int":=rfl
theorem Zms {b:Bool}:ZG M (.bl b)=some "bool":=rfl
theorem Zko:ZG M (.tup xs)=some "tuple":=rfl
theorem Zkp:ZG M .non=some "NoneType":=rfl
theorem ZgQ (h:M[n]?=some (.lst xs)):ZG M (.ref n)=some "list":=by
 show (match (match M[n]? with | some (.lst xs)=>some (Kd.lst xs) | _=>none) with | some .non=>_ | some (.bl _)=>_ | some (.int _)=>_ | some (.str _)=>_ | some (.tup _)=>_ | some (.lst _)=>_ | none=>_)=_
 rw[h]
end
end DL
end
section
namespace DL
open PySem PySem.Spec PyProof.Rows L2
section
variable {Q:D->Sto->Prop}{E:Str->Sto->Prop}{N B C:Ro->Sto->Prop}{R:D->Sto->Prop}{ρ:Ro}{M:Sto}{f:Ev}{fs:Av}{i j:Int}{n m k:Nat}{x y z d:D}{xs ys ds:List D}{QS:Src->Sto->Prop}{tg:Tg}{bd:Sv}{b:Bool}
theorem Zh5:wS (ZeK tg fs bd ρ M) N R B C E=wO (fs ρ M) (fun ds M1=>w2 ds fun x y=>wI x fun i=>wI y fun j=>(-(2 ^ 62)<=i/\i < 2 ^ 62/\ -(2 ^ 62)<=j/\j < 2 ^ 62)/\wS (Zav tg bd (Zai i (j - i).toNat) ρ M1) N R B C E) E:=by
 unfold ZeK;rw[ZI]
 congr 1
 funext ds M1
 rcases ds with _ | ⟨v,_ | ⟨w,_ | ⟨w',r⟩⟩⟩
 ·rfl
 ·cases v<;>rfl
 ·cases v<;>try rfl
  cases w<;>try rfl
  rename_i i j
  by_cases h: -(2 ^ 62)<=i/\i < 2 ^ 62/\ -(2 ^ 62)<=j/\j < 2 ^ 62
  ·simp only[w2,wI,eq_true h,true_and,if_true]
  ·simp only[w2,wI,eq_false h,false_and,if_false]
   rfl
 ·cases v<;>cases w<;>rfl
theorem Zpu:wO (iR1 fs ρ M) QS E=wO (fs ρ M) (fun ds M1=>w1 ds fun d=>wI d fun j=>(-(2 ^ 62)<=j/\j < 2 ^ 62)/\QS (.pur (Zai 0 j.toNat)) M1) E:=by
 unfold iR1;rw[Zk]
 congr 1
 funext ds M1
 rcases ds with _ | ⟨v,_ | ⟨w,r⟩⟩
 ·rfl
 ·cases v<;>try rfl
  rename_i j
  by_cases h: -(2 ^ 62)<=j/\j < 2 ^ 62
  ·simp only[w1,wI,eq_true h,true_and,if_true,Zl]
  ·simp only[w1,wI,eq_false h,false_and,if_false]
   rfl
 ·cases v<;>rfl
theorem Zpv:wO (iR2 fs ρ M) QS E=wO (fs ρ M) (fun ds M1=>w2 ds fun x y=>wI x fun i=>wI y fun j=>(-(2 ^ 62)<=i/\i < 2 ^ 62/\ -(2 ^ 62)<=j/\j < 2 ^ 62)/\QS (.pur (Zai i (j - i).toNat)) M1) E:=by
 unfold iR2;rw[Zk]
 congr 1
 funext ds M1
 rcases ds with _ | ⟨v,_ | ⟨w,_ | ⟨w',r⟩⟩⟩
 ·rfl
 ·cases v<;>rfl
 ·cases v<;>try rfl
  cases w<;>try rfl
  rename_i i j
  by_cases h: -(2 ^ 62)<=i/\i < 2 ^ 62/\ -(2 ^ 62)<=j/\j < 2 ^ 62
  ·simp only[w2,wI,eq_true h,true_and,if_true,Zl]
  ·simp only[w2,wI,eq_false h,false_and,if_false]
   rfl
 ·cases v<;>cases w<;>rfl
theorem Zpw:wO (iEn fs ρ M) QS E=wO (fs ρ M) (fun ds M1=>w1 ds fun d=>wR d fun n=>QS (.enu n) M1) E:=by
 unfold iEn;rw[Zk]
 congr 1
 funext ds M1
 rcases ds with _ | ⟨v,_ | ⟨w,r⟩⟩<;>try rfl
 ·cases v<;>rfl
 ·cases v<;>rfl
theorem Zpx:wO (iZp fs ρ M) QS E=wO (fs ρ M) (fun ds M1=>w2 ds fun x y=>wR x fun n=>wR y fun m=>QS (.zip n m) M1) E:=by
 unfold iZp;rw[Zk]
 congr 1
 funext ds M1
 rcases ds with _ | ⟨v,_ | ⟨w,_ | ⟨w',r⟩⟩⟩<;>try rfl
 ·cases v<;>rfl
 ·cases v<;>cases w<;>rfl
 ·cases v<;>cases w<;>rfl
theorem Zpy:wO (iRv fs ρ M) QS E=wO (fs ρ M) (fun ds M1=>w1 ds fun d=>wR d fun n=>wL M1[n]? fun xs=>QS (.rev n xs.length) M1) E:=by
 unfold iRv;rw[Zk]
 congr 1
 funext ds M1
 rcases ds with _ | ⟨v,_ | ⟨w,r⟩⟩<;>try rfl
 ·cases v<;>try rfl
  rename_i n;cases e:M1[n]? with
  |none=>simp only[e];simp only[w1,wR,e];rfl
  |some o=>cases o with | lst xs=>simp only[e,w1,wR];rfl
 ·cases v<;>rfl
noncomputable def Zkq (Q:D->Sto->Prop)(ρ:Ro)(M:Sto):Prop:=Q .non M
theorem wF1:wO (fnF bd 1 k [x] M) Q E=wS (bd (some x :: List.replicate k none) M) (Zkq Q) Q (fun _ _=>False) (fun _ _=>False) E:=wF rfl
theorem wF2:wO (fnF bd 2 k [x,y] M) Q E=wS (bd (some x :: some y :: List.replicate k none) M) (Zkq Q) Q (fun _ _=>False) (fun _ _=>False) E:=wF rfl
theorem wF3:wO (fnF bd 3 k [x,y,z] M) Q E=wS (bd (some x :: some y :: some z :: List.replicate k none) M) (Zkq Q) Q (fun _ _=>False) (fun _ _=>False) E:=wF rfl
theorem wF4:wO (fnF bd 4 k [x,y,z,d] M) Q E=wS (bd (some x :: some y :: some z :: some d :: List.replicate k none) M) (Zkq Q) Q (fun _ _=>False) (fun _ _=>False) E:=wF rfl
theorem Zgj {a:List (Int × Int)}{b c:Int}:prs a ++ [pr b c]=prs (a ++ [(b,c)]):=by simp[prs]
theorem Zgk {a:List Int}{b:Int}:nts a ++ [D.int b]=nts (a ++ [b]):=by simp[nts]
theorem Zgl {b:Int}{r:List Int}:D.int b :: nts r=nts (b :: r):=rfl
theorem Zmt:isP .non .non=some true:=rfl
theorem Zmu:isP (.int i) .non=some false:=rfl
theorem Zmv:isP (.tup xs) .non=some false:=rfl
theorem Zmw:isP (.ref n) .non=some false:=rfl
theorem Zfe (h:M[n]?=some (.lst xs)):cnt (.sto n) M=xs.length:=by show (match M[n]? with | some (.lst xs)=>xs.length | none=>0)=_;rw[h]
theorem at2 {r:List D}:atI (x :: y :: z :: r) 2=some z:=by
 show (ixN (r.length + 3) 2).bind _=_
 unfold ixN;rw[if_pos (by decide),if_pos (by omega)]
 rfl
theorem at3 {r:List D}:atI (x :: y :: z :: d :: r) 3=some d:=by
 show (ixN (r.length + 4) 3).bind _=_
 unfold ixN;rw[if_pos (by decide),if_pos (by omega)]
 rfl
theorem Zkr:ZaC "int" "int"=true:=rfl
theorem Zks:ZaC "int" "bool"=false:=rfl
theorem Zkt:ZaC "bool" "int"=true:=rfl
theorem Zku:ZaC "bool" "bool"=true:=rfl
theorem Zkv:ZaC "tuple" "tuple"=true:=rfl
theorem Zkw:ZaC "list" "list"=true:=rfl
theorem Zkx:ZaC "tuple" "int"=false:=rfl
theorem Zky:ZaC "tuple" "list"=false:=rfl
theorem Zkz:ZaC "list" "tuple"=false:=rfl
theorem ZkA:ZaC "list" "int"=false:=rfl
theorem ZkB:ZaC "NoneType" "tuple"=false:=rfl
theorem ZkC:ZaC "NoneType" "list"=false:=rfl
theorem ZgR (h:M[n]?=some (.lst xs)):nxt (.sto n) k M=some xs[k]?:=by
 show (match M[n]? with | some (.lst xs)=>some xs[k]? | none=>none)=_
 rw[h]
section
variable {g:Jv}{bb:Nat}
end
theorem Zh6 {src:Src}(Inv:Ro->Prop)(F:Nat->D){Q:Sto->Prop}(hl:xs.length < 10000000)(hcnt:xs.length<=cnt src M)(h0:Inv ρ)(hs: ∀ (L:Sto) (i:Nat),i<=xs.length->nxt src i (M ++ L)=some xs[i]?)
  (st: ∀ (i:Nat) (h:i < xs.length) (ρ:Ro) (L:Sto),Inv ρ->wG (tg xs[i] ρ) fun r=>Inv r/\wO (f r (M ++ L)) (fun y M2=>y=F i/\M2=M ++ L) (fun _ _=>False)) (hq:Q (M ++ [.lst ((List.range xs.length).map F)])):
  wO (ZbB src tg (fun _ M=> .ok true M) f M.length (cnt src M) 0 ρ (M ++ [.lst []])) (fun _ M2=>Q M2) (fun _ _=>False):=by
 refine Zfb (fun i ρ M'=>Inv ρ/\M'=M ++ [.lst ((List.range i).map F)]) (xs:=xs) _ 0 ρ _ (by simp) (by omega) ⟨h0,rfl⟩ (fun i ρ M' hi hI=>by rw[hI.2];exact hs _ i hi) (fun i ρ M' h hI=> ?_) (fun ρ M' hI=>by rw[hI.2];exact hq)
 obtain ⟨hI,rfl⟩:=hI
 have s:=st i h ρ [.lst ((List.range i).map F)] hI
 cases e:tg xs[i] ρ with
 |none=>rw[e] at s;exact s.elim
 |some r=>
  rw[e] at s;obtain ⟨hr,s⟩:=s
  show Br true _ _
  rw[ZjX];refine ZbW s (fun y M2 ⟨h1,h2⟩=> ?_) (fun _ _ z=>z)
  subst h1 h2;rw[Zfc];refine ⟨by simp;omega,hr,?_⟩
  rw[ZgO,List.range_succ,List.map_append];rfl
theorem Zff {lo:Int}:(Zai lo n).length=n:=by simp[Zai]
theorem Zh7 {lo:Int}(h:k < (Zai lo n).length):(Zai lo n)[k]= .int (lo + k):=by simp[Zai]
end
end DL
end
section
namespace DL
open PySem PySem.Spec PyProof.Rows L2
section
variable {Q:D->Sto->Prop}{E:Str->Sto->Prop}{N B C:Ro->Sto->Prop}{R:D->Sto->Prop}{ρ:Ro}{M:Sto}{f g:Ev}{fs:Av}{i j:Int}{n m k:Nat}{x y z d:D}{xs ys ds:List D}{QL:List D->Sto->Prop}{QB:Bool->Sto->Prop}{QS:Src->Sto->Prop}{tg:Tg}{a bd:Sv}{b:Bool}{t u:Tv}
noncomputable def kU {β γ:Type}(u:β->Sto->Out γ)(Q:γ->Sto->Prop)(E:Str->Sto->Prop)(x:β)(M:Sto):Prop:=wO (u x M) Q E
noncomputable def kQ {β γ:Type}(Q:γ->Sto->Prop)(c:β->γ)(M:Sto)(x:β):Prop:=Q (c x) M
noncomputable def kB2 (op:Bo)(x:D)(Q:D->Sto->Prop)(E:Str->Sto->Prop)(y:D)(M:Sto):Prop:=wO (op x y M) Q E
noncomputable def kB1 (op:Bo)(g:Ev)(ρ:Ro)(Q:D->Sto->Prop)(E:Str->Sto->Prop)(x:D)(M:Sto):Prop:=wO (g ρ M) (kB2 op x Q E) E
theorem Zpz {op:Bo}:wO (e2 op f g ρ M) Q E=wO (f ρ M) (kB1 op g ρ Q E) E:=Zl5
theorem y_c:wO (eC d ρ M) Q E=Q d M:=rfl
theorem y_v:wO (Zh k ρ M) Q E=wV ρ[k]? (kQ Q id M):=Zpk
theorem ZkD {F:List D->Sto->Out D}:wO (Zj F fs ρ M) Q E=wO (fs ρ M) (kU F Q E) E:=ZhM
noncomputable def kA2 (x:D)(Q:List D->Sto->Prop)(xs:List D)(M:Sto):Prop:=Q (x :: xs) M
noncomputable def kA1 (fs:Av)(ρ:Ro)(Q:List D->Sto->Prop)(E:Str->Sto->Prop)(x:D)(M:Sto):Prop:=wO (fs ρ M) (kA2 x Q) E
theorem Zmx:wO (aNil ρ M) QL E=QL [] M:=rfl
theorem ZkE:wO (Zc f fs ρ M) QL E=wO (f ρ M) (kA1 fs ρ QL E) E:=ZhN
noncomputable def kTu (Q:D->Sto->Prop)(xs:List D)(M:Sto):Prop:=xs.length<=1000/\Q (.tup xs) M
noncomputable def kLs (Q:D->Sto->Prop)(xs:List D)(M:Sto):Prop:=xs.length<=1000/\Q (.ref M.length) (M ++ [.lst xs])
theorem Zmy:wO (Zdf fs ρ M) Q E=wO (fs ρ M) (kTu Q) E:=ZjY
theorem Zmz:wO (Zbg fs ρ M) Q E=wO (fs ρ M) (kLs Q) E:=ZjZ
noncomputable def ZnU (x:D)(M:Sto):Out D:=match x with | .int i=> .ok (.int (-i)) M | _=> .bad
theorem ZmA:wO (Zey f ρ M) Q E=wO (f ρ M) (kU ZnU Q E) E:=by unfold Zey;exact Zk
theorem ZkF:wO (ZnU (.int i) M) Q E=Q (.int (-i)) M:=rfl
noncomputable def ZmB (T:String)(x:D)(M:Sto):Out D:=match ZG M x with | some t=> .ok (.bl (ZaC t T)) M | none=> .bad
theorem ZmC {T:String}:wO (ZbM T f ρ M) Q E=wO (f ρ M) (kU (ZmB T) Q E) E:=by unfold ZbM;exact Zk
noncomputable def kTy (T:String)(Q:D->Sto->Prop)(M:Sto)(t:String):Prop:=Q (.bl (ZaC t T)) M
theorem ZkG {T:String}:wO (ZmB T x M) Q E=wG (ZG M x) (kTy T Q M):=by unfold ZmB;cases ZG M x<;>rfl
noncomputable def tC (b:Bool):Tv:=fun _ M=> .ok b M
noncomputable def BrO {β:Type}(k:Bool)(f g:Ro->Sto->Out β)(ρ:Ro)(M:Sto)(Q:β->Sto->Prop)(E:Str->Sto->Prop):Prop:=wO ((if k=true then f else g) ρ M) Q E
theorem ZpA {β:Type}{fO gO:Ro->Sto->Out β}{QO:β->Sto->Prop}:BrO true fO gO ρ M QO E=wO (fO ρ M) QO E:=rfl
theorem ZpB {β:Type}{fO gO:Ro->Sto->Out β}{QO:β->Sto->Prop}:BrO false fO gO ρ M QO E=wO (gO ρ M) QO E:=rfl
theorem brO {β:Type}{fO gO:Ro->Sto->Out β}{QO:β->Sto->Prop}{p:Prop}[Decidable p](h1:p->wO (fO ρ M) QO E)(h2: ¬ p->wO (gO ρ M) QO E):BrO (decide p) fO gO ρ M QO E:=by
 by_cases h:p
 ·rw[decide_eq_true h];exact h1 h
 ·rw[decide_eq_false h];exact h2 h
theorem Zlz {β:Type}{fO gO:Ro->Sto->Out β}{QO:β->Sto->Prop}(P:β->Sto->Prop)(h:BrO b fO gO ρ M P E)(hn: ∀ x M,P x M->QO x M):BrO b fO gO ρ M QO E:=by
 cases b
 ·exact ZbW h hn (fun _ _ z=>z)
 ·exact ZbW h hn (fun _ _ z=>z)
noncomputable def kIf (f g:Ev)(ρ:Ro)(Q:D->Sto->Prop)(E:Str->Sto->Prop)(k:Bool)(M:Sto):Prop:=BrO k f g ρ M Q E
theorem ZpC:wO (eIf t f g ρ M) Q E=wO (t ρ M) (kIf f g ρ Q E) E:=by unfold eIf;rw[Zk];congr 1;funext k M1;cases k<;>rfl
noncomputable def ZnV (g:Ev)(ρ:Ro)(x:D)(M:Sto):Out D:=match x with | .bl k=>if k=true then g ρ M else .ok (.bl false) M | _=> .bad
noncomputable def oOr (g:Ev)(ρ:Ro)(x:D)(M:Sto):Out D:=match x with | .bl k=>if k=true then .ok (.bl true) M else g ρ M | _=> .bad
noncomputable def ZnW (x:D)(M:Sto):Out D:=match x with | .bl k=> .ok (.bl (!k)) M | _=> .bad
noncomputable def oTv (x:D)(M:Sto):Out Bool:=match x with | .bl k=> .ok k M | _=> .bad
theorem ZmD:wO (Zaj f g ρ M) Q E=wO (f ρ M) (kU (ZnV g ρ) Q E) E:=by unfold Zaj;exact Zk
theorem ZpD:wO (ZfV f g ρ M) Q E=wO (f ρ M) (kU (oOr g ρ) Q E) E:=by unfold ZfV;exact Zk
theorem ZmE:wO (Zbe f ρ M) Q E=wO (f ρ M) (kU ZnW Q E) E:=by unfold Zbe;exact Zk
theorem ZkH:wO (ZnV g ρ (.bl b) M) Q E=BrO b g (eC (.bl false)) ρ M Q E:=by cases b<;>rfl
theorem ZmF:wO (oOr g ρ (.bl b) M) Q E=BrO b (eC (.bl true)) g ρ M Q E:=by cases b<;>rfl
theorem ZkI:wO (ZnW (.bl b) M) Q E=Q (.bl (!b)) M:=rfl
theorem ZpE:wO (tv f ρ M) QB E=wO (f ρ M) (kU oTv QB E) E:=by unfold tv;exact Zk
theorem ZmG:wO (oTv (.bl b) M) QB E=QB b M:=rfl
noncomputable def kTA (u:Tv)(ρ:Ro)(Q:Bool->Sto->Prop)(E:Str->Sto->Prop)(k:Bool)(M:Sto):Prop:=BrO k u (tC false) ρ M Q E
noncomputable def kTO (u:Tv)(ρ:Ro)(Q:Bool->Sto->Prop)(E:Str->Sto->Prop)(k:Bool)(M:Sto):Prop:=BrO k (tC true) u ρ M Q E
noncomputable def kTN (Q:Bool->Sto->Prop)(k:Bool)(M:Sto):Prop:=Q (!k) M
theorem ZpF:wO (tC b ρ M) QB E=QB b M:=rfl
theorem ZkJ:wO (Zbn t u ρ M) QB E=wO (t ρ M) (kTA u ρ QB E) E:=by unfold Zbn;rw[Zk];congr 1;funext k M1;cases k<;>rfl
theorem ZmH:wO (Zbo t u ρ M) QB E=wO (t ρ M) (kTO u ρ QB E) E:=by unfold Zbo;rw[Zk];congr 1;funext k M1;cases k<;>rfl
theorem ZkK:wO (ZV t ρ M) QB E=wO (t ρ M) (kTN QB) E:=Zj0
noncomputable def kSq (b:Sv)(N:Ro->Sto->Prop)(R:D->Sto->Prop)(B C:Ro->Sto->Prop)(E:Str->Sto->Prop)(ρ:Ro)(M:Sto):Prop:=wS (b ρ M) N R B C E
theorem ZmI:wS (Zz a bd ρ M) N R B C E=wS (a ρ M) (kSq bd N R B C E) R B C E:=Zj1
theorem ZkL:wS (sNil ρ M) N R B C E=N ρ M:=rfl
theorem ZmJ:wS (ZoW ρ M) N R B C E=B ρ M:=rfl
theorem ZmK:wS (ZoX ρ M) N R B C E=C ρ M:=rfl
theorem ZmL:wS (ZQ f ρ M) N R B C E=wO (f ρ M) R E:=Zj2
theorem ZkM:wS (Zcp ρ M) N R B C E=R .non M:=rfl
noncomputable def kDr (ρ:Ro)(N:Ro->Sto->Prop)(d:D)(M:Sto):Prop:=N ρ M
theorem ZkN:wS (ZaU f ρ M) N R B C E=wO (f ρ M) (kDr ρ N) E:=ZhO
noncomputable def BrS (k:Bool)(a b:Sv)(ρ:Ro)(M:Sto)(N:Ro->Sto->Prop)(R:D->Sto->Prop)(B C:Ro->Sto->Prop)(E:Str->Sto->Prop):Prop:=wS ((if k=true then a else b) ρ M) N R B C E
theorem ZpG:BrS true a bd ρ M N R B C E=wS (a ρ M) N R B C E:=rfl
theorem ZpH:BrS false a bd ρ M N R B C E=wS (bd ρ M) N R B C E:=rfl
theorem brS {p:Prop}[Decidable p](h1:p->wS (a ρ M) N R B C E)(h2: ¬ p->wS (bd ρ M) N R B C E):BrS (decide p) a bd ρ M N R B C E:=by
 by_cases h:p
 ·rw[decide_eq_true h];exact h1 h
 ·rw[decide_eq_false h];exact h2 h
theorem ZpI (h1:b=true->wS (a ρ M) N R B C E)(h2:b=false->wS (bd ρ M) N R B C E):BrS b a bd ρ M N R B C E:=by
 cases b
 ·exact h2 rfl
 ·exact h1 rfl
theorem ZmM (P:Ro->Sto->Prop)(h:BrS b a bd ρ M P R B C E)(hn: ∀ ρ M,P ρ M->N ρ M):BrS b a bd ρ M N R B C E:=by
 cases b
 ·exact Ze8 h hn (fun _ _ z=>z) (fun _ _ z=>z) (fun _ _ z=>z) (fun _ _ z=>z)
 ·exact Ze8 h hn (fun _ _ z=>z) (fun _ _ z=>z) (fun _ _ z=>z) (fun _ _ z=>z)
noncomputable def kSi (a b:Sv)(ρ:Ro)(N:Ro->Sto->Prop)(R:D->Sto->Prop)(B C:Ro->Sto->Prop)(E:Str->Sto->Prop)(k:Bool)(M:Sto):Prop:=BrS k a b ρ M N R B C E
theorem ZmN:wS (sIf t a bd ρ M) N R B C E=wO (t ρ M) (kSi a bd ρ N R B C E) E:=by unfold sIf;rw[ZI];congr 1;funext k M1;cases k<;>rfl
noncomputable def kAs (i:Nat)(ρ:Ro)(N:Ro->Sto->Prop)(d:D)(M:Sto):Prop:=N (ρ.set i (some d)) M
theorem ZmO:wS (ZU (gNm k) f ρ M) N R B C E=wO (f ρ M) (kAs k ρ N) E:=Zj3
noncomputable def kAt (gs:Tgs)(ρ:Ro)(N:Ro->Sto->Prop)(d:D)(M:Sto):Prop:=wG (gTp gs d ρ) (kQ N id M)
theorem ZkO {gs:Tgs}:wS (ZU (gTp gs) f ρ M) N R B C E=wO (f ρ M) (kAt gs ρ N) E:=ZhP
noncomputable def ZnX (i j:Nat)(ρ:Ro)(N:Ro->Sto->Prop)(M:Sto)(v w:D):Prop:=N ((ρ.set i (some v)).set j (some w)) M
noncomputable def kPa (i j:Nat)(ρ:Ro)(N:Ro->Sto->Prop)(ds:List D)(M:Sto):Prop:=w2 ds (ZnX i j ρ N M)
theorem ZmP:wS (ZbN k m fs ρ M) N R B C E=wO (fs ρ M) (kPa k m ρ N) E:=Zj4
noncomputable def ZnY (n:Nat)(d:D)(xs:List D)(ρ:Ro)(N:Ro->Sto->Prop)(M:Sto)(j:Nat):Prop:=N ρ (M.set n (.lst (xs.set j d)))
noncomputable def ZnZ (n:Nat)(k:Int)(d:D)(ρ:Ro)(N:Ro->Sto->Prop)(M:Sto)(xs:List D):Prop:=wG (ixN xs.length k) (ZnY n d xs ρ N M)
noncomputable def Zn0 (n:Nat)(d:D)(ρ:Ro)(N:Ro->Sto->Prop)(M:Sto)(k:Int):Prop:=wL M[n]? (ZnZ n k d ρ N M)
noncomputable def Zn1 (i:D)(d:D)(ρ:Ro)(N:Ro->Sto->Prop)(M:Sto)(n:Nat):Prop:=wI i (Zn0 n d ρ N M)
noncomputable def Zn2 (o:D)(d:D)(ρ:Ro)(N:Ro->Sto->Prop)(i:D)(M:Sto):Prop:=wR o (Zn1 i d ρ N M)
noncomputable def Zn3 (fi:Ev)(d:D)(ρ:Ro)(N:Ro->Sto->Prop)(E:Str->Sto->Prop)(o:D)(M:Sto):Prop:=wO (fi ρ M) (Zn2 o d ρ N) E
noncomputable def kPu (fo fi:Ev)(ρ:Ro)(N:Ro->Sto->Prop)(E:Str->Sto->Prop)(d:D)(M:Sto):Prop:=wO (fo ρ M) (Zn3 fi d ρ N E) E
theorem ZmQ {fo fi:Ev}:wS (ZcJ fo fi f ρ M) N R B C E=wO (f ρ M) (kPu fo fi ρ N E) E:=Zj5
noncomputable def kRa (c:Str)(E:Str->Sto->Prop)(ds:List D)(M:Sto):Prop:=ds.length<=1000/\E c M
theorem Zh8 {c:Str}:wS (ZaM c fs ρ M) N R B C E=wO (fs ρ M) (kRa c E) E:=Zgb
noncomputable def Zn4 (tg:Tg)(bd:Sv)(ρ:Ro)(N:Ro->Sto->Prop)(R:D->Sto->Prop)(B C:Ro->Sto->Prop)(E:Str->Sto->Prop)(M:Sto)(j:Int):Prop:=(-(2 ^ 62)<=j/\j < 2 ^ 62)/\wS (Zav tg bd (Zai 0 j.toNat) ρ M) N R B C E
noncomputable def Zn5 (tg:Tg)(bd:Sv)(ρ:Ro)(N:Ro->Sto->Prop)(R:D->Sto->Prop)(B C:Ro->Sto->Prop)(E:Str->Sto->Prop)(M:Sto)(d:D):Prop:=wI d (Zn4 tg bd ρ N R B C E M)
noncomputable def kR1 (tg:Tg)(bd:Sv)(ρ:Ro)(N:Ro->Sto->Prop)(R:D->Sto->Prop)(B C:Ro->Sto->Prop)(E:Str->Sto->Prop)(ds:List D)(M:Sto):Prop:=w1 ds (Zn5 tg bd ρ N R B C E M)
theorem ZkP:wS (Zbr tg fs bd ρ M) N R B C E=wO (fs ρ M) (kR1 tg bd ρ N R B C E) E:=ZhQ
noncomputable def Zn6 (tg:Tg)(bd:Sv)(ρ:Ro)(N:Ro->Sto->Prop)(R:D->Sto->Prop)(B C:Ro->Sto->Prop)(E:Str->Sto->Prop)(M:Sto)(i:Int)(j:Int):Prop:=(-(2 ^ 62)<=i/\i < 2 ^ 62/\ -(2 ^ 62)<=j/\j < 2 ^ 62)/\wS (Zav tg bd (Zai i (j - i).toNat) ρ M) N R B C E
noncomputable def Zn7 (tg:Tg)(bd:Sv)(ρ:Ro)(N:Ro->Sto->Prop)(R:D->Sto->Prop)(B C:Ro->Sto->Prop)(E:Str->Sto->Prop)(M:Sto)(y:D)(i:Int):Prop:=wI y (Zn6 tg bd ρ N R B C E M i)
noncomputable def Zn8 (tg:Tg)(bd:Sv)(ρ:Ro)(N:Ro->Sto->Prop)(R:D->Sto->Prop)(B C:Ro->Sto->Prop)(E:Str->Sto->Prop)(M:Sto)(x y:D):Prop:=wI x (Zn7 tg bd ρ N R B C E M y)
noncomputable def kR2 (tg:Tg)(bd:Sv)(ρ:Ro)(N:Ro->Sto->Prop)(R:D->Sto->Prop)(B C:Ro->Sto->Prop)(E:Str->Sto->Prop)(ds:List D)(M:Sto):Prop:=w2 ds (Zn8 tg bd ρ N R B C E M)
theorem ZkQ:wS (ZeK tg fs bd ρ M) N R B C E=wO (fs ρ M) (kR2 tg bd ρ N R B C E) E:=Zh5
noncomputable def kFo (tg:Tg)(bd:Sv)(ρ:Ro)(N:Ro->Sto->Prop)(R:D->Sto->Prop)(B C:Ro->Sto->Prop)(E:Str->Sto->Prop)(d:D)(M:Sto):Prop:=wS (ZgD tg bd d ρ M) N R B C E
theorem ZmR:wS (Zlr tg f bd ρ M) N R B C E=wO (f ρ M) (kFo tg bd ρ N R B C E) E:=Zj6
theorem ZkR:wS (ZgD tg bd (.tup xs) ρ M) N R B C E=wS (Zav tg bd xs ρ M) N R B C E:=rfl
theorem ZkS:wS (ZgD tg bd (.rol xs) ρ M) N R B C E=wS (Zav tg bd xs ρ M) N R B C E:=rfl
noncomputable def kFs (tg:Tg)(bd:Sv)(ρ:Ro)(N:Ro->Sto->Prop)(R:D->Sto->Prop)(B C:Ro->Sto->Prop)(E:Str->Sto->Prop)(src:Src)(M:Sto):Prop:=wS (Zf5 tg bd src (cnt src M) 0 ρ M) N R B C E
theorem ZkT {fi:Ro->Sto->Out Src}:wS (Zjy tg fi bd ρ M) N R B C E=wO (fi ρ M) (kFs tg bd ρ N R B C E) E:=ZhT
noncomputable def hT (cs:List Str)(gh:Sv)(W:List Bool)(i:Nat)(ρ:Ro)(c:Str)(M:Sto):Fl:=if cs.contains c=true then (match gh ((kpR W ρ).set i (some (.err c (fsE c M)))) (stE c M) with | .ret d M2=> .ret d M2 | .nx _ M2=> .nx (List.replicate ρ.length none) M2 | _=> .bad) else .bad
noncomputable def kTr (cs:List Str)(gh:Sv)(W:List Bool)(i:Nat)(ρ:Ro)(N:Ro->Sto->Prop)(R:D->Sto->Prop)(B C:Ro->Sto->Prop)(E:Str->Sto->Prop)(c:Str)(M:Sto):Prop:=cs.contains c=true/\wS (gh ((kpR W ρ).set i (some (.err c (fsE c M)))) (stE c M)) (fun _ M2=>N (List.replicate ρ.length none) M2) R (fun _ _=>False) (fun _ _=>False) (fun _ _=>False)
theorem ZmS {cs:List Str}{W:List Bool}{gh:Sv}:wS (ZnN a cs W k gh ρ M) N R B C E=wS (a ρ M) N R B C (kTr cs gh W k ρ N R B C E):=by
 unfold ZnN;cases e:a ρ M<;>try rfl
 rename_i c M1;show wS (if cs.contains c=true then _ else _) N R B C E=kTr cs gh W k ρ N R B C E c M1
 unfold kTr
 by_cases h:cs.contains c=true
 ·rw[if_pos h]
  simp only[h,true_and];cases gh ((kpR W ρ).set k (some (.err c (fsE c M1)))) (stE c M1)<;>rfl
 ·rw[if_neg h]
  simp only[h,Bool.false_eq_true,false_and];rfl
theorem ZdN:fsE (PySem.Str.ofString "NoRatio") M=[]:=ZaO (by decide +kernel)
theorem ZdO:stE (PySem.Str.ofString "NoRatio") M=M:=ZaD (by decide +kernel)
theorem ZcC:fsE (PySem.Str.ofString "NoTurning") M=[]:=ZaO (by decide +kernel)
theorem ZcD:stE (PySem.Str.ofString "NoTurning") M=M:=ZaD (by decide +kernel)
theorem ZcE:fsE (PySem.Str.ofString "NotSmooth") M=[]:=ZaO (by decide +kernel)
theorem ZcF:stE (PySem.Str.ofString "NotSmooth") M=M:=ZaD (by decide +kernel)
theorem ZdP:fsE (PySem.Str.ofString "NoWedge") M=[]:=ZaO (by decide +kernel)
theorem ZdQ:stE (PySem.Str.ofString "NoWedge") M=M:=ZaD (by decide +kernel)
theorem Zgm:fsE (PySem.Str.ofString "NoRow") M=[]:=ZaO (by decide +kernel)
theorem Zgn:stE (PySem.Str.ofString "NoRow") M=M:=ZaD (by decide +kernel)
theorem ZdR:fsE (PySem.Str.ofString "NoPlace") M=[]:=ZaO (by decide +kernel)
theorem ZdS:stE (PySem.Str.ofString "NoPlace") M=M:=ZaD (by decide +kernel)
theorem ZdT:fsE (PySem.Str.ofString "NoMinus") M=[]:=ZaO (by decide +kernel)
theorem ZdU:stE (PySem.Str.ofString "NoMinus") M=M:=ZaD (by decide +kernel)
theorem Zfg:fsE (PySem.Str.ofString "NoFour") M=[]:=ZaO (by decide +kernel)
theorem Zfh:stE (PySem.Str.ofString "NoFour") M=M:=ZaD (by decide +kernel)
theorem ZcY:fsE (PySem.Str.ofString "NoHeight") M=[]:=ZaO (by decide +kernel)
theorem ZcZ:stE (PySem.Str.ofString "NoHeight") M=M:=ZaD (by decide +kernel)
theorem Zfi:fsE (PySem.Str.ofString "NoBend") M=[]:=ZaO (by decide +kernel)
theorem Zfj:stE (PySem.Str.ofString "NoBend") M=M:=ZaD (by decide +kernel)
theorem Zfk:fsE (PySem.Str.ofString "NoBody") M=[]:=ZaO (by decide +kernel)
theorem Zfl:stE (PySem.Str.ofString "NoBody") M=M:=ZaD (by decide +kernel)
theorem Zgo:fsE (PySem.Str.ofString "NoOne") M=[]:=ZaO (by decide +kernel)
theorem Zgp:stE (PySem.Str.ofString "NoOne") M=M:=ZaD (by decide +kernel)
theorem Zfm:fsE (PySem.Str.ofString "NoText") M=[]:=ZaO (by decide +kernel)
theorem Zfn:stE (PySem.Str.ofString "NoText") M=M:=ZaD (by decide +kernel)
theorem ZdV:fsE (PySem.Str.ofString "Unknown") M=[]:=ZaO (by decide +kernel)
theorem ZdW:stE (PySem.Str.ofString "Unknown") M=M:=ZaD (by decide +kernel)
theorem ZdX:fsE (PySem.Str.ofString "NoRound") (M ++ [.lst xs])=xs:=ZlX (by decide +kernel)
theorem ZdY:stE (PySem.Str.ofString "NoRound") (M ++ [.lst xs])=M:=Zjv (by decide +kernel)
noncomputable def ZpJ (Q:D->Sto->Prop)(M1:Sto)(u:Unit)(M:Sto):Prop:=Q (.ref M1.length) M
noncomputable def kCo (tg:Tg)(c:Tv)(f:Ev)(k:Nat)(fr:List Nat)(ρ:Ro)(Q:D->Sto->Prop)(src:Src)(M:Sto):Prop:=wO (ZbB src tg c f M.length (cnt src M) 0 (roB k fr ρ) (M ++ [.lst []])) (ZpJ Q M) (fun _ _=>False)
theorem ZkU {fi:Ro->Sto->Out Src}{fr:List Nat}:wO (Z3 fi k fr tg t f ρ M) Q E=wO (fi ρ M) (kCo tg t f k fr ρ Q) E:=ZhU
noncomputable def Zn9 (QS:Src->Sto->Prop)(M:Sto)(j:Int):Prop:=(-(2 ^ 62)<=j/\j < 2 ^ 62)/\QS (.pur (Zai 0 j.toNat)) M
noncomputable def Zoa (QS:Src->Sto->Prop)(M:Sto)(d:D):Prop:=wI d (Zn9 QS M)
noncomputable def kS1 (QS:Src->Sto->Prop)(ds:List D)(M:Sto):Prop:=w1 ds (Zoa QS M)
theorem ZpK:wO (iR1 fs ρ M) QS E=wO (fs ρ M) (kS1 QS) E:=Zpu
noncomputable def Zob (QS:Src->Sto->Prop)(M:Sto)(i:Int)(j:Int):Prop:=(-(2 ^ 62)<=i/\i < 2 ^ 62/\ -(2 ^ 62)<=j/\j < 2 ^ 62)/\QS (.pur (Zai i (j - i).toNat)) M
noncomputable def Zoc (QS:Src->Sto->Prop)(M:Sto)(y:D)(i:Int):Prop:=wI y (Zob QS M i)
noncomputable def Zod (QS:Src->Sto->Prop)(M:Sto)(x y:D):Prop:=wI x (Zoc QS M y)
noncomputable def kS2 (QS:Src->Sto->Prop)(ds:List D)(M:Sto):Prop:=w2 ds (Zod QS M)
theorem ZpL:wO (iR2 fs ρ M) QS E=wO (fs ρ M) (kS2 QS) E:=Zpv
noncomputable def oSq (d:D)(M:Sto):Out Src:=match d with | .tup ds=> .ok (.pur ds) M | .rol ds=> .ok (.pur ds) M | .con ds=> .ok (.pur ds) M | .ref n=> .ok (.sto n) M | _=> .bad
theorem ZpM:wO (iSq f ρ M) QS E=wO (f ρ M) (kU oSq QS E) E:=by unfold iSq;exact Zk
theorem ZmT:wO (oSq (.tup xs) M) QS E=QS (.pur xs) M:=rfl
theorem ZmU:wO (oSq (.rol xs) M) QS E=QS (.pur xs) M:=rfl
theorem ZmV:wO (oSq (.ref n) M) QS E=QS (.sto n) M:=rfl
noncomputable def Zoe (QS:Src->Sto->Prop)(M:Sto)(d:D):Prop:=wR d (kQ QS .enu M)
noncomputable def kEn (QS:Src->Sto->Prop)(ds:List D)(M:Sto):Prop:=w1 ds (Zoe QS M)
theorem ZpN:wO (iEn fs ρ M) QS E=wO (fs ρ M) (kEn QS) E:=Zpw
noncomputable def Zof (QS:Src->Sto->Prop)(M:Sto)(y:D)(n:Nat):Prop:=wR y (kQ QS (.zip n) M)
noncomputable def Zog (QS:Src->Sto->Prop)(M:Sto)(x y:D):Prop:=wR x (Zof QS M y)
noncomputable def kZp (QS:Src->Sto->Prop)(ds:List D)(M:Sto):Prop:=w2 ds (Zog QS M)
theorem ZpO:wO (iZp fs ρ M) QS E=wO (fs ρ M) (kZp QS) E:=Zpx
noncomputable def Zoh (QS:Src->Sto->Prop)(n:Nat)(M:Sto)(xs:List D):Prop:=QS (.rev n xs.length) M
noncomputable def Zoi (QS:Src->Sto->Prop)(M:Sto)(n:Nat):Prop:=wL M[n]? (Zoh QS n M)
noncomputable def Zoj (QS:Src->Sto->Prop)(M:Sto)(d:D):Prop:=wR d (Zoi QS M)
noncomputable def kRv (QS:Src->Sto->Prop)(ds:List D)(M:Sto):Prop:=w1 ds (Zoj QS M)
theorem ZpP:wO (iRv fs ρ M) QS E=wO (fs ρ M) (kRv QS) E:=Zpy
noncomputable def ZkV (xs:List D)(M:Sto)(Q:D->Sto->Prop)(ys:List D):Prop:=xs.length + ys.length<=10000000/\Q (.ref M.length) (M ++ [.lst (xs ++ ys)])
noncomputable def Zok (m:Nat)(M:Sto)(Q:D->Sto->Prop)(xs:List D):Prop:=wL M[m]? (ZkV xs M Q)
theorem ZmW:wO (dAdd (.ref n) (.ref m) M) Q E=wL M[n]? (Zok m M Q):=Zmc
noncomputable def ZlA (i:Int)(M:Sto)(Q:D->Sto->Prop)(xs:List D):Prop:=((-9223372036854775808<=i/\i < 9223372036854775808)/\xs.length * i.toNat<=100000)/\Q (.ref M.length) (M ++ [.lst (List.replicate i.toNat xs).flatten])
theorem ZmX:wO (dRep (.ref n) (.int i) M) Q E=wL M[n]? (ZlA i M Q):=by
 show wO (match M[n]? with | some (.lst xs)=>if (-9223372036854775808<=i/\i < 9223372036854775808)/\xs.length * i.toNat<=100000 then Out.ok (.ref M.length) (M ++ [.lst (List.replicate i.toNat xs).flatten]) else .bad | none=> .bad) Q E=_
 cases e1:M[n]? with
 |none=>rfl
 |some o=>
  cases o with
  |lst xs=>
   show wO (if (-9223372036854775808<=i/\i < 9223372036854775808)/\xs.length * i.toNat<=100000 then Out.ok (.ref M.length) (M ++ [.lst (List.replicate i.toNat xs).flatten]) else .bad) Q E=ZlA i M Q xs
   unfold ZlA
   by_cases h:(-9223372036854775808<=i/\i < 9223372036854775808)/\xs.length * i.toNat<=100000
   ·rw[if_pos h];simp only[eq_true h,true_and];rfl
   ·rw[if_neg h];simp only[eq_false h,false_and];rfl
noncomputable def kEq (Q:D->Sto->Prop)(M:Sto)(b:Bool):Prop:=Q (.bl b) M
noncomputable def kNe (Q:D->Sto->Prop)(M:Sto)(b:Bool):Prop:=Q (.bl (!b)) M
theorem ZpQ:wO (dEq x y M) Q E=wG (eqF 12 M x y) (kEq Q M):=Zpp
theorem ZpR:wO (dNe x y M) Q E=wG (eqF 12 M x y) (kNe Q M):=Zpq
theorem ZpS:wO (dIs x y M) Q E=wG (isP x y) (kEq Q M):=Zpr
theorem ZmY:wO (ZaI x y M) Q E=wG (isP x y) (kNe Q M):=Zmd
theorem ZmZ:wO (ZnQ x y M) Q E=wG (inE x y M) (kEq Q M):=by unfold ZnQ;cases inE x y M<;>rfl
theorem Zgq:wO (ZeU x y M) Q E=wG (inE x y M) (kNe Q M):=by unfold ZeU;cases inE x y M<;>rfl
theorem Zm0:wO (dIx (.tup xs) (.int i) M) Q E=wG (atI xs i) (kQ Q id M):=Zme
theorem Zm1:wO (dIx (.rol xs) (.int i) M) Q E=wG (atI xs i) (kQ Q id M):=Zmf
noncomputable def kIx (i:Int)(Q:D->Sto->Prop)(M:Sto)(xs:List D):Prop:=wG (atI xs i) (kQ Q id M)
theorem Zm2:wO (dIx (.ref n) (.int i) M) Q E=wL M[n]? (kIx i Q M):=Zmg
noncomputable def Zol (Q:D->Sto->Prop)(M:Sto)(xs:List D):Prop:=Q (.int xs.length) M
theorem ZkW:wO (bLen [.ref n] M) Q E=wL M[n]? (Zol Q M):=Zj9
noncomputable def kLi (Q:D->Sto->Prop)(M:Sto)(xs:List D):Prop:=Q (.ref M.length) (M ++ [.lst xs])
theorem Zh9:wO (bList [.ref n] M) Q E=wL M[n]? (kLi Q M):=ZhW
noncomputable def Zom (Q:D->Sto->Prop)(M:Sto)(bs:List Bool):Prop:=Q (.bl (bs.all id)) M
noncomputable def kAl (Q:D->Sto->Prop)(M:Sto)(xs:List D):Prop:=wG (ZH xs) (Zom Q M)
theorem Zm3:wO (bAll [.ref n] M) Q E=wL M[n]? (kAl Q M):=Zmk
noncomputable def Zon (g:List Int->Option Int)(Q:D->Sto->Prop)(M:Sto)(ns:List Int):Prop:=wG (g ns) (kQ Q .int M)
noncomputable def Zoo (g:List Int->Option Int)(Q:D->Sto->Prop)(M:Sto)(xs:List D):Prop:=wG (Zcw xs) (Zon g Q M)
theorem ZkX {gi:List Int->Option Int}:wO (Zjz gi [.ref n] M) Q E=wL M[n]? (Zoo gi Q M):=Zke
noncomputable def kMt (g:Me)(fs:Av)(ρ:Ro)(Q:D->Sto->Prop)(E:Str->Sto->Prop)(x:D)(M:Sto):Prop:=ZhA x M=true/\wO (fs ρ M) (kU (g x) Q E) E
theorem ZpT {me:Me}{fo:Ev}:wO (ZgF me fo fs ρ M) Q E=wO (fo ρ M) (kMt me fs ρ Q E) E:=Zps
noncomputable def Zop (n:Nat)(d:D)(Q:D->Sto->Prop)(M:Sto)(xs:List D):Prop:=xs.length < 10000000/\Q .non (M.set n (.lst (xs ++ [d])))
theorem Zm4:wO (mApp (.ref n) [d] M) Q E=wL M[n]? (Zop n d Q M):=Zml
noncomputable def Zoq (n:Nat)(Q:D->Sto->Prop)(M:Sto)(xs:List D):Prop:=Q .non (M.set n (.lst []))
theorem Zm5:wO (ZnO (.ref n) [] M) Q E=wL M[n]? (Zoq n Q M):=Zmm
noncomputable def ZkY (n:Nat)(xs:List D)(Q:D->Sto->Prop)(M:Sto)(ys:List D):Prop:=xs.length + ys.length<=10000000/\Q .non (M.set n (.lst (xs ++ ys)))
noncomputable def Zor (n m:Nat)(Q:D->Sto->Prop)(M:Sto)(xs:List D):Prop:=wL M[m]? (ZkY n xs Q M)
theorem Zm6:wO (ZnP (.ref n) [.ref m] M) Q E=wL M[n]? (Zor n m Q M):=Zmn
noncomputable def Zia (Q:D->Sto->Prop)(M:Sto)(bs:List Bool):Prop:=wG (bs.findIdx? id) (kQ Q (fun (j:Nat)=> .int j) M)
noncomputable def Zos (d:D)(Q:D->Sto->Prop)(M:Sto)(xs:List D):Prop:=wG (eqs M d xs) (Zia Q M)
theorem Zm7:wO (Zo7 (.ref n) [d] M) Q E=wL M[n]? (Zos d Q M):=by
 show wO (match M[n]? with | some (.lst xs)=>(match eqs M d xs with | some bs=>(match bs.findIdx? id with | some j=>Out.ok (.int (j:Nat)) M | none=> .bad) | none=> .bad) | none=> .bad) Q E=_
 cases e1:M[n]? with
 |none=>rfl
 |some o=>
  cases o with
  |lst xs=>
   show wO (match eqs M d xs with | some bs=>(match bs.findIdx? id with | some j=>Out.ok (.int (j:Nat)) M | none=> .bad) | none=> .bad) Q E=wG (eqs M d xs) (Zia Q M)
   cases eqs M d xs with
   |none=>rfl
   |some bs=>
    show wO (match bs.findIdx? id with | some j=>Out.ok (.int (j:Nat)) M | none=> .bad) Q E=wG (bs.findIdx? id) _
    cases bs.findIdx? id<;>rfl
noncomputable def kCn (Q:D->Sto->Prop)(M:Sto)(bs:List Bool):Prop:=Q (.int (bs.countP id:Nat)) M
noncomputable def Zot (d:D)(Q:D->Sto->Prop)(M:Sto)(xs:List D):Prop:=wG (eqs M d xs) (kCn Q M)
theorem ZkZ:wO (Zo8 (.ref n) [d] M) Q E=wL M[n]? (Zot d Q M):=by
 show wO (match M[n]? with | some (.lst xs)=>(match eqs M d xs with | some bs=>Out.ok (.int (bs.countP id:Nat)) M | none=> .bad) | none=> .bad) Q E=_
 cases e1:M[n]? with
 |none=>rfl
 |some o=>
  cases o with
  |lst xs=>
   show wO (match eqs M d xs with | some bs=>Out.ok (.int (bs.countP id:Nat)) M | none=> .bad) Q E=wG (eqs M d xs) (kCn Q M)
   cases eqs M d xs<;>rfl
noncomputable def Zou (l u:Option Int)(Q:D->Sto->Prop)(M:Sto)(xs:List D):Prop:=Q (.ref M.length) (M ++ [.lst (Zd4 xs l u)])
noncomputable def Zov (x:D)(l:Option Int)(Q:D->Sto->Prop)(E:Str->Sto->Prop)(u:Option Int)(M:Sto):Prop:=wO (slR x l u M) Q E
noncomputable def Zow (x:D)(hi:Ro->Sto->Out (Option Int))(ρ:Ro)(Q:D->Sto->Prop)(E:Str->Sto->Prop)(l:Option Int)(M:Sto):Prop:=wO (hi ρ M) (Zov x l Q E) E
noncomputable def Zox (lo hi:Ro->Sto->Out (Option Int))(ρ:Ro)(Q:D->Sto->Prop)(E:Str->Sto->Prop)(x:D)(M:Sto):Prop:=wO (lo ρ M) (Zow x hi ρ Q E) E
theorem ZpU {lo hi:Ro->Sto->Out (Option Int)}:wO (eSl f lo hi ρ M) Q E=wO (f ρ M) (Zox lo hi ρ Q E) E:=Zmo
theorem Zm8 {l u':Option Int}:wO (slR (.ref n) l u' M) Q E=wL M[n]? (Zou l u' Q M):=Zmp
theorem Zm9 {QI:Option Int->Sto->Prop}:wO (oNo ρ M) QI E=QI none M:=rfl
noncomputable def Zoy (Q:Option Int->Sto->Prop)(x:D)(M:Sto):Prop:=wI x (kQ Q some M)
theorem Zna {QI:Option Int->Sto->Prop}:wO (oSo f ρ M) QI E=wO (f ρ M) (Zoy QI) E:=Zmq
noncomputable def oRv (x:D)(M1:Sto):Out D:=match x with | .tup xs=> .ok (.tup xs.reverse) M1 | .ref n=>(match M1[n]? with | some (.lst xs)=> .ok (.ref M1.length) (M1 ++ [.lst xs.reverse]) | none=> .bad) | .rol xs=> .ok (.ref M1.length) (M1 ++ [.lst xs.reverse]) | _=> .bad
theorem ZpV:wO (eRv f ρ M) Q E=wO (f ρ M) (kU oRv Q E) E:=by unfold eRv;exact Zk
noncomputable def Zoz (Q:D->Sto->Prop)(M:Sto)(xs:List D):Prop:=Q (.ref M.length) (M ++ [.lst xs.reverse])
theorem Znb:wO (oRv (.ref n) M) Q E=wL M[n]? (Zoz Q M):=by show wO (match M[n]? with | some (.lst xs)=>Out.ok (.ref M.length) (M ++ [.lst xs.reverse]) | none=> .bad) Q E=_;cases M[n]? with | none=>rfl | some o=>cases o with | lst xs=>rfl
theorem Znc:wO (oRv (.tup xs) M) Q E=Q (.tup xs.reverse) M:=rfl
noncomputable def ZoA (tab:List (Str × Bool))(x:D)(M:Sto):Out D:=match x with | .err c _=>(match tab.lookup c with | some b=> .ok (.bl b) M | none=> .bad) | _=> .bad
theorem Znd {tab:List (Str × Bool)}:wO (ZnM tab f ρ M) Q E=wO (f ρ M) (kU (ZoA tab) Q E) E:=by unfold ZnM;exact Zk
theorem Zk0 {tab:List (Str × Bool)}{c:Str}:wO (ZoA tab (.err c xs) M) Q E=wG (tab.lookup c) (kEq Q M):=by show wO (match tab.lookup c with | some b=>Out.ok (.bl b) M | none=> .bad) Q E=_;cases tab.lookup c<;>rfl
noncomputable def kWh (bd:Sv)(ρ:Ro)(I:Ro->Sto->Prop)(N:Ro->Sto->Prop)(R:D->Sto->Prop)(B C:Ro->Sto->Prop)(E:Str->Sto->Prop)(k:Bool)(M:Sto):Prop:=Br k (wS (bd ρ M) I R N I E) (N ρ M)
theorem Zne {c:Tv}(I:Nat->Ro->Sto->Prop)(st: ∀ n ρ M,I n ρ M->wO (c ρ M) (kWh bd ρ (fun ρ2 M2=> ∃ m,m < n/\I m ρ2 M2) N R B C E) E)(n:Nat)(ρ:Ro)(M:Sto)(h:I n ρ M):wS (sWh c bd ρ M) N R B C E:=Zgc I st n ρ M h
theorem Znf {I:Ro->Sto->Prop}{p:Prop}[Decidable p](h1:p->wS (bd ρ M) I R N I E)(h2: ¬ p->N ρ M):kWh bd ρ I N R B C E (decide p) M:=brD h1 h2
theorem Zib (h:k < n):ixN n (k:Int)=some k:=by
 unfold ixN;rw[if_pos (by omega),if_pos (by omega)]
 simp
theorem ZoB {src:Src}{fr:List Nat}(Inv:Ro->Prop)(F:Nat->D)(hl:xs.length < 10000000)(hcnt:xs.length<=cnt src M)(h0:Inv (roB k fr ρ))(hs: ∀ (L:Sto) (i:Nat),i<=xs.length->nxt src i (M ++ L)=some xs[i]?)
  (st: ∀ (i:Nat) (h:i < xs.length) (ρ:Ro) (L:Sto),Inv ρ->wG (tg xs[i] ρ) fun r=>Inv r/\wO (f r (M ++ L)) (fun y M2=>y=F i/\M2=M ++ L) (fun _ _=>False)) (hq:Q (.ref M.length) (M ++ [.lst ((List.range xs.length).map F)])):
  kCo tg (fun _ M=> .ok true M) f k fr ρ Q src M:=Zh6 (Q:=fun M2=>Q (.ref M.length) M2) Inv F hl hcnt h0 hs st hq
theorem Zin {fr:List Nat}(Inv:Ro->Prop)(F:Nat->D)(hM:M[n]?=some (.lst xs))(hl:xs.length < 10000000)(h0:Inv (roB k fr ρ))
  (st: ∀ (i:Nat) (h:i < xs.length) (ρ:Ro) (L:Sto),Inv ρ->wG (tg xs[i] ρ) fun r=>Inv r/\wO (f r (M ++ L)) (fun y M2=>y=F i/\M2=M ++ L) (fun _ _=>False)) (hq:Q (.ref M.length) (M ++ [.lst ((List.range xs.length).map F)])):
  kCo tg (fun _ M=> .ok true M) f k fr ρ Q (.sto n) M:=
 ZoB (xs:=xs) Inv F hl (by rw[Zfe hM];exact Nat.le_refl _) h0 (fun L i hi=>by rw[ZgR];rw[List.getElem?_append_left (Zt hM)];exact hM) st hq
end
end DL
end
namespace DL
open PySem PySem.Spec L2
section
variable {Q:D->Sto->Prop}{E:Str->Sto->Prop}{M:Sto}{n:Nat}
end
end DL
section
end
section
end
section
namespace DL
open PySem PySem.Spec PyProof.Rows L2 SX
section
variable {Q:D->Sto->Prop}{E:Str->Sto->Prop}{M:Sto}{ρ:Ro}{fs:Av}{f fo:Ev}{g:Me}{n:Nat}{i:Int}{y z:Str}{QS:Src->Sto->Prop}
noncomputable def kMS (g:Me)(fs:Av)(ρ:Ro)(Q:D->Sto->Prop)(E:Str->Sto->Prop)(x:D)(M:Sto):Prop:=match x with | .str y=>wO (fs ρ M) (kU (g (.str y)) Q E) E | _=>False
theorem Zc0:kMS g fs ρ Q E (.str y) M=wO (fs ρ M) (kU (g (.str y)) Q E) E:=rfl
theorem Zc1:wO (ZfD g fo fs ρ M) Q E=wO (fo ρ M) (kMS g fs ρ Q E) E:=by
 unfold ZfD;rw[Zk]
 congr 1
 funext x M1
 cases x<;>first | exact Zk | rfl
theorem Zng:wO (mStw (.str y) [.str z] M) Q E=Q (.bl (Txt.startswith y z)) M:=rfl
noncomputable def kJn (y:Str)(Q:D->Sto->Prop)(M:Sto)(xs:List D):Prop:= ∃ ys,txs xs=some ys/\JoinOk y ys=true/\Q (.str (Txt.join y ys)) M
theorem Zk1 {xs:List D}(h:M[n]?=some (.lst xs))(q:kJn y Q M xs):wO (mJn (.str y) [.ref n] M) Q E:=by
 obtain ⟨ys,e,j,q⟩:=q
 show wO (match M[n]? with | some (.lst xs)=>(match txs xs with | some ys=>if JoinOk y ys=true then .ok (.str (Txt.join y ys)) M else .bad | none=> .bad) | none=> .bad) Q E
 rw[h];simp only[e,if_pos j];exact q
theorem Zk2 {c:Nat}(hz:z.cps.toList=[c])(hc:c < 128)(hy:y.length<=100000)(q:Q (.ref M.length) (M ++ [.lst ((spl c y.cps.toList).map fun l=> .str ⟨l.toArray⟩)])):wO (mSpl (.str y) [.str z] M) Q E:=by
 show wO (match z.cps.toList with | [c]=>if c < 128/\y.length<=100000 then .ok (.ref M.length) (M ++ [.lst ((spl c y.cps.toList).map fun l=> .str ⟨l.toArray⟩)]) else .bad | _=> .bad) Q E
 rw[hz];show wO (if _ then _ else _) Q E
 rw[if_pos ⟨hc,hy⟩];exact q
theorem ZgS:wO (bLenT [.str z] M) Q E=(z.length<=100000/\Q (.int z.length) M):=by
 show wO (if _ then _ else _) Q E=_
 by_cases c:z.length<=100000
 ·rw[if_pos c];exact propext ⟨fun h=>⟨c,h⟩,fun h=>h.2⟩
 ·rw[if_neg c];exact propext ⟨fun h=>h.elim,fun h=>c h.1⟩
theorem Zgr:wO (bStr [.int i] M) Q E=(i.natAbs.log2 < 1900/\Q (.str (tx i)) M):=by
 show wO (if _ then _ else _) Q E=_
 by_cases c:i.natAbs.log2 < 1900
 ·rw[if_pos c];exact propext ⟨fun h=>⟨c,h⟩,fun h=>h.2⟩
 ·rw[if_neg c];exact propext ⟨fun h=>h.elim,fun h=>c h.1⟩
theorem ZgT {k:Int}(hl:z.length<=640)(e:intText? z=some k)(q:Q (.int k) M):wO (bIntT [.str z] M) Q E:=by
 show wO (if _ then _ else _) Q E
 rw[if_pos hl,e];exact q
theorem Znh {c:Nat}{j:Str}:wO (dInT (.str ⟨#[c]⟩) (.str j) M) Q E=Q (.bl (j.cps.toList.contains c)) M:=rfl
theorem Zni {c:Nat}(h:0<=i/\i < 100000)(e:z.cps.toList[i.toNat]?=some c)(q:Q (.str ⟨#[c]⟩) M):wO (Zlv (.str z) (.int i) M) Q E:=by
 show wO (if _ then _ else _) Q E
 rw[if_pos h,e];exact q
noncomputable def kL3 (x:D)(l u:Option Int)(Q:D->Sto->Prop)(M:Sto):Prop:=match x with | .str z=>(z.length<=100000/\okT z l u)/\Q (.str (ZhE z l u)) M | _=>False
noncomputable def kL2 (x:D)(l:Option Int)(Q:D->Sto->Prop)(u:Option Int)(M:Sto):Prop:=kL3 x l u Q M
noncomputable def kL1 (x:D)(hi:Ro->Sto->Out (Option Int))(ρ:Ro)(Q:D->Sto->Prop)(E:Str->Sto->Prop)(l:Option Int)(M:Sto):Prop:=wO (hi ρ M) (kL2 x l Q) E
noncomputable def kL0 (lo hi:Ro->Sto->Out (Option Int))(ρ:Ro)(Q:D->Sto->Prop)(E:Str->Sto->Prop)(x:D)(M:Sto):Prop:=wO (lo ρ M) (kL1 x hi ρ Q E) E
theorem Znj {lo hi:Ro->Sto->Out (Option Int)}:wO (Zlw f lo hi ρ M) Q E=wO (f ρ M) (kL0 lo hi ρ Q E) E:=by
 unfold Zlw;rw[Zk]
 congr 1
 funext x M1
 rw[Zk];unfold kL0
 congr 1
 funext l M2
 rw[Zk];unfold kL1
 congr 1
 funext u M3
 unfold kL2 kL3;cases x with
 |str z=>
  show wO (if _ then _ else _) Q E=_
  by_cases c:z.length<=100000/\okT z l u
  ·rw[if_pos c];exact propext ⟨fun h=>⟨c,h⟩,fun h=>h.2⟩
  ·rw[if_neg c];exact propext ⟨fun h=>h.elim,fun h=>c h.1⟩
 |_=>rfl
theorem Znk {l u:Option Int}:kL3 (.str z) l u Q M=((z.length<=100000/\okT z l u)/\Q (.str (ZhE z l u)) M):=rfl
noncomputable def oTx (d:D)(M:Sto):Out Src:=match d with | .str x=>if asc x=true then .ok (.pur (sgs x)) M else .bad | _=> .bad
theorem Znl:wO (iTx f ρ M) QS E=wO (f ρ M) (kU oTx QS E) E:=by unfold iTx;exact Zk
theorem Znm:wO (oTx (.str z) M) QS E=(asc z=true/\QS (.pur (sgs z)) M):=by
 show wO (if _ then _ else _) QS E=_
 by_cases c:asc z=true
 ·rw[if_pos c];exact propext ⟨fun h=>⟨c,h⟩,fun h=>h.2⟩
 ·rw[if_neg c];exact propext ⟨fun h=>h.elim,fun h=>c h.1⟩
noncomputable def kFx (Q:D->Sto->Prop)(x:Str)(M:Sto):Prop:=Q (.str x) M
theorem ZpW {j:Jv}:wO (eFs j ρ M) Q E=wO (j Str.empty ρ M) (kFx Q) E:=by unfold eFs;rw[Zk];rfl
noncomputable def kJc (acc:Str)(j:Jv)(ρ:Ro)(QJ:Str->Sto->Prop)(E:Str->Sto->Prop)(x:D)(M:Sto):Prop:=match x with | .str y=>(acc ++ y).length<=100000/\wO (j (acc ++ y) ρ M) QJ E | _=>False
theorem Znn {acc:Str}{j:Jv}{QJ:Str->Sto->Prop}:wO (ZdK f j acc ρ M) QJ E=wO (f ρ M) (kJc acc j ρ QJ E) E:=by
 unfold ZdK;rw[Zk]
 congr 1
 funext x M1
 cases x with
 |str y=>
  show wO (if _ then _ else _) QJ E=((acc ++ y).length<=100000/\_)
  by_cases c:(acc ++ y).length<=100000
  ·rw[if_pos c];exact propext ⟨fun h=>⟨c,h⟩,fun h=>h.2⟩
  ·rw[if_neg c];exact propext ⟨fun h=>h.elim,fun h=>c h.1⟩
 |_=>rfl
theorem Zk3 {acc:Str}{j:Jv}{QJ:Str->Sto->Prop}:kJc acc j ρ QJ E (.str y) M=((acc ++ y).length<=100000/\wO (j (acc ++ y) ρ M) QJ E):=rfl
theorem Zno {acc:Str}{QJ:Str->Sto->Prop}:wO (jNil acc ρ M) QJ E=(acc.length<=100000/\QJ acc M):=by
 show wO (if _ then _ else _) QJ E=_
 by_cases c:acc.length<=100000
 ·rw[if_pos c];exact propext ⟨fun h=>⟨c,h⟩,fun h=>h.2⟩
 ·rw[if_neg c];exact propext ⟨fun h=>h.elim,fun h=>c h.1⟩
noncomputable def oFm (x:D)(M:Sto):Out D:=match x with
 | .int i=>if i.natAbs.log2 < 1900 then .ok (.str (Str.ofString (toString i))) M else .bad
 | .str y=>if y.length<=100000 then .ok (.str y) M else .bad
 |_=> .bad
theorem ZoC:wO (eFm f ρ M) Q E=wO (f ρ M) (kU oFm Q E) E:=by unfold eFm;exact Zk
theorem Zk4:wO (oFm (.str y) M) Q E=(y.length<=100000/\Q (.str y) M):=by
 show wO (if _ then _ else _) Q E=_
 by_cases c:y.length<=100000
 ·rw[if_pos c];exact propext ⟨fun h=>⟨c,h⟩,fun h=>h.2⟩
 ·rw[if_neg c];exact propext ⟨fun h=>h.elim,fun h=>c h.1⟩
theorem Zk5:wO (dAdd (.str y) (.str z) M) Q E=(y.length + z.length<=100000/\Q (.str (y ++ z)) M):=by
 show wO (if _ then _ else _) Q E=_
 by_cases c:y.length + z.length<=100000
 ·rw[if_pos c];exact propext ⟨fun h=>⟨c,h⟩,fun h=>h.2⟩
 ·rw[if_neg c];exact propext ⟨fun h=>h.elim,fun h=>c h.1⟩
theorem ZbY (ys:List Str):txs (ys.map D.str)=some ys:=by
 induction ys with
 |nil=>rfl
 |cons y ys ih=>show (match txs (ys.map D.str) with | some ys=>some (y :: ys) | none=>none)=_;rw[ih]
theorem ZaP {y:Str}{ys:List Str}{b:Nat}(hy:y.length<=1)(hb: ∀ x∈ys,x.length<=b)(hn:ys.length * (b + 1)<=100000):JoinOk y ys=true:=by
 have: ∀ (l:List Str) (a:Nat),(∀ x∈l,x.length<=b)->l.foldl (· + ·.length + y.length) a<=a + l.length * (b + 1):=by
  intro l
  induction l with
  |nil=>intro a _;simp
  |cons x l ih=>
   intro a h;rw[List.foldl_cons];have h1:=ih (a + x.length + y.length) fun z m=>h z (List.mem_cons_of_mem _ m)
   have h2:=h x (List.mem_cons_self ..)
   rw[List.length_cons,Nat.succ_mul];omega
 have t:=this ys 0 hb
 unfold JoinOk Builtin.Str.tooLong;rw[List.foldl_toArray];have hz:=sizeLine_eq
 rw[Bool.not_eq_true',decide_eq_false_iff_not];omega
end
end DL
end
section
namespace DL
noncomputable abbrev Pt:=Int × Int
noncomputable def X (p q:Pt):Int:=p.1 * q.2 - p.2 * q.1
section
variable {rs:List Pt}{i j:Int}{k n:Nat}{p:Pt}
theorem Zbj {α:Type}{l:List α}{n:Nat}{d:α}(h:n < l.length):l.getD n d=l[n]:=by simp[List.getElem?_eq_getElem h]
theorem Zk6 (h:0<=i/\i < rs.length):cy rs i=rs.getD i.toNat (0,0):=by
 unfold cy;rw[Int.emod_eq_of_lt h.1 h.2]
theorem ZbZ {m:Nat}(h:m≠0):(i % m).toNat < m/\0<=i % m:=by
 have:=Int.emod_lt_of_pos i (show (0:Int) < m by omega)
 have:=Int.emod_nonneg i (show (m:Int)≠0 by omega)
 omega
theorem ZgU {f:Pt->Pt}(h:rs≠[]):cy (rs.map f) i=f (cy rs i):=by
 have hl:rs.length≠0:=by simpa using h
 unfold cy;rw[List.length_map,Zbj (by rw[List.length_map];exact (ZbZ hl).1),Zbj (ZbZ hl).1,List.getElem_map]
theorem Zic {P:Pt->Pt->Prop}(hn:rs.length≠0)(h: ∀ i:Int,0<=i->i < rs.length->P (cy rs i) (cy rs (i + 1)))(i:Int):P (cy rs i) (cy rs (i + 1)):=by
 have e1:cy rs i=cy rs (i % rs.length):=Zkj.symm
 have e2:cy rs (i + 1)=cy rs (i % rs.length + 1):=by
  unfold cy;rw[Int.emod_add_emod]
 rw[e1,e2];obtain ⟨a,b⟩:=ZbZ (i:=i) hn
 exact h _ b (by omega)
noncomputable def cc (f:Pt->Pt->Nat):List Pt->Nat
 |a :: b :: r=>f a b + cc f (b :: r)
 |_=>0
noncomputable def cyc (f:Pt->Pt->Nat)(rs:List Pt):Nat:=cc f (rs ++ rs.take 1)
theorem ZgV {f:Pt->Pt->Nat}{g:Pt->Pt}: ∀ (L:List Pt),cc f (L.map g)=cc (fun a b=>f (g a) (g b)) L
 | []=>rfl
 | [_]=>rfl
 |a :: b :: L=>by
  have:=ZgV (f:=f) (g:=g) (b :: L)
  simp only[List.map_cons,cc] at this ⊢;omega
theorem Zfo {f:Pt->Pt->Nat}{g:Pt->Pt}(L:List Pt):cyc f (L.map g)=cyc (fun a b=>f (g a) (g b)) L:=by
 unfold cyc;rw[<- List.map_take,<- List.map_append,ZgV]
noncomputable def in1 (w a b:Pt):Nat:=if 0<=X a w/\0 < X w b then 1 else 0
noncomputable def in2 (w a b:Pt):Nat:=if 0 < X a w/\0<=X w b then 1 else 0
noncomputable def Fan (rs:List Pt):Prop:= ∀ w:Pt,w≠(0,0)->cyc (in1 w) rs=1/\cyc (in2 w) rs=1
theorem Znp {p q:Pt}:X p q=0 - X q p:=by unfold X;grind
theorem Zk7 {f:Pt->Pt}{s:Int}(hs:s=1\/s= -1)(hf: ∀ p q,X (f p) (f q)=s * X p q)(w:Pt)(hw:w≠(0,0)): ∃ w':Pt,w'≠(0,0)/\ ∀ a,X (f a) w=s * X a w':=by
 have d:=hf (1,0) (0,1)
 have d1:X (f (1,0)) (f (0,1))=s:=by rw[d];simp[X]
 have lin: ∀ a,(f a).1=a.1 * (f (1,0)).1 + a.2 * (f (0,1)).1/\(f a).2=a.1 * (f (1,0)).2 + a.2 * (f (0,1)).2:=by
  intro a;have h1:=hf a (1,0)
  have h2:=hf a (0,1)
  generalize f a=u at *;generalize f (1,0)=e1 at *;generalize f (0,1)=e2 at *;unfold X at *
  rcases hs with rfl | rfl<;>constructor<;>grind
 refine ⟨(X w (f (0,1)) * s,X (f (1,0)) w * s),?_,?_⟩
 ·intro z
  apply hw
  have z1:=congrArg Prod.fst z
  have z2:=congrArg Prod.snd z
  simp only at z1 z2
  generalize f (1,0)=e1 at *;generalize f (0,1)=e2 at *;unfold X at *
  apply Prod.ext
  ·rcases hs with rfl | rfl<;>simp only[]<;>grind
  ·rcases hs with rfl | rfl<;>simp only[]<;>grind
 ·intro a
  obtain ⟨l1,l2⟩:=lin a
  unfold X;rw[l1,l2]
  rcases hs with rfl | rfl<;>simp only[]<;>grind
theorem Fan.map (h:Fan rs){f:Pt->Pt}(hf: ∀ p q,X (f p) (f q)=X p q):Fan (rs.map f):=fun w hw=>by
 obtain ⟨w',hw',e⟩:=Zk7 (s:=1) (.inl rfl) (fun p q=>by rw[hf,Int.one_mul]) w hw
 have e2: ∀ a,X w (f a)=X w' a:=fun a=>by rw[Znp,e,Znp (p:=w')];omega
 have c1: ∀ a b,in1 w (f a) (f b)=in1 w' a b:=fun a b=>by unfold in1;rw[e,e2,Int.one_mul]
 have c2: ∀ a b,in2 w (f a) (f b)=in2 w' a b:=fun a b=>by unfold in2;rw[e,e2,Int.one_mul]
 rw[Zfo,Zfo,show (fun a b=>in1 w (f a) (f b))=in1 w' from funext fun a=>funext fun b=>c1 a b,show (fun a b=>in2 w (f a) (f b))=in2 w' from funext fun a=>funext fun b=>c2 a b]
 exact h w' hw'
structure Smo (rs:List Pt):Prop where
 len:3<=rs.length
 one: ∀ i:Int,X (cy rs i) (cy rs (i + 1))=1
 fan:Fan rs
theorem Smo.ne (h:Smo rs):rs≠[]:=by
 intro z
 have:=h.len
 rw[z] at this
 simp at this
theorem Smo.map (h:Smo rs){f:Pt->Pt}(hf: ∀ p q,X (f p) (f q)=X p q):Smo (rs.map f):=by
 refine ⟨by have:=h.len;simp;omega,fun i=> ?_,h.fan.map hf⟩
 rw[ZgU h.ne,ZgU h.ne,hf];exact h.one i
end
end DL
end
section
namespace CC
open PySem PySem.Spec L2 DL
end CC
end
open PySem PySem.Spec L2 DL
set_option hygiene false
set_option compiler.extract_closed false
local macro_rules | `(tactic| simp! [$ls,*]) => `(tactic| simp (implicitDefEqProofs := false) (disch := omega) only [Zpz, y_c, y_v, ZkD, Zmx, ZkE, Zmy, Zmz, ZmA, ZkF, ZmC, ZkG, ZpA, ZpB, ZpC, ZmD, ZpD, ZmE, ZkH, ZmF, ZkI, ZpE, ZmG, ZpF, ZkJ, ZmH, ZkK, ZmI, ZkL, ZmJ, ZmK, ZmL, ZkM, ZkN, ZpG, ZpH, ZmN, ZmO, ZkO, ZmP, ZmQ, Zh8, ZkP, ZkQ, ZmR, ZkR, ZkS, ZkT, ZmS, ZdN, ZdO, ZcC, ZcD, ZcE, ZcF, ZdP, ZdQ, Zgm, Zgn, ZdR, ZdS, ZdT, ZdU, Zfg, Zfh, ZcY, ZcZ, Zfi, Zfj, Zfk, Zfl, Zgo, Zgp, Zfm, Zfn, ZdV, ZdW, ZdX, ZdY, ZkU, ZpK, ZpL, ZpM, ZmT, ZmU, ZmV, ZpN, ZpO, ZpP, ZmW, ZmX, ZpQ, ZpR, ZpS, ZmY, ZmZ, Zgq, Zm0, Zm1, Zm2, ZkW, Zh9, Zm3, ZkX, ZpT, Zm4, Zm5, Zm6, Zm7, ZkZ, ZpU, Zm8, Zm9, Zna, ZpV, Znb, Znc, Znd, Zk0, kU, kQ, kB2, kB1, kA2, kA1, kTu, kLs, kTy, kIf, kTA, kTO, kTN, kSq, kDr, kSi, kAs, kAt, ZnX, kPa, ZnY, ZnZ, Zn0, Zn1, Zn2, Zn3, kPu, kRa, Zn4, Zn5, kR1, Zn6, Zn7, Zn8, kR2, kFo, kFs, kTr, Zn9, Zoa, kS1, Zob, Zoc, Zod, kS2, Zoe, kEn, Zof, Zog, kZp, Zoh, Zoi, Zoj, kRv, ZkV, Zok, ZlA, kEq, kNe, kIx, Zol, kLi, Zom, kAl, Zon, Zoo, kMt, Zop, Zoq, ZkY, Zor, Zia, Zos, kCn, Zot, Zou, Zov, Zow, Zox, Zoy, Zoz, Zge, Zgf, Zh0, Zgi, Zgj, Zgg, Zgh, Zh1, Zgl, Zgk, Zh3, Zh2, Zkq, decide_eq_true, decide_eq_false, wF1, wF2, wF3, wF4, Zl, ZjW, Zpe, Zpf, Zpg, Zph, Zpi, Zpj, Zpc, Zpd, Zl6, Zl7, Zl8, Zj7, Zl9, Zma, Zmb, Zpl, Zpm, Zpn, Zpo, Zj8, Zka, Zkb, Zmh, Zmi, Zmj, Zkc, Zkd, ZhX, Zkf, Zkg, Zgd, Zmt, Zmu, Zmv, Zmw, id, roB, kpR, cond_true, cond_false, at0, at1, at2, at3, gTp, gCs, gNl, gNm, List.set_cons_zero, List.set_cons_succ, List.getElem?_cons_zero, List.getElem?_cons_succ, List.length_cons, List.length_nil, List.length_append, List.length_map, List.map_cons, List.map_nil, List.cons_append, List.nil_append, List.append_assoc, List.append_nil, List.replicate_succ, List.replicate_zero, Option.join_some, Option.isSome_some, Zfc, ZhY, Z0, ZgO, Zmr, Zkh, Zki, ZhZ, ZM, Zkl, Zpt, ZnT, Zkn, Zms, Zko, Zkp, Zkr, Zks, Zkt, Zku, Zkv, Zkw, Zkx, Zky, Zkz, ZkA, ZkB, ZkC, true_and, and_true, Bool.not_true, Bool.not_false, decide_true, decide_false, Nat.reduceAdd, Nat.reduceLeDiff, Nat.reduceLT, Nat.add_zero, Nat.zero_add, Int.reducePow, Int.reduceToNat, Int.reduceNeg, Int.reduceMod, Int.reduceDiv, Int.reduceAdd, Int.reduceSub, Int.reduceMul, Int.cast_ofNat_Int, Int.reduceEq, Int.reduceLT, Int.reduceLE, $ls,*])
set_option hygiene true
section
namespace CC
open PySem PySem.Spec L2 DL
section
variable {Q:D->Sto->Prop}{E:Str->Sto->Prop}{M:Sto}{a b c d i:Int}{n:Nat}{rs:List Pt}
end
end CC
end
section
namespace DL
noncomputable def T (rs:List Pt)(i:Int):Int:=0 - X (cy rs (i - 1)) (cy rs (i + 1))
section
variable {rs:List Pt}{k:Nat}{p:Pt}{j:Int}
end
end DL
namespace CC
open PySem PySem.Spec L2 DL
section
variable {Q:D->Sto->Prop}{E:Str->Sto->Prop}{M:Sto}{a b c d i:Int}{n:Nat}{rs:List Pt}
end
end CC
end
section
namespace DL
section
variable {rs:List Pt}{k:Nat}{p:Pt}{j:Int}
end
end DL
end
section
namespace DL
noncomputable def nm (p:Pt):Int:=p.1 * p.1 + p.2 * p.2
end DL
namespace DL
section
variable {rs:List Pt}{k:Nat}
end
end DL
end
section
namespace CE
open PySem PySem.Spec L2 DL
end CE
end
section
namespace CE
open PySem PySem.Spec L2 DL
section
variable {Q:D->Sto->Prop}{E:Str->Sto->Prop}{M:Sto}{a b c d i:Int}{n:Nat}{rs:List Pt}
end
end CE
end
section
namespace CF
open PySem PySem.Spec L2 DL CC
end CF
end
section
namespace CF
open PySem PySem.Spec L2 DL
section
variable {Q:D->Sto->Prop}{E:Str->Sto->Prop}{M:Sto}{a b c d i:Int}{n:Nat}{rs:List Pt}
end
end CF
end
section
namespace DL
open PySem PySem.Spec L2 DL
section
variable {M:Sto}
end
end DL
end
section
namespace CB
open PySem PySem.Spec L2 DL
end CB
end
section
namespace DL
noncomputable def hj (t b:Int):List Int:=if h:0 < b then -((-t) / b) :: hj b (-((-t) / b) * b - t) else []
termination_by b.toNat
decreasing_by
 have h1:=Int.emod_nonneg (-t) (show b≠0 by omega)
 have h2:=Int.emod_lt_of_pos (-t) h
 have h3:=Int.emod_add_mul_ediv (-t) b
 rw[Int.neg_mul,Int.mul_comm];omega
end DL
namespace CB
open PySem PySem.Spec L2 DL
section
variable {Q:D->Sto->Prop}{E:Str->Sto->Prop}{M:Sto}{a b c d i:Int}{n m:Nat}{u v w:Pt}
structure Fb (u v w:Pt):Prop where
 one:X u w=1
 lo:0<=X w v
 hi:X w v < X u v
theorem Fb.uniq {w w':Pt}(h:Fb u v w)(k:Fb u v w'):w=w':=by
 obtain ⟨h1,a1,a2⟩:=h
 obtain ⟨h2,b1,b2⟩:=k
 have e1:w'.1=X w' w * u.1 + w.1/\w'.2=X w' w * u.2 + w.2:=by unfold X at *;constructor<;>grind
 have e2:X w' v=X w' w * X u v + X w v:=by
  have:X w' v=X (X w' w * u.1 + w.1,X w' w * u.2 + w.2) v:=by rw[<- e1.1,<- e1.2]
  rw[this];unfold X
  simp only
  grind
 generalize X w' w=k at *;have k0:k=0:=by
  apply Classical.byContradiction
  intro c
  by_cases p:1<=k
  ·have:1 * X u v<=k * X u v:=Int.mul_le_mul_of_nonneg_right p (by omega)
   omega
  ·have:k * X u v<=(-1) * X u v:=Int.mul_le_mul_of_nonneg_right (by omega) (by omega)
   omega
 rw[k0] at e1
 apply Prod.ext<;>omega
noncomputable def btw:Pt->Pt->List Int->List Pt
 |_,_,[]=>[]
 |a,r,k :: ks=>r :: btw r (k * r.1 - a.1,k * r.2 - a.2) ks
end
end CB
end
section
namespace CB
open PySem PySem.Spec L2 DL
section
variable {Q:D->Sto->Prop}{E:Str->Sto->Prop}{M:Sto}{a b c d i:Int}{n m:Nat}{u v w:Pt}
noncomputable def Ch:List Pt->Prop
 |a :: b :: r=>X a b=1/\Ch (b :: r)
 |_=>True
noncomputable def Tr (a b d:Pt):Prop:= ∃ k:Int,2<=k/\a.1 + d.1=k * b.1/\a.2 + d.2=k * b.2
noncomputable def Cv:List Pt->Prop
 |a :: b :: d :: r=>Tr a b d/\Cv (b :: d :: r)
 |_=>True
end
section
variable {u v w:Pt}
end
end CB
end
section
namespace CA
open PySem PySem.Spec L2 DL
noncomputable def ZcG:Sv:=(Zz (ZU (gNm 2) (eC (.int 0)))
 (Zz (sIf (tv (e2 dLt (Zh 1) (Zj bLen (Zc (Zh 0) aNil)))) (ZU (gNm 2) (Zj bAbs (Zc (e2 dIx (Zh 0) (Zh 1)) aNil))) sNil)
 (Zz (ZU (gNm 3) (e2 dAdd (eC (.int 1)) (e2 dMod (e2 dAdd (e2 dAdd (e2 dAdd (e2 dMod (Zh 2) (eC (.int 2147483647))) (e2 dMul (e2 dMul (eC (.int 7919)) (Zh 1)) (Zh 1))) (e2 dMul (eC (.int 11)) (Zh 1))) (eC (.int 5))) (eC (.int 2147483646)))))
 (ZQ (Zbg (Zc (e2 dMul (Zh 2) (Zj bInt (Zc (e2 dGe (Zh 2) (e2 dPow (eC (.int 10)) (eC (.int 18)))) aNil))) (Zc (Zh 3) aNil)))))))
noncomputable def F_law_bag:List D->Sto->Out D:=fnF ZcG 2 2
noncomputable def Zbv:Sv:=(Zz (sIf (tv (e2 dGt (e2 dIx (Zh 0) (eC (.int 0))) (eC (.int 0)))) (Zz (ZU (gNm 2) (e2 dMod (e2 dIx (Zh 0) (eC (.int 0))) (Zh 1)))
 (Zz (ZcJ (Zh 0) (eC (.int 0)) (e2 dDiv (e2 dIx (Zh 0) (eC (.int 0))) (Zh 1)))
 (ZQ (Zh 2)))) sNil)
 (Zz (ZcJ (Zh 0) (eC (.int 1)) (e2 dMod (e2 dMul (e2 dIx (Zh 0) (eC (.int 1))) (eC (.int 48271))) (eC (.int 2147483647))))
 (ZQ (e2 dMod (e2 dDiv (e2 dMod (e2 dMul (e2 dIx (Zh 0) (eC (.int 1))) (eC (.int 16807))) (eC (.int 2147483647))) (eC (.int 32))) (Zh 1)))))
noncomputable def F_law_digit:List D->Sto->Out D:=fnF Zbv 2 1
end CA
end
section
namespace CA
open PySem PySem.Spec L2 DL
theorem Zfp:F_law_digit=FDigit:=rfl
theorem Znq:F_law_bag=FBag:=rfl
section
variable {Q:D->Sto->Prop}{E:Str->Sto->Prop}{M:Sto}{a b c d i:Int}{n m:Nat}{rs:List Pt}
theorem Znr {ns:List Int}{k:Nat}(hk:k < 1000)(q: ∀ a b:Int,0<=a->Q (.ref M.length) (M ++ [.lst [.int a,.int b]])):wO (F_law_bag [.rol (ns.map D.int),.int k] M) Q E:=by
 obtain ⟨a,b,h,e⟩:=ZjO (ns:=ns) (k:=k) (M:=M) hk
 rw[Znq,e];exact q a b h
theorem ZW {t:Int}(hb:Bag n M)(ht:0 < t/\t < 18446744073709551616)(q: ∀ r M',0<=r->r < t->Gr n M M'->Q (.int r) M'):wO (F_law_digit [.ref n,.int t] M) Q E:=by
 obtain ⟨r,M',e,r0,r1,g⟩:=Zdv hb ht.1 (Zba ht)
 rw[Zfp,e];exact q r M' r0 r1 g
theorem Zfq (bs:List Bool):ZH (bs.map D.bl)=some bs:=by
 induction bs with
 |nil=>rfl
 |cons b r ih=>
  show (match ZH (r.map D.bl) with | some bs=>some (b :: bs) | none=>none)=_
  rw[ih]
theorem Gr.up {k:Nat}{M M1:Sto}{o:SO}(h:M[k]?=some o)(g:Gr n M M1)(hk:k≠n):M1[k]?=some o:=by
 rw[g.keep k hk (Zt h)];exact h
end
end CA
end
section
namespace CY
open PySem PySem.Spec L2 DL CA
end CY
end
section
namespace CY
open PySem PySem.Spec L2 DL
section
variable {Q:D->Sto->Prop}{E:Str->Sto->Prop}{M:Sto}{n m:Nat}{rs:List Pt}
end
end CY
end
section
namespace CR
open PySem PySem.Spec L2 DL
noncomputable def ZaW:Sv:=(ZQ (Zaj (ZbM "int" (Zh 0)) (Zbe (ZbM "bool" (Zh 0)))))
noncomputable def F_is_whole:List D->Sto->Out D:=fnF ZaW 1 0
noncomputable def ZR:Sv:=(ZbN 2 3 (Zc (Zh 3) (Zc (e2 dMod (Zh 2) (Zh 3)) aNil)))
noncomputable def ZY:Sv:=(Zz (ZbN 2 3 (Zc (Zj bAbs (Zc (Zh 0) aNil)) (Zc (Zj bAbs (Zc (Zh 1) aNil)) aNil)))
 (Zz (sWh (tv (e2 dNe (Zh 3) (eC (.int 0)))) ZR)
 (ZQ (Zh 2))))
noncomputable def F_greatest_divisor:List D->Sto->Out D:=fnF ZY 2 2
noncomputable def Zan:Sv:=(ZbN 2 3 (Zc (Zh 3) (Zc (e2 dMod (Zh 2) (Zh 3)) aNil)))
noncomputable def Zbw:Sv:=(Zz (ZbN 2 3 (Zc (Zj bAbs (Zc (Zh 0) aNil)) (Zc (Zh 1) aNil)))
 (Zz (sWh (tv (e2 dGt (Zh 3) (eC (.int 0)))) Zan)
 (ZQ (Zdf (Zc (e2 dDiv (Zh 0) (Zh 2)) (Zc (e2 dDiv (Zh 1) (Zh 2)) aNil))))))
noncomputable def F_law_low:List D->Sto->Out D:=fnF Zbw 2 2
noncomputable def Z9:Sv:=(ZQ (Zaj (ZbM "int" (Zh 0)) (Zbe (ZbM "bool" (Zh 0)))))
noncomputable def F_law_whole:List D->Sto->Out D:=fnF Z9 1 0
end CR
end
section
namespace CR
open PySem PySem.Spec L2 DL
noncomputable abbrev rt (q:Rat):D:=pr q.num (q.den:Int)
noncomputable def Sz (k:Nat)(q:Rat):Prop:=q.num.natAbs < 2 ^ k/\q.den < 2 ^ k
theorem Zns:F_greatest_divisor=FGcd:=rfl
section
variable {Q:D->Sto->Prop}{E:Str->Sto->Prop}{M:Sto}{k l:Nat}{p q:Rat}
theorem ZgW {i j:Int}(h:0 < j)(hk:j.natAbs < 2 ^ k)(hk2:k<=8000):wO (dDiv (.int i) (.int j) M) Q E=Q (.int (i / j)) M:=by
 have:ZK j:=⟨by omega,by
  have:j.natAbs.log2 < k:=(Nat.log2_lt (by omega)).mpr hk
  omega⟩
 show wO (if ZK j then _ else _) Q E=_
 rw[if_pos this,Int.fdiv_eq_ediv_of_nonneg _ (by omega)];rfl
theorem Zid {t:Int}{b:Nat}(hb:b≠0):rt (Rat.normalize t b hb)=pr (t / (Int.gcd t b:Nat)) ((b:Int) / (Int.gcd t b:Nat)):=by
 unfold rt;rw[Rat.num_normalize,Rat.den_normalize,Int.natCast_ediv];rfl
theorem Zk8 {t:Int}{b:Nat}(hb:b≠0)(h:b < 2 ^ k):0 < Int.gcd t b/\Int.gcd t b < 2 ^ k:=by
 have h1:Int.gcd t b ∣ b:=Int.gcd_dvd_natAbs_right t b
 have h2:=Nat.le_of_dvd (by omega) h1
 have h3:Int.gcd t b≠0:=fun z=>by
  rw[z] at h1;exact hb (Nat.eq_zero_of_zero_dvd h1)
 omega
theorem Zie {t:Int}{b:Nat}(hb:b≠0)(h:b < 2 ^ k)(hk:k<=8000)(q':Q (rt (Rat.normalize t b hb)) M):wO (F_law_low [.int t,.int b] M) Q E:=by
 obtain ⟨g0,g1⟩:=Zk8 (t:=t) hb h
 rw[Zid hb] at q';simp![F_law_low,Zbw];refine Zne (fun j ρ M'=>M'=M/\ ∃ a c:Nat,ρ=[some (.int t),some (.int b),some (.int a),some (.int c)]/\j=c/\Nat.gcd a c=Int.gcd t b) ?_ b _ _ ⟨rfl,t.natAbs,b,rfl,rfl,rfl⟩
 rintro j ρ M ⟨rfl,a,c,rfl,rfl,g⟩
 simp![Zl];refine Znf (fun h'=> ?_) (fun h'=> ?_)
 ·simp![Zan]
  have hc:0 < j:=by omega
  refine ⟨a % j,Nat.mod_lt a hc,j,a % j,by rw[Int.natCast_emod],rfl,?_⟩
  rw[<- g,Nat.gcd_comm j,<- Nat.gcd_rec,Nat.gcd_comm]
 ·have j0:j=0:=by omega
  subst j0;rw[Nat.gcd_zero_right] at g;rw[<- g] at q' g0 g1;simp![Zl];rw[ZgW (k:=k) (by omega) (by simpa using g1) hk]
  simp![Zl];rw[ZgW (k:=k) (by omega) (by simpa using g1) hk]
  simp![Zl];exact q'
theorem Zfr {t:Int}{b:Nat}(hb:b≠0)(ht:t.natAbs < 2 ^ k)(h:b < 2 ^ k):Sz k (Rat.normalize t b hb):=by
 refine ⟨?_,?_⟩
 ·rw[Rat.num_normalize]
  exact Nat.lt_of_le_of_lt (Int.natAbs_ediv_le_natAbs _ _) ht
 ·rw[Rat.den_normalize]
  exact Nat.lt_of_le_of_lt (Nat.div_le_self _ _) h
end
end CR
end
section
namespace CH
open PySem PySem.Spec L2 DL CA CR
end CH
end
section
namespace CH
open PySem PySem.Spec L2 DL
open CR (rt Sz)
noncomputable def rts (hs:List Rat):List D:=hs.map rt
theorem Zp {hs:List Rat}:(rts hs).length=hs.length:=List.length_map _
theorem ZT {hs:List Rat}{q:Rat}:rts hs ++ [rt q]=rts (hs ++ [q]):=by simp[rts]
section
variable {Q:D->Sto->Prop}{E:Str->Sto->Prop}{M:Sto}{n:Nat}
end
end CH
end
section
namespace CS
open PySem PySem.Spec L2 DL CC CR
noncomputable def ZaE:Sv:=(Zz (sIf (Zbo (ZV (tv (ZbM "tuple" (Zh 0)))) (Zbo (tv (e2 dNe (Zj bLen (Zc (Zh 0) aNil)) (eC (.int 2)))) (Zbo (ZV (tv (Zj F_law_whole (Zc (e2 dIx (Zh 0) (eC (.int 0))) aNil)))) (ZV (tv (Zj F_law_whole (Zc (e2 dIx (Zh 0) (eC (.int 1))) aNil))))))) (ZQ (eC (.bl false))) sNil)
 (ZQ (Zaj (e2 dGt (e2 dIx (Zh 0) (eC (.int 1))) (eC (.int 0))) (e2 dEq (Zj F_law_low (Zc (e2 dIx (Zh 0) (eC (.int 0))) (Zc (e2 dIx (Zh 0) (eC (.int 1))) aNil))) (Zh 0)))))
noncomputable def F_law_ratio:List D->Sto->Out D:=fnF ZaE 1 0
end CS
end
section
namespace CS
open PySem PySem.Spec L2 DL
open CR (rt Sz)
section
variable {Q:D->Sto->Prop}{E:Str->Sto->Prop}{M:Sto}{k l:Nat}{p q:Rat}
theorem Zk9 {t:Int}{b:Nat}(hb:b≠0)(h:b < 2 ^ k)(hk:k<=8000):wO (CR.F_law_low [.int t,.int b] M) Q E=Q (rt (Rat.normalize t b hb)) M:=by
 obtain ⟨d,M',e,e1,e2⟩:=ZgM (CR.Zie (Q:=fun d M'=>d=rt (Rat.normalize t b hb)/\M'=M) (E:=fun _ _=>False) (t:=t) hb h hk ⟨rfl,rfl⟩)
 rw[e,e1,e2];rfl
theorem Zfs:Rat.normalize q.num q.den q.den_nz=q:=Rat.normalize_self q
theorem ZdZ (hq:Sz k q)(hk:k<=8000):wO (F_law_ratio [rt q] M) Q E=Q (.bl true) M:=by
 have dp:0 < q.den:=Nat.pos_of_ne_zero q.den_nz
 simp![F_law_ratio,ZaE,CR.F_law_whole,CR.Z9,Zk9 (t:=q.num) q.den_nz hq.2 hk,Zfs]
end
end CS
end
section
namespace CN
open PySem PySem.Spec L2 DL
open CR (F_law_low)
end CN
end
section
namespace CN
open PySem PySem.Spec L2 DL
open CR (rt Sz)
open CH (rts Zp ZT)
noncomputable def cq (hs:List Rat)(i:Int):Rat:=hs.getD (i % hs.length).toNat 0
theorem Zla {hs:List Rat}{k:Nat}(h:k < hs.length):cq hs k=hs[k]:=by
 unfold cq;rw[Int.emod_eq_of_lt (by omega) (by omega)]
 simp[List.getElem?_eq_getElem h]
theorem Znt {hs:List Rat}{k:Nat}{i:Int}(h: ∀ x∈hs,Sz k x)(hn:hs.length≠0):Sz k (cq hs i):=by
 unfold cq
 have:=(ZbZ (i:=i) hn).1
 rw[List.getD_eq_getElem?_getD,List.getElem?_eq_getElem this]
 exact h _ (List.getElem_mem this)
theorem Zif {hs:List Rat}{i:Nat}(h:i < (rts hs).length):(rts hs)[i]=rt (cq hs i):=by
 rw[Zp] at h;rw[Zla h]
 simp[rts]
section
variable {Q:D->Sto->Prop}{E:Str->Sto->Prop}{M:Sto}{k l:Nat}{p q:Rat}{n m:Nat}{rs:List Pt}{hs:List Rat}{i:Int}
end
end CN
end
section
namespace CN
open PySem PySem.Spec L2 DL
open CR (rt Sz)
open CH (rts Zp ZT)
section
variable {Q:D->Sto->Prop}{E:Str->Sto->Prop}{M:Sto}{k l:Nat}{p q:Rat}{n m:Nat}{rs:List Pt}{hs:List Rat}{i:Int}
end
end CN
end
section
namespace CN
open PySem PySem.Spec L2 DL
open CR (rt Sz)
open CH (rts Zp ZT)
end CN
end
section
namespace CU
open PySem PySem.Spec L2 DL
open CA (F_law_digit)
open CR (F_law_low)
end CU
end
section
namespace CU
open PySem PySem.Spec L2 DL
open CR (rt Sz)
open CH (rts Zp ZT)
open CN CS
noncomputable def thr (rs:List Pt)(hs:List Rat):Rat × Rat:=(cq hs 0 * (cy rs 1).2 - cq hs 1 * (cy rs 0).2,cq hs 1 * (cy rs 0).1 - cq hs 0 * (cy rs 1).1)
theorem Zlb {p q:Rat}(h:rt p=rt q):p=q:=by
 unfold rt pr at h
 injection h with h
 injection h with h1 h
 injection h with h2
 injection h1 with h1
 injection h2 with h2
 exact Rat.ext h1 (by omega)
theorem Zig {xs ys:List Rat}:rts xs=rts ys ↔ xs=ys:=by
 refine ⟨fun h=> ?_,fun h=>by rw[h]⟩
 induction xs generalizing ys with
 |nil=>cases ys with
  |nil=>rfl
  |cons y ys=>simp[rts] at h
 |cons x xs ih=>
  cases ys with
  |nil=>simp[rts] at h
  |cons y ys=>
   simp only[rts,List.map_cons,List.cons.injEq] at h;rw[Zlb h.1,ih h.2]
theorem Zb0 {hs:List Rat}:rts hs=prs (hs.map fun q=>(q.num,(q.den:Int))):=by
 simp[rts,prs]
theorem Zlc {xs ys:List Rat}:xs.map (fun q=>(q.num,(q.den:Int)))=ys.map (fun q=>(q.num,(q.den:Int))) ↔ xs=ys:=by
 refine ⟨fun h=> ?_,fun h=>by rw[h]⟩
 rw[<- Zig,Zb0,Zb0,h]
section
variable {Q:D->Sto->Prop}{E:Str->Sto->Prop}{M:Sto}{k l:Nat}{p q:Rat}{n m o:Nat}{rs:List Pt}{hs xs ys:List Rat}{i:Int}
theorem Zld (h1:M[n]?=some (.lst (rts xs)))(h2:M[m]?=some (.lst (rts ys))):eqF (k + 3) M (.ref n) (.ref m)=some (decide (xs=ys)):=by
 rw[Zfd h1 h2,Zb0,Zb0,Zkm]
 by_cases e:xs=ys
 ·subst e;simp
 ·rw[decide_eq_false e]
  split
  ·rw[decide_eq_false (fun z=>e (Zlc.mp z))]
  ·rfl
end
end CU
end
section
namespace CV
open PySem PySem.Spec L2 DL
open CR (rt Sz)
open CH (rts Zp ZT)
open CN CU CS
noncomputable def Kp (M M':Sto):Prop:=M.length<=M'.length/\ ∀ j < M.length,M'[j]?=M[j]?
section
variable {M M' M1 M2:Sto}{o:SO}{j:Nat}
theorem Kp.get (k:Kp M M')(h:M[j]?=some o):M'[j]?=some o:=(k.2 _ (Zt h)).trans h
theorem Kp.refl:Kp M M:=⟨Nat.le_refl _,fun _ _=>rfl⟩
theorem Kp.trans (a:Kp M M1)(b:Kp M1 M2):Kp M M2:=⟨Nat.le_trans a.1 b.1,fun j h=>(b.2 j (Nat.lt_of_lt_of_le h a.1)).trans (a.2 j h)⟩
theorem Kp.app {L:Sto}:Kp M (M ++ L):=⟨by simp,fun j h=>Z0 h⟩
theorem Kp.set (a:Kp M M1)(h:M.length<=j):Kp M (M1.set j o):=⟨by rw[List.length_set];exact a.1,fun i hi=>by rw[List.getElem?_set_ne (by omega)];exact a.2 i hi⟩
end
section
variable {Q:D->Sto->Prop}{E:Str->Sto->Prop}{M:Sto}{k l:Nat}{p q:Rat}{n m o:Nat}{rs:List Pt}{hs xs ys zs u v:List Rat}{i:Int}{f:Ev}{ρ:Ro}{mu mv N:Nat}
theorem Zdx {N:Nat}:ZH ((List.range N).map fun _=>D.bl true)=some (List.replicate N true):=by
 have: ∀ xs:List Nat,ZH (xs.map fun _=>D.bl true)=some (List.replicate xs.length true):=by
  intro xs
  induction xs with
  |nil=>rfl
  |cons x xs ih=>simp only[List.map_cons,ZH,ih,List.length_cons,List.replicate_succ]
 rw[this,List.length_range]
end
end CV
end
section
namespace CW
open PySem PySem.Spec L2 DL
end CW
end
section
namespace CW
open PySem PySem.Spec L2 DL
open CV
section
variable {Q:D->Sto->Prop}{E:Str->Sto->Prop}{M:Sto}{n m:Nat}{rs:List Pt}
end
end CW
end
section
namespace CB
open PySem PySem.Spec L2 DL
theorem mid {a b p w:Pt}(h1:0 < X a p)(h2:0 < X p b)(h:0 < X a b):in1 w a b=in1 w a p + in1 w p b/\in2 w a b=in2 w a p + in2 w p b:=by
 have e:X a b * X p w=X p b * X a w - X a p * X w b:=by unfold X;grind
 have s:=Znp (p:=w) (q:=p)
 have k1:0<=X a w->0<=X p b * X a w:=fun z=>Int.mul_nonneg (by omega) z
 have k2:0 < X a w->0 < X p b * X a w:=fun z=>Int.mul_pos h2 z
 have k3:X a w<=0->X p b * X a w<=0:=fun z=>Int.mul_nonpos_of_nonneg_of_nonpos (by omega) z
 have k3':X a w < 0->X p b * X a w < 0:=fun z=>Int.mul_neg_of_pos_of_neg h2 z
 have l1:0<=X w b->0<=X a p * X w b:=fun z=>Int.mul_nonneg (by omega) z
 have l2:0 < X w b->0 < X a p * X w b:=fun z=>Int.mul_pos h1 z
 have l3:X w b<=0->X a p * X w b<=0:=fun z=>Int.mul_nonpos_of_nonneg_of_nonpos (by omega) z
 have l3':X w b < 0->X a p * X w b < 0:=fun z=>Int.mul_neg_of_pos_of_neg h1 z
 have m1:0<=X p w->0<=X a b * X p w:=fun z=>Int.mul_nonneg (by omega) z
 have m2:0 < X p w->0 < X a b * X p w:=fun z=>Int.mul_pos h z
 have m3:X p w<=0->X a b * X p w<=0:=fun z=>Int.mul_nonpos_of_nonneg_of_nonpos (by omega) z
 have m3':X p w < 0->X a b * X p w < 0:=fun z=>Int.mul_neg_of_pos_of_neg h z
 unfold in1 in2;rw[s];generalize X a b * X p w=z at *;generalize X p b * X a w=y at *;generalize X a p * X w b=x at *;generalize X a w=aw at *;generalize X w b=wb at *;generalize X p w=pw at *
 constructor
 all_goals
  repeat' split
  all_goals omega
end CB
end
section
namespace CL
open PySem PySem.Spec L2 DL
end CL
end
section
namespace CL
open PySem PySem.Spec L2 DL
open CV CB
section
variable {Q:D->Sto->Prop}{E:Str->Sto->Prop}{M:Sto}{n:Nat}
end
end CL
end
section
namespace TW
open DL
noncomputable def nx (b:Int)(p q:Pt):Pt:=(0 - b * q.1 - p.1,0 - b * q.2 - p.2)
noncomputable def run (p q:Pt):List Int->Pt × Pt
 | []=>(p,q)
 |b :: bs=>run q (nx b p q) bs
noncomputable def ew (p q:Pt):Nat:=in1 (1,0) p q + in1 (-1,0) p q
noncomputable def st (a:Pt):Int:=if 0 < a.2\/(a.2=0/\a.1 < 0) then 1 else 0
end TW
end
section
namespace TW
open DL
section
variable {rs:List Pt}
noncomputable def ZpX (rs:List Pt):Int->Nat->List Int
 |_,0=>[]
 |i,k + 1=>T rs (i + 1) :: ZpX rs (i + 1) k
noncomputable def sf (f:Pt->Pt->Nat)(rs:List Pt):Int->Nat->Nat
 |_,0=>0
 |i,k + 1=>f (cy rs i) (cy rs (i + 1)) + sf f rs (i + 1) k
theorem Znu {f:Pt->Pt->Nat}(hn:rs≠[]): ∀ (k i:Nat),i + k=rs.length->cc f ((rs ++ rs.take 1).drop i)=sf f rs i k:=by
 have l0:0 < rs.length:=List.length_pos_iff.mpr hn
 have ga: ∀ i:Nat,i<=rs.length->(rs ++ rs.take 1)[i]?=some (cy rs i):=by
  intro i hi
  by_cases c:i < rs.length
  ·rw[List.getElem?_append_left c,Zk6 (by omega),Zbj (by omega),List.getElem?_eq_getElem c]
   simp
  ·have:i=rs.length:=by omega
   subst this;rw[List.getElem?_append_right (Nat.le_refl _),Nat.sub_self,<- Zkk,Int.sub_self,Zk6 (by omega),Zbj (by omega)]
   rw[List.getElem?_take_of_lt (by decide),List.getElem?_eq_getElem (by omega)]
   simp
 have lch:(rs ++ rs.take 1).length=rs.length + 1:=by simp;omega
 have dr: ∀ i:Nat,i<=rs.length->(rs ++ rs.take 1).drop i=cy rs i :: (rs ++ rs.take 1).drop (i + 1):=by
  intro i hi;rw[List.drop_eq_getElem_cons (by omega)]
  have:=ga i hi
  rw[List.getElem?_eq_getElem (by omega)] at this
  rw[Option.some.inj this]
 intro k
 induction k with
 |zero=>
  intro i hi;rw[dr i (by omega),List.drop_eq_nil_of_le (by omega)]
  rfl
 |succ k ih=>
  intro i hi
  have:=ih (i + 1) (by omega)
  rw[dr i (by omega)]
  rw[dr (i + 1) (by omega)] at this ⊢
  rw[cc,this,sf];rfl
theorem Zle {f:Pt->Pt->Nat}(hn:rs≠[]):cyc f rs=sf f rs 0 rs.length:=by
 have:=Znu (f:=f) hn rs.length 0 (by omega)
 exact this
end
end TW
end
section
end
section
namespace CT
open PySem PySem.Spec L2 DL
end CT
end
section
namespace CT
open PySem PySem.Spec L2 DL
open CV TW
section
variable {Q:D->Sto->Prop}{E:Str->Sto->Prop}{M:Sto}{n m:Nat}{L:List Int}
noncomputable def Cl (L:List Int):Prop:=run (1,0) (0,1) L=((1,0),(0,1))
noncomputable instance (L:List Int):Decidable (Cl L):=by unfold Cl;infer_instance
end
end CT
end
section
namespace CT
open PySem PySem.Spec L2 DL
open CV
open TW (nx)
section
variable {Q:D->Sto->Prop}{E:Str->Sto->Prop}{M:Sto}{n m:Nat}{L:List Int}
end
end CT
end
section
namespace DL
open CB (mid)
section
variable {rs:List Pt}{k:Nat}
theorem Zgs {f:Pt->Pt->Nat}(hl:rs≠[])(h:cyc f rs=0)(i:Int):f (cy rs i) (cy rs (i + 1))=0:=by
 have l0:rs.length≠0:=fun z=>hl (List.length_eq_zero_iff.mp z)
 refine Zic (P:=fun a b=>f a b=0) l0 ?_ i
 intro i h0 h1;rw[TW.Zle hl] at h
 have: ∀ (k:Nat) (j:Int),TW.sf f rs j k=0-> ∀ m:Nat,m < k->f (cy rs (j + m)) (cy rs (j + m + 1))=0:=by
  intro k
  induction k with
  |zero=>intro j _ m hm;omega
  |succ k ih=>
   intro j h m hm;rw[TW.sf] at h;cases m with
   |zero=>
    rw[show j + ((0:Nat):Int)=j by omega]
    omega
   |succ m=>
    have:=ih (j + 1) (by omega) m (by omega)
    rw[show j + ((m + 1:Nat):Int)=j + 1 + m by omega]
    exact this
 have:=this rs.length 0 h i.toNat (by omega)
 rw[show (0:Int) + (i.toNat:Nat)=i by omega] at this
 exact this
noncomputable def nxp (a b:Pt):Nat:=if 0 < X a b then 0 else 1
theorem Znv {a b:Pt}(h:nxp a b=0):0 < X a b:=by
 unfold nxp at h
 split at h
 ·assumption
 ·omega
structure Rn (rs:List Pt):Prop where
 len:3<=rs.length
 ps:cyc nxp rs=0
 gc: ∀ p∈rs,Int.gcd p.1 p.2=1
 fan:Fan rs
theorem Rn.ne (h:Rn rs):rs≠[]:=by
 intro z
 have:=h.len
 rw[z] at this
 simp at this
theorem Rn.pos (h:Rn rs)(i:Int):0 < X (cy rs i) (cy rs (i + 1)):=Znv (Zgs h.ne h.ps i)
end
end DL
end
section
end
section
namespace DL
open TW
open CT (Cl)
section
variable {rs us:List Pt}
end
end DL
end
section
namespace CB
open DL
section
variable {u v w:Pt}
noncomputable def kl:List Pt->List Int
 |a :: b :: d :: r=>X a d :: kl (b :: d :: r)
 |_=>[]
theorem Xvv (p:Pt):X p p=0:=by unfold X;grind
theorem Znw: ∀ (r:List Pt) (a b:Pt) (v:Pt),Ch (a :: b :: r)->Cv (a :: b :: r)->(b :: r).getLast (by simp)=v->0<=X b v/\X b v < X a v
 | [],a,b,v,h,_,e=>by
  have:b=v:=e
  subst this;rw[Xvv,h.1];omega
 |c :: r,a,b,v,h,k,e=>by
  have ih:=Znw r b c v h.2 k.2 (by rw[<- e];simp[List.getLast_cons])
  obtain ⟨m,m2,e1,e2⟩:=k.1
  have ex:X a v + X c v=m * X b v:=by unfold X;grind
  have:2 * X b v<=m * X b v:=Int.mul_le_mul_of_nonneg_right m2 (by omega)
  omega
theorem Zih {t b k c:Int}(hb:0 < b)(h0:0<=c)(h1:c < b)(e:t + c=k * b): -((-t) / b)=k:=by
 have: -t=c + b * (-k):=by grind
 rw[this,Int.add_mul_ediv_left _ _ (by omega),Int.ediv_eq_zero_of_lt h0 h1]
 omega
theorem only: ∀ (ws:List Pt) (u v w:Pt),Ch (u :: (ws ++ [v]))->Cv (u :: (ws ++ [v]))->Fb u v w->ws=btw u w (hj (X u v) (X w v))/\kl (u :: (ws ++ [v]))=hj (X u v) (X w v)
 | [],u,v,w,h,k,f=>by
  have h1:X u v=1:=h.1
  have l:=f.lo
  have l2:=f.hi
  have w0:X w v=0:=by omega
  rw[w0];unfold hj;rw[dif_neg (by decide)]
  exact ⟨rfl,rfl⟩
 |x :: ws,u,v,w,h,k,f=>by
  have hl:(x :: (ws ++ [v])).getLast (by simp)=v:=by simp[List.getLast_cons]
  have d:=Znw (ws ++ [v]) u x v h k hl
  have fx:Fb u v x:=⟨h.1,d.1,d.2⟩
  have ew:=fx.uniq f
  subst ew;obtain ⟨y,R,eR⟩: ∃ y R,ws ++ [v]=y :: R:=by
   cases ws with
   |nil=>exact ⟨v,[],rfl⟩
   |cons y R=>exact ⟨y,R ++ [v],rfl⟩
  have h':Ch (x :: y :: R):=by rw[<- eR];exact h.2
  have kk:Cv (u :: x :: y :: R):=by rw[<- eR];exact k
  have hl2:(y :: R).getLast (by simp)=v:=by
   have:(ws ++ [v]).getLast (by simp)=v:=by simp
   simpa [eR] using this
  have d2:=Znw R x y v h' kk.2 hl2
  obtain ⟨m,m2,e1,e2⟩:=kk.1
  have ex:X u v + X y v=m * X x v:=by unfold X;grind
  have hc:=Zih (by omega) d2.1 d2.2 ex
  have ey:(m * x.1 - u.1,m * x.2 - u.2)=y:=by apply Prod.ext<;>simp only<;>omega
  have m3:X u y=m:=by
   have:=h.1
   rw[<- ey];unfold X at *
   simp only
   grind
  have fy:Fb x v y:=⟨h'.1,d2.1,d2.2⟩
  have ih:=only ws x v y (by rw[eR];exact h') (by rw[eR];exact kk.2) fy
  have ej:hj (X u v) (X x v)=m :: hj (X x v) (X y v):=by
   rw[hj,dif_pos (by omega),hc]
   congr 2
   omega
  rw[ej]
  constructor
  ·rw[btw,ey,<- ih.1]
  ·show kl (u :: x :: (ws ++ [v]))=_
   rw[eR,kl,m3,<- eR,ih.2]
end
end CB
end
section
namespace CD
open PySem PySem.Spec L2 DL
end CD
end
section
namespace CD
open PySem PySem.Spec L2 DL
open CV
open CR (rt Sz)
open CH (rts Zp ZT)
section
variable {Q:D->Sto->Prop}{E:Str->Sto->Prop}{M:Sto}{n m p:Nat}{rs:List Pt}{a b c d:Int}{ρ:Ro}{k:Nat}{xs:List D}{tg:Tg}{f:Ev}
theorem ZlB {fr:List Nat}(I:Ro->Prop)(F:Nat->D)(hM:M[n]?=some (.lst xs))(hl:xs.length < 10000000)(h0:I (roB k fr ρ))
  (st: ∀ (i:Nat) (h:i < xs.length) (ρ:Ro) (M':Sto),Kp M M'->I ρ->wG (tg xs[i] ρ) fun r=>I r/\wO (f r M') (fun y M2=>y=F i/\Kp M' M2) (fun _ _=>False))
  (hq: ∀ M',Kp M M'->M'[M.length]?=some (.lst ((List.range xs.length).map F))->Q (.ref M.length) M'):
  kCo tg (fun _ M=> .ok true M) f k fr ρ Q (.sto n) M:=by
 refine Zfb (xs:=xs) (Q:=fun M2=>Q (.ref M.length) M2) (fun i ρ M'=>I ρ/\Kp M M'/\M'[M.length]?=some (.lst ((List.range i).map F))) _ 0 _ _ (by simp) (by rw[Zfe hM];omega) ⟨h0,Kp.app,by simp⟩ (fun i ρ M' hi hI=>by rw[ZgR];exact hI.2.1.get hM) ?_ (fun ρ M' hI=>hq M' hI.2.1 hI.2.2)
 rintro i ρ M' hi ⟨hI,K,r⟩
 have s:=st i hi ρ M' K hI
 cases e:tg xs[i] ρ with
 |none=>rw[e] at s;exact s.elim
 |some r'=>
  rw[e] at s;obtain ⟨hr,s⟩:=s
  show Br true _ _
  rw[ZjX];refine ZbW s (fun y M2 ⟨h1,h2⟩=> ?_) (fun _ _ z=>z)
  subst h1;rw[h2.get r];have hl2:=Zt (h2.get r)
  refine ⟨by simp;omega,hr,(K.trans h2).set (Nat.le_refl _),?_⟩
  rw[List.getElem?_set_self hl2,List.range_succ,List.map_append]
  rfl
noncomputable abbrev tb (a b c d:Int):SO:= .lst [.int a,.int b,.int c,.int d]
end
end CD
end
section
end
section
end
section
end
section
end
section
end
section
end
section
end
section
end
section
end
section
end
section
end
section
end
section
end
section
end
section
end
section
end
section
end
section
end
section
end
section
end
section
end
section
end
section
end
section
end
section
end
section
end
section
end
section
end
section
end
section
end
section
end
section
end
section
namespace CI
open PySem PySem.Spec L2 DL
open CR (F_is_whole F_greatest_divisor)
noncomputable def ZaX:Sv:=(Zz (sIf (Zbo (ZV (tv (ZbM "tuple" (Zh 0)))) (Zbo (tv (e2 dNe (Zj bLen (Zc (Zh 0) aNil)) (eC (.int 2)))) (Zbo (ZV (tv (Zj F_is_whole (Zc (e2 dIx (Zh 0) (eC (.int 0))) aNil)))) (ZV (tv (Zj F_is_whole (Zc (e2 dIx (Zh 0) (eC (.int 1))) aNil))))))) (ZQ (eC (.bl false))) sNil)
 (ZQ (Zaj (e2 dGe (e2 dIx (Zh 0) (eC (.int 1))) (eC (.int 1))) (e2 dEq (Zj F_greatest_divisor (Zc (e2 dIx (Zh 0) (eC (.int 0))) (Zc (e2 dIx (Zh 0) (eC (.int 1))) aNil))) (eC (.int 1))))))
noncomputable def F_is_ratio:List D->Sto->Out D:=fnF ZaX 1 0
noncomputable def Zaa:Sv:=(Zz (sIf (tv (e2 dGe (Zj bAbs (Zc (Zh 0) aNil)) (e2 dPow (eC (.int 10)) (eC (.int 60))))) (ZaM (PySem.Str.ofString "NoText") (Zc (eC (.str (PySem.Str.ofString "a number has at most sixty figures"))) aNil)) sNil)
 (ZQ (Zj bStr (Zc (Zh 0) aNil))))
noncomputable def F_number_text:List D->Sto->Out D:=fnF Zaa 1 0
noncomputable def Zao:Sv:=(Zz (ZU (gTp (gCs (gNm 1) (gCs (gNm 2) gNl))) (Zh 0))
 (Zz (sIf (tv (e2 dEq (Zh 2) (eC (.int 1)))) (ZQ (Zj F_number_text (Zc (Zh 1) aNil))) sNil)
 (ZQ (eFs (ZdK (eFm (Zj F_number_text (Zc (Zh 1) aNil))) (ZdK (eC (.str (PySem.Str.ofString "/"))) (ZdK (eFm (Zj F_number_text (Zc (Zh 2) aNil))) jNil)))))))
noncomputable def F_ratio_text:List D->Sto->Out D:=fnF Zao 1 2
noncomputable def Zab:Sv:=(ZQ (ZfD mJn (eC (.str (PySem.Str.ofString " "))) (Zc (Z3 (iSq (Zh 0)) 1 [] (gNm 0) (fun _ M=> .ok true M) (Zj F_ratio_text (Zc (Zh 0) aNil))) aNil)))
noncomputable def F_height_text:List D->Sto->Out D:=fnF Zab 1 0
noncomputable def ZaY:Sv:=(Zz (sIf (tv (e2 dEq (Zh 0) (Zbg aNil))) (ZQ (eC (.str (PySem.Str.ofString "-")))) sNil)
 (ZQ (ZfD mJn (eC (.str (PySem.Str.ofString " "))) (Zc (Z3 (iSq (Zh 0)) 1 [] (gNm 0) (fun _ M=> .ok true M) (Zj F_number_text (Zc (Zh 0) aNil))) aNil))))
noncomputable def F_row_text:List D->Sto->Out D:=fnF ZaY 1 0
noncomputable def ZaZ:Sv:=(Zz (sIf (ZV (tv (ZbM "str" (Zh 0)))) (ZaM (PySem.Str.ofString "NoText") (Zc (eC (.str (PySem.Str.ofString "the thing is no text"))) aNil)) sNil)
 (ZQ (ZfD mSpl (Zh 0) (Zc (eC (.str (PySem.Str.ofString " "))) aNil))))
noncomputable def F_words_of:List D->Sto->Out D:=fnF ZaZ 1 0
noncomputable def Zac:Sv:=(Zz (ZU (gNm 1) (eIf (tv (ZfD mStw (Zh 0) (Zc (eC (.str (PySem.Str.ofString "-"))) aNil))) (Zlw (Zh 0) (oSo (eC (.int 1))) oNo) (Zh 0)))
 (Zz (sIf (Zbo (tv (e2 dLt (Zj bLenT (Zc (Zh 1) aNil)) (eC (.int 1)))) (Zbo (tv (e2 dGt (Zj bLenT (Zc (Zh 1) aNil)) (eC (.int 60)))) (ZV (tv (Zj bAll (Zc (Z3 (iTx (Zh 1)) 1 [] (gNm 0) (fun _ M=> .ok true M) (e2 dInT (Zh 0) (eC (.str (PySem.Str.ofString "0123456789"))))) aNil)))))) (ZaM (PySem.Str.ofString "NoText") (Zc (eC (.str (PySem.Str.ofString "a number is written by one to sixty figures"))) aNil)) sNil)
 (Zz (sIf (Zbn (tv (e2 dEq (e2 Zlv (Zh 1) (eC (.int 0))) (eC (.str (PySem.Str.ofString "0"))))) (tv (e2 dNe (Zh 0) (eC (.str (PySem.Str.ofString "0")))))) (ZaM (PySem.Str.ofString "NoText") (Zc (eC (.str (PySem.Str.ofString "a nought ahead stands in 0 alone"))) aNil)) sNil)
 (ZQ (Zj bIntT (Zc (Zh 0) aNil))))))
noncomputable def F_read_number:List D->Sto->Out D:=fnF Zac 1 1
noncomputable def Zap:Sv:=(Zz (ZU (gNm 1) (Z3 (iSq (ZfD mSpl (Zh 0) (Zc (eC (.str (PySem.Str.ofString "/"))) aNil))) 1 [] (gNm 0) (fun _ M=> .ok true M) (Zj F_read_number (Zc (Zh 0) aNil))))
 (Zz (sIf (tv (e2 dEq (Zj bLen (Zc (Zh 1) aNil)) (eC (.int 1)))) (ZQ (Zdf (Zc (e2 dIx (Zh 1) (eC (.int 0))) (Zc (eC (.int 1)) aNil)))) sNil)
 (Zz (ZU (gNm 2) (Zj bTup (Zc (Zh 1) aNil)))
 (Zz (sIf (Zbo (ZV (tv (Zj F_is_ratio (Zc (Zh 2) aNil)))) (tv (e2 dEq (e2 dIx (Zh 2) (eC (.int 1))) (eC (.int 1))))) (ZaM (PySem.Str.ofString "NoText") (Zc (eC (.str (PySem.Str.ofString "a ratio is written in lowest terms, and without a bottom of 1"))) aNil)) sNil)
 (ZQ (Zh 2))))))
noncomputable def F_read_ratio:List D->Sto->Out D:=fnF Zap 1 2
noncomputable def Zad:Sv:=(ZQ (Z3 (iSq (Zj F_words_of (Zc (Zh 0) aNil))) 1 [] (gNm 0) (fun _ M=> .ok true M) (Zj F_read_ratio (Zc (Zh 0) aNil))))
noncomputable def F_read_height:List D->Sto->Out D:=fnF Zad 1 0
noncomputable def Zat:Sv:=(Zz (sIf (tv (e2 dEq (Zh 0) (eC (.str (PySem.Str.ofString "-"))))) (ZQ (Zbg aNil)) sNil)
 (ZQ (Z3 (iSq (Zj F_words_of (Zc (Zh 0) aNil))) 1 [] (gNm 0) (fun _ M=> .ok true M) (Zj F_read_number (Zc (Zh 0) aNil)))))
noncomputable def F_read_row:List D->Sto->Out D:=fnF Zat 1 0
end CI
end
section
namespace CI
open PySem PySem.Spec L2 DL SX PySem.NumText
open CR (rt Sz)
open CH (rts Zp ZT)
open CV
section
variable {Q:D->Sto->Prop}{E:Str->Sto->Prop}{M:Sto}{n m k:Nat}{i:Int}{z:Str}
theorem Zdy {i:Int}(h:i.natAbs < 10 ^ 60):i.natAbs.log2 < 1900:=by
 by_cases z:i.natAbs=0
 ·rw[z];decide
 ·exact Nat.lt_trans ((Nat.log2_lt z).mpr (Nat.lt_of_lt_of_le h (by decide:10 ^ 60<=2 ^ 200))) (by decide)
theorem Zbk (h:i.natAbs < 10 ^ 60)(q:Q (.str (tx i)) M):wO (F_number_text [.int i] M) Q E:=by
 have h1:=Zdy h
 simp![F_number_text,Zaa,Zgr];exact ⟨h1,q⟩
noncomputable def fgs (l:List Nat):List Nat:=match l with | 45 :: r=>r | _=>l
noncomputable def ten:List Nat:=[48,49,50,51,52,53,54,55,56,57]
noncomputable def okn (l:List Nat):Prop:=(1<=(fgs l).length/\(fgs l).length<=60/\(fgs l).all (fun c=>ten.contains c)=true)/\((fgs l).head?=some 48->l=[48])
noncomputable def vln (l:List Nat):Int:=if l.head?=some 45 then -(digitsVal (fgs l):Nat) else (digitsVal (fgs l):Nat)
theorem Zc2 {l:List Nat}(h:l.head?=some 45): ∃ r,l=45 :: r/\fgs l=r:=by
 cases l with
 |nil=>cases h
 |cons a r=>
  have:a=45:=by simpa using h
  subst this;exact ⟨r,rfl,rfl⟩
theorem Zb1 {l:List Nat}(h:l.head?≠some 45):fgs l=l:=by
 unfold fgs
 split
 ·exact absurd rfl h
 ·rfl
theorem Zft (c:Nat):ten.contains c=true ↔ 48<=c/\c<=57:=by
 unfold ten;simp only[List.contains_cons,List.contains_nil,Bool.or_false,Bool.or_eq_true,beq_iff_eq];omega
theorem Zfu (z:Str):Txt.startswith z (PySem.Str.ofString "-")=decide (z.cps.toList.head?=some 45):=by
 have e:PySem.Str.ofString "-"=⟨#[45]⟩:=by decide
 rw[e];unfold Txt.startswith Builtin.Str.subAt;rw[show (⟨#[45]⟩:Str).length=1 from rfl,Zaw];have hx:z.cps.extract 0 (0 + 1)=(z.cps.toList.take 1).toArray:=by
  apply Array.toList_inj.mp
  rw[Array.toList_extract,List.extract_eq_drop_take]
  simp
 rw[hx];cases h:z.cps.toList with
 |nil=>rfl
 |cons a r=>
  simp only[List.take_succ_cons,List.take_zero,List.head?_cons,Option.some.injEq]
  by_cases c:a=45
  ·subst c;simp
  ·rw[decide_eq_false c]
   have:(#[a] == (⟨#[45]⟩:Str).cps)=false:=by
    apply beq_eq_false_iff_ne.mpr
    intro z
    injection z with z
    injection z with z _
    exact c z
   rw[show ([a]:List Nat).toArray= #[a] from rfl,this,Bool.and_false]
theorem ZlC (z:Str):(⟨z.cps.toList.toArray⟩:Str)=z:=Ze2 (by simp)
theorem Zio {k:Nat}{x y:Str}:eqF (k + 1) M (.str x) (.str y)=some (decide (x=y)):=rfl
theorem Zlf (l:List Nat):sgs ⟨l.toArray⟩=l.map fun c=>D.str ⟨#[c]⟩:=by simp[sgs]
noncomputable def pB (P:Prop)(M:Sto)(b:Bool)(M':Sto):Prop:=(b=true ↔ P)/\Kp M M'
theorem pBi {P:Prop}{M M':Sto}{b:Bool}(h:b=true ↔ P)(k:Kp M M'):pB P M b M':=⟨h,k⟩
theorem Zfv {xs:List Bool}:ZH (xs.map D.bl)=some xs:=CA.Zfq xs
theorem Zii (hz:asc z=true)(hl:z.length<=100000)(q1:okn z.cps.toList-> ∀ M',Kp M M'->Q (.int (vln z.cps.toList)) M')(q2: ¬ okn z.cps.toList-> ∀ M',Kp M M'->E (PySem.Str.ofString "NoText") M'):wO (F_read_number [.str z] M) Q E:=by
 have hs:=Zfu z
 have hL:=Zaw z
 have hk: ∀ c∈z.cps.toList,c < 128:=fun c hc=>by
  have:=hz
  unfold asc at this;rw[Array.all_eq_true] at this;obtain ⟨i,hi,e⟩:=List.mem_iff_getElem.mp hc
  have t:=this i (by simpa using hi)
  rw[<- e]
  simpa using t
 generalize eL:z.cps.toList=L at *;simp![F_read_number,Zac,Zc1,Zc0,Zng,hs];refine Zlz (fun d M'=>d= .str ⟨(fgs L).toArray⟩/\M'=M) ?_ ?_
 ·refine brO (fun c=> ?_) (fun c=> ?_)
  ·obtain ⟨r,e1,e2⟩:=Zc2 c
   simp![Znj,kL0,kL1,kL2,Znk];have e3:ZhE z (some 1) none=⟨(fgs L).toArray⟩:=by
    unfold ZhE;rw[eL,e2,e1]
    simp
   refine ⟨⟨hl,?_⟩,by rw[e3]⟩
   unfold okT;rw[eL,e1]
   simp
   omega
  ·simp![Zl]
   rw[Zb1 c,<- eL,ZlC]
 rintro d M0 ⟨rfl,e0⟩
 obtain rfl:=e0.symm
 have fl:(fgs L).length<=L.length:=by
  unfold fgs
  split<;>simp
 have fm: ∀ c∈fgs L,c < 128:=fun c hc=>by
  unfold fgs at hc
  split at hc
  ·exact hk c (List.mem_cons_of_mem _ hc)
  ·exact hk c hc
 have lF:(⟨(fgs L).toArray⟩:Str).length=(fgs L).length:=by rw[Zaw]
 have aF:asc ⟨(fgs L).toArray⟩=true:=by
  unfold asc;rw[Array.all_eq_true];intro i hi;simp only[List.getElem_toArray,decide_eq_true_eq];exact fm _ (List.getElem_mem _)
 simp![ZgS,lF];refine ⟨by omega,Zlz (pB (¬ (1<=(fgs L).length/\(fgs L).length<=60/\(fgs L).all (fun c=>ten.contains c)=true)) M) ?_ ?_⟩
 ·refine brO (fun c=> ?_) (fun c=> ?_)
  ·simp![Zl]
   exact pBi (by simp;omega) Kp.refl
  ·simp![ZgS,lF]
   refine ⟨by omega,?_⟩
   refine brO (fun c2=> ?_) (fun c2=> ?_)
   ·simp![Zl]
    exact pBi (by simp;omega) Kp.refl
   ·simp![Znl,Znm]
    rw[Zlf];refine ⟨aF,ZoB (xs:=(fgs L).map fun c=>D.str ⟨#[c]⟩) (fun ρ=> ∃ x,ρ=[x]) (fun i=> .bl (((fgs L).map fun c=>ten.contains c).getD i false)) (by simp;omega) (by simp[cnt]) ⟨_,rfl⟩ (fun L i hi=>rfl) ?_ ?_⟩
    ·rintro j hj ρ L' ⟨x,rfl⟩
     have hj':j < (fgs L).length:=by simpa using hj
     rw[List.getElem_map];have e5:(PySem.Str.ofString "0123456789").cps.toList=ten:=by decide
     simp![Znh,e5];refine ⟨⟨_,rfl⟩,?_⟩
     rw[List.getD_eq_getElem?_getD,List.getElem?_map,List.getElem?_eq_getElem hj']
     rfl
    ·have e6:(List.range ((fgs L).map fun c=>D.str ⟨#[c]⟩).length).map (fun i=>D.bl (((fgs L).map fun c=>ten.contains c).getD i false))=((fgs L).map fun c=>ten.contains c).map D.bl:=by
      apply List.ext_getElem
      ·simp
      ·intro i h1 h2
       have h3:i < ((fgs L).map fun c=>ten.contains c).length:=by simpa using h2
       rw[List.getElem_map,List.getElem_range,List.getElem_map,List.getD_eq_getElem?_getD,List.getElem?_eq_getElem h3]
       rfl
     rw[e6];simp![Zfv];refine pBi ?_ Kp.app
     rw[List.all_map]
     constructor
     ·intro h
      rintro ⟨_,_,h3⟩
      have h4:(List.all (fgs L) (id ∘ fun c=>ten.contains c))=true:=h3
      rw[h4] at h;cases h
     ·intro h
      cases h4:(fgs L).all fun c=>ten.contains c with
      |false=>exact congrArg (! ·) h4
      |true=>exact absurd ⟨by omega,by omega,h4⟩ h
 rintro b M1 ⟨hb,K1⟩
 by_cases P:1<=(fgs L).length/\(fgs L).length<=60/\(fgs L).all (fun c=>ten.contains c)=true
 ·have hb':b=false:=by
   cases b with
   |false=>rfl
   |true=>exact absurd P (hb.mp rfl)
  subst hb';obtain ⟨a,r,ef⟩: ∃ a r,fgs L=a :: r:=by
   cases h:fgs L with
   |nil=>rw[h] at P;exact absurd P.1 (by decide)
   |cons a r=>exact ⟨a,r,rfl⟩
  simp![Zl];refine Zni (c:=a) (by decide) (by simp[ef]) ?_
  simp![Zio];have ea:(decide ((⟨#[a]⟩:Str)=PySem.Str.ofString "0"))=decide (a=48):=by
   rw[show PySem.Str.ofString "0"=⟨#[48]⟩ by decide]
   by_cases c:a=48
   ·subst c;simp
   ·rw[decide_eq_false c,decide_eq_false]
    intro h;injection h with h;injection h with h;injection h with h _;exact c h
  have ez:(decide (z=PySem.Str.ofString "0"))=decide (L=[48]):=by
   rw[<- eL]
   by_cases c:z.cps.toList=[48]
   ·rw[decide_eq_true c,decide_eq_true (Ze2 c)]
   ·rw[decide_eq_false c,decide_eq_false]
    intro h;rw[h] at c;exact c (by decide)
  have ad:AllDigits (fgs L):=fun c hc=>(Zft c).mp (List.all_eq_true.mp P.2.2 c hc)
  have end_:((fgs L).head?=some 48->L=[48])-> ∀ M3,Kp M M3->wO (bIntT [.str z] M3) Q E:=fun ho M3 K3=>by
   have fin:=q1 ⟨P,ho⟩ M3 K3
   unfold vln at fin;have l60:z.length<=61:=by
    rw[hL]
    by_cases c:L.head?=some 45
    ·obtain ⟨r',e1,e2⟩:=Zc2 c
     rw[e1,List.length_cons,<- e2];omega
    ·rw[<- Zb1 c];omega
   by_cases c:L.head?=some 45
   ·obtain ⟨r',e1,e2⟩:=Zc2 c
    rw[if_pos c] at fin;refine ZgT (by omega) (intText_neg (cs:=fgs L) (by rw[eL,e2,e1]) ad (by rw[ef];simp) (by omega)) fin
   ·rw[if_neg c] at fin
    have e3:=Zb1 c
    rw[e3] at ad ef fin;refine ZgT (by omega) ?_ fin
    rw[intText_digits (by rw[eL];exact ad) (by rw[eL,ef];simp) (by omega),eL]
  rw[ea];refine Zlz (pB (a=48/\L≠[48]) M1) ?_ ?_
  ·refine brO (fun c=> ?_) (fun c=> ?_)
   ·simp![Zio,ez]
    exact pBi (by simp[c]) Kp.refl
   ·simp![Zl]
    exact pBi (by simp[c]) Kp.refl
  rintro b M2 ⟨hb2,K2⟩
  have hh:(fgs L).head?=some a:=by rw[ef];rfl
  cases b with
  |true=>
   simp![Zl];obtain ⟨h1,h2⟩:=hb2.mp rfl
   exact q2 (fun h=>h2 (h.2 (by rw[hh,h1]))) M2 (K1.trans K2)
  |false=>
   simp![Zl];refine end_ (fun h=> ?_) M2 (K1.trans K2)
   rw[hh] at h
   by_cases c:L=[48]
   ·exact c
   ·exact absurd (hb2.mpr ⟨by simpa using h,c⟩) (by decide)
 ·have hb':b=true:=hb.mpr P
  subst hb';simp![Zl];exact q2 (fun h=>P h.1) M1 K1
theorem Zlg (h:i.natAbs < 10 ^ 60):okn (tx i).cps.toList/\vln (tx i).cps.toList=i/\asc (tx i)=true:=by
 have hl:=ZgK (by decide) h
 have ha:=Ze3 i.natAbs
 have hn:=ZjM i.natAbs
 have e:=Zlx i
 have f:fgs (tx i).cps.toList=dg i.natAbs:=by
  rw[e]
  by_cases c:i < 0
  ·rw[if_pos c];rfl
  ·rw[if_neg c,List.nil_append]
   refine Zb1 fun z=> ?_
   have:=ha 45 (List.mem_of_mem_head? z)
   omega
 have hh:(tx i).cps.toList.head?=some 45 ↔ i < 0:=by
  rw[e]
  by_cases c:i < 0
  ·simp[c]
  ·simp only[c,if_false,List.nil_append,iff_false]
   intro z
   have:=ha 45 (List.mem_of_mem_head? z)
   omega
 have lp:0 < (dg i.natAbs).length:=List.length_pos_iff.mpr hn
 refine ⟨⟨⟨by rw[f];exact lp,by rw[f];exact hl,by rw[f];exact List.all_eq_true.mpr fun c hc=>(Zft c).mpr (ha c hc)⟩,fun z=> ?_⟩,?_,?_⟩
 ·rw[f] at z
  by_cases c:i.natAbs=0
  ·rw[e,c,ZhH,if_neg (by omega)];rfl
  ·obtain ⟨a,r,e1,n1⟩:=ZhI c
   rw[e1] at z;exact absurd (by simpa using z) n1
 ·unfold vln
  rw[f,ZjN]
  by_cases c:i < 0
  ·rw[if_pos (hh.mpr c)];omega
  ·rw[if_neg (fun z=>c (hh.mp z))];omega
 ·unfold asc
  rw[Array.all_eq_true];intro j hj;have m:(tx i).cps[j]∈(tx i).cps.toList:=by simp
  rw[decide_eq_true_eq];rw[e] at m
  rcases List.mem_append.mp m with m | m
  ·split at m
   ·simp at m;omega
   ·cases m
  ·have:=ha _ m;omega
theorem ZaQ (h:i.natAbs < 10 ^ 60)(q: ∀ M',Kp M M'->Q (.int i) M'):wO (F_read_number [.str (tx i)] M) Q E:=by
 obtain ⟨h1,h2,h3⟩:=Zlg h
 have tl:=Zay h
 exact Zii h3 (by omega) (fun _=>by rw[h2];exact q) (fun n=>absurd h1 n)
noncomputable def rtx (q:Rat):Str:=if q.den=1 then tx q.num else tx q.num ++ PySem.Str.ofString "/" ++ tx q.den
structure Sx6 (q:Rat):Prop where
 n:q.num.natAbs < 10 ^ 60
 d:q.den < 10 ^ 60
theorem Zbx:(PySem.Str.ofString "/").cps.toList=[47]:=by decide
theorem Zby:(PySem.Str.ofString " ").cps.toList=[32]:=by decide
theorem Zlh (q:Rat):(rtx q).cps.toList=if q.den=1 then (tx q.num).cps.toList else (tx q.num).cps.toList ++ 47 :: (tx q.den).cps.toList:=by
 unfold rtx
 split
 ·rfl
 ·rw[ZhG,ZhG,Zbx,List.append_assoc];rfl
theorem Zb2 (a b:Str):(a ++ b).length=a.length + b.length:=by rw[Zaw,ZhG,List.length_append,<- Zaw,<- Zaw]
theorem Za0 {q:Rat}(h:Sx6 q):(rtx q).length<=123:=by
 have h1:=Zay h.n
 have h2:=Zay (i:=(q.den:Int)) (by simpa using h.d)
 unfold rtx
 split
 ·omega
 ·rw[Zb2,Zb2,Zaw (PySem.Str.ofString "/"),Zbx];simp;omega
theorem Zbb {q:Rat}(h:Sx6 q)(q':Q (.str (rtx q)) M):wO (F_ratio_text [rt q] M) Q E:=by
 have h1:=h.n
 have h2:(q.den:Int).natAbs < 10 ^ 60:=by simpa using h.d
 have h3:=Za0 h
 have l1:=Zay h1
 have l2:=Zay h2
 have l3:(PySem.Str.ofString "/").length=1:=by rw[Zaw,Zbx];rfl
 unfold rtx at q' h3;simp![F_ratio_text,Zao];refine brS (fun c=> ?_) (fun c=> ?_)
 ·rw[if_pos (by omega)] at q'
  simp![Zl];exact Zbk h1 q'
 ·rw[if_neg (by omega)] at q' h3
  simp![ZpW,Znn,ZoC];refine Zbk h1 ?_
  simp![Zk4,Znn,Zk3,PySem.W.KT.empty_app];refine ⟨by omega,by omega,by rw[Zb2];omega,?_⟩
  simp![ZoC];refine Zbk h2 ?_
  simp![Zk4,Znn,Zk3,Zno];exact ⟨by omega,by omega,by omega,q'⟩
theorem Zij {q:Rat}:spl 47 (rtx q).cps.toList=if q.den=1 then [(tx q.num).cps.toList] else [(tx q.num).cps.toList,(tx q.den).cps.toList]:=by
 rw[Zlh];have h1:47 ∉ (tx q.num).cps.toList:=Ze4 (by decide) (by decide)
 have h2:47 ∉ (tx q.den).cps.toList:=Ze4 (by decide) (by decide)
 split
 ·exact Zbi 47 _ h1
 ·rw[ZcW 47 _ _ h1,Zbi 47 _ h2]
theorem Zd0 {q:Rat}(q':Q (.bl true) M):wO (F_is_ratio [rt q] M) Q E:=by
 have gw: ∀ {Q:D->Sto->Prop},wO (CR.F_greatest_divisor [.int q.num,.int q.den] M) Q E=Q (.int (Int.gcd q.num q.den:Nat)) M:=by
  intro Q;rw[CR.Zns,ZjR];rfl
 have hg:Int.gcd q.num q.den=1:=by
  have:=q.reduced
  unfold Nat.Coprime at this;unfold Int.gcd
  simpa using this
 have hd:(1:Int)<=q.den:=by have:=q.den_pos;omega
 simp![F_is_ratio,ZaX,CR.F_is_whole,CR.ZaW,gw,hg];exact q'
theorem Znx {xs:List D}(h:M[n]?=some (.lst xs)):wO (bTup [.ref n] M) Q E=Q (.tup xs) M:=by
 unfold bTup Zlu Zbq;simp only[h];rfl
theorem ZcH {q:Rat}(h:Sx6 q)(q': ∀ M',Kp M M'->Q (rt q) M'):wO (F_read_ratio [.str (rtx q)] M) Q E:=by
 have h1:=h.n
 have h2:(q.den:Int).natAbs < 10 ^ 60:=by simpa using h.d
 have h3:=Za0 h
 simp![F_read_ratio,Zap,Zc1,Zc0];refine Zk2 Zbx (by decide) (by omega) ?_
 rw[Zij]
 by_cases c:q.den=1
 ·rw[if_pos c]
  simp only[List.map_cons,List.map_nil,ZlC];have r0:(M ++ [SO.lst [.str (tx q.num)]])[M.length]?=some (.lst [.str (tx q.num)]):=by simp
  have K0:Kp M (M ++ [SO.lst [.str (tx q.num)]]):=Kp.app
  generalize M ++ [SO.lst [.str (tx q.num)]]=M1 at r0 K0 ⊢;simp![r0];refine CD.ZlB (fun ρ=> ∃ x,ρ=[x]) (fun _=>D.int q.num) r0 (by simp) ⟨_,rfl⟩ ?_ fun M2 K2 r2=> ?_
  ·rintro j hj ρ M' K ⟨x,rfl⟩
   have:j=0:=by simpa using hj
   subst this;simp![Zl];exact ⟨⟨_,rfl⟩,ZaQ h1 fun M3 K3=>⟨rfl,K3⟩⟩
  ·replace r2:M2[M1.length]?=some (.lst [.int q.num]):=r2
   simp![r2];have e:rt q=pr q.num 1:=by show pr q.num (q.den:Int)=_;rw[c];rfl
   have:=q' M2 (K0.trans K2)
   rw[e] at this;exact this
 ·rw[if_neg c]
  simp only[List.map_cons,List.map_nil,ZlC];have r0:(M ++ [SO.lst [.str (tx q.num),.str (tx q.den)]])[M.length]?=some (.lst [.str (tx q.num),.str (tx q.den)]):=by simp
  have K0:Kp M (M ++ [SO.lst [.str (tx q.num),.str (tx q.den)]]):=Kp.app
  generalize M ++ [SO.lst [.str (tx q.num),.str (tx q.den)]]=M1 at r0 K0 ⊢;simp![r0];refine CD.ZlB (fun ρ=> ∃ x,ρ=[x]) (fun i=>if i=0 then D.int q.num else D.int q.den) r0 (by simp) ⟨_,rfl⟩ ?_ fun M2 K2 r2=> ?_
  ·rintro j hj ρ M' K ⟨x,rfl⟩
   have:j=0\/j=1:=by simp at hj;omega
   rcases this with rfl | rfl
   ·simp![Zl]
    exact ⟨⟨_,rfl⟩,ZaQ h1 fun M3 K3=>⟨rfl,K3⟩⟩
   ·simp![Zl]
    exact ⟨⟨_,rfl⟩,ZaQ h2 fun M3 K3=>⟨rfl,K3⟩⟩
  ·replace r2:M2[M1.length]?=some (.lst [.int q.num,.int q.den]):=r2
   simp![r2,Znx r2];refine Zd0 (q:=q) ?_
   simp![Zl];exact q' M2 (K0.trans K2)
theorem Za1 {α β:Type}(l:List α)(d:α)(f:α->β):(List.range l.length).map (fun i=>f (l.getD i d))=l.map f:=by
 apply List.ext_getElem
 ·simp
 ·intro i h1 h2
  have h3:i < l.length:=by simpa using h2
  simp[h3]
theorem Za2 {α:Type}{l:List α}{d:α}{i:Nat}(h:i < l.length):l.getD i d=l[i]:=by simp[h]
theorem Zfw {hs:List Rat}{j:Nat}(h:j < (rts hs).length):(rts hs)[j]=rt (hs[j]'(by rw[Zp] at h;exact h)):=by simp[rts]
noncomputable def htx (hs:List Rat):Str:=Txt.join (PySem.Str.ofString " ") (hs.map rtx)
noncomputable def wtx (ns:List Int):Str:=if ns=[] then PySem.Str.ofString "-" else Txt.join (PySem.Str.ofString " ") (ns.map tx)
theorem Zfx:PySem.Str.ofString " "=⟨#[32]⟩:=by decide
theorem Zli {q:Rat}:32 ∉ (rtx q).cps.toList:=by
 rw[Zlh];have h1:32 ∉ (tx q.num).cps.toList:=Ze4 (by decide) (by decide)
 have h2:32 ∉ (tx q.den).cps.toList:=Ze4 (by decide) (by decide)
 split
 ·exact h1
 ·intro m
  rcases List.mem_append.mp m with m | m
  ·exact h1 m
  ·rcases List.mem_cons.mp m with m | m
   ·cases m
   ·exact h2 m
theorem Zdz {ys:List Str}(hn:ys≠[])(h: ∀ y∈ys,32 ∉ y.cps.toList):(spl 32 (Txt.join (PySem.Str.ofString " ") ys).cps.toList).map (fun l=>D.str ⟨l.toArray⟩)=ys.map D.str:=by
 rw[Zfx,ZeZ,ZgI 32 _ (by simpa using hn) (by simpa using h),List.map_map]
 apply List.map_congr_left
 intro y _;show D.str ⟨y.cps.toList.toArray⟩=_
 rw[ZlC]
theorem ZdA {ys:List Str}{b:Nat}(h: ∀ y∈ys,y.length<=b):(Txt.join (PySem.Str.ofString " ") ys).length<=ys.length * (b + 1):=by
 rw[Zaw,Zfx,ZeZ]
 induction ys with
 |nil=>simp[jn]
 |cons y ys ih=>
  have h1:=h y (List.mem_cons_self ..)
  have h2:=ih fun z m=>h z (List.mem_cons_of_mem _ m)
  rw[Zaw] at h1;cases ys with
  |nil=>simp only[List.map_cons,List.map_nil,jn,List.length_cons,List.length_nil];omega
  |cons z zs=>
   have e:jn 32 ((y :: z :: zs).map fun x=>x.cps.toList)=y.cps.toList ++ 32 :: jn 32 ((z :: zs).map fun x=>x.cps.toList):=rfl
   rw[e,List.length_append,List.length_cons];rw[List.length_cons,Nat.succ_mul];omega
theorem Zb3 {hs:List Rat}(h:M[n]?=some (.lst (rts hs)))(hl:hs.length<=100)(hz: ∀ x∈hs,Sx6 x)(q: ∀ M',Kp M M'->Q (.str (htx hs)) M'):wO (F_height_text [.ref n] M) Q E:=by
 simp![F_height_text,Zab,Zc1,Zc0];refine Zin (fun ρ=> ∃ x,ρ=[x]) (fun i=>D.str (rtx (hs.getD i 0))) h (by rw[Zp];omega) ⟨_,rfl⟩ ?_ ?_
 ·rintro j hj ρ L ⟨x,rfl⟩
  rw[Zfw];rw[Zp] at hj;simp![Zl];refine ⟨⟨_,rfl⟩,Zbb (hz _ (List.getElem_mem _)) ?_⟩
  rw[Za2 hj];exact ⟨rfl,rfl⟩
 ·rw[Zp,Za1 hs 0 fun q=>D.str (rtx q)]
  have r:(M ++ [SO.lst (hs.map fun q=>D.str (rtx q))])[M.length]?=some (.lst ((hs.map rtx).map D.str)):=by simp
  simp![Zl];refine Zk1 r ⟨hs.map rtx,ZbY _,ZaP (b:=123) (by rw[Zaw,Zby];decide) ?_ ?_,q _ Kp.app⟩
  ·intro x hx
   obtain ⟨y,hy,rfl⟩:=List.mem_map.mp hx
   exact Za0 (hz y hy)
  ·rw[List.length_map];omega
theorem Zd1 {ns:List Int}(h:M[n]?=some (.lst (nts ns)))(hl:ns.length<=1000)(hz: ∀ x∈ns,x.natAbs < 10 ^ 60)(q: ∀ M',Kp M M'->Q (.str (wtx ns)) M'):wO (F_row_text [.ref n] M) Q E:=by
 have hn:=Zt h
 have hq:eqF 12 (M ++ [SO.lst []]) (.ref n) (.ref M.length)=some (decide (ns=[])):=Zh4 (ss:=[]) (by rw[Z0 hn];exact h) (by simp[nts])
 have r0:(M ++ [SO.lst []])[n]?=some (.lst (nts ns)):=by rw[Z0 hn];exact h
 have K0:Kp M (M ++ [SO.lst []]):=Kp.app
 unfold wtx at q;simp![F_row_text,ZaY,hq];refine brS (fun c=> ?_) (fun c=> ?_)
 ·rw[if_pos c] at q
  simp![Zl];exact q _ K0
 ·rw[if_neg c] at q
  generalize M ++ [SO.lst []]=M1 at r0 K0 ⊢;simp![Zc1,Zc0];refine Zin (fun ρ=> ∃ x,ρ=[x]) (fun i=>D.str (tx (ns.getD i 0))) r0 (by rw[ZM];omega) ⟨_,rfl⟩ ?_ ?_
  ·rintro j hj ρ L ⟨x,rfl⟩
   have hj':j < ns.length:=by rw[ZM] at hj;exact hj
   have e:(nts ns)[j]= .int ns[j]:=by simp[nts]
   rw[e];simp![Zl];refine ⟨⟨_,rfl⟩,Zbk (hz _ (List.getElem_mem _)) ?_⟩
   rw[Za2 hj'];exact ⟨rfl,rfl⟩
  ·rw[ZM,Za1 ns 0 fun q=>D.str (tx q)]
   have r:(M1 ++ [SO.lst (ns.map fun q=>D.str (tx q))])[M1.length]?=some (.lst ((ns.map tx).map D.str)):=by simp
   simp![Zl];refine Zk1 r ⟨ns.map tx,ZbY _,ZaP (b:=61) (by rw[Zaw,Zby];decide) ?_ ?_,q _ (K0.trans Kp.app)⟩
   ·intro x hx
    obtain ⟨y,hy,rfl⟩:=List.mem_map.mp hx
    exact Zay (hz y hy)
   ·rw[List.length_map];omega
theorem Zfy {z:Str}(hl:z.length<=100000)(q:Q (.ref M.length) (M ++ [.lst ((spl 32 z.cps.toList).map fun l=> .str ⟨l.toArray⟩)])):wO (F_words_of [.str z] M) Q E:=by
 have ty:ZG M (.str z)=some "str":=rfl
 have ti:ZaC "str" "str"=true:=by decide
 simp![F_words_of,ZaZ,ty,ti,Zc1,Zc0];exact Zk2 Zby (by decide) hl q
theorem Zb4 {hs:List Rat}(hn:hs≠[])(hl:hs.length<=100)(hz: ∀ x∈hs,Sx6 x)(q: ∀ m M',Kp M M'->M.length<=m->M'[m]?=some (.lst (rts hs))->Q (.ref m) M'):wO (F_read_height [.str (htx hs)] M) Q E:=by
 have l1:(htx hs).length<=100000:=by
  refine Nat.le_trans (ZdA (b:=123) ?_) (by rw[List.length_map];omega)
  intro x hx;obtain ⟨y,hy,rfl⟩:=List.mem_map.mp hx
  exact Za0 (hz y hy)
 simp![F_read_height,Zad];refine Zfy l1 ?_
 unfold htx;rw[Zdz (by simpa using hn) (by intro y hy;obtain ⟨x,_,rfl⟩:=List.mem_map.mp hy;exact Zli)]
 have r0:(M ++ [SO.lst ((hs.map rtx).map D.str)])[M.length]?=some (.lst ((hs.map rtx).map D.str)):=by simp
 have K0:Kp M (M ++ [SO.lst ((hs.map rtx).map D.str)]):=Kp.app
 have L0:M.length<=(M ++ [SO.lst ((hs.map rtx).map D.str)]).length:=by simp
 generalize M ++ [SO.lst ((hs.map rtx).map D.str)]=M1 at r0 K0 L0 ⊢;simp![r0];refine CD.ZlB (fun ρ=> ∃ x,ρ=[x]) (fun i=>rt (hs.getD i 0)) r0 (by simp;omega) ⟨_,rfl⟩ ?_ fun M2 K2 r2=> ?_
 ·rintro j hj ρ M' K ⟨x,rfl⟩
  have hj':j < hs.length:=by simpa using hj
  rw[List.getElem_map,List.getElem_map];simp![Zl];refine ⟨⟨_,rfl⟩,ZcH (hz _ (List.getElem_mem _)) fun M3 K3=> ?_⟩
  rw[Za2 hj'];exact ⟨rfl,K3⟩
 ·rw[List.length_map,List.length_map,Za1 hs 0 fun q=>rt q] at r2
  exact q _ M2 (K0.trans K2) L0 r2
theorem Zny (i:Int):(tx i).cps.toList≠[45]:=by
 rw[Zlx];intro e;have h1:=ZjM i.natAbs
 have h2:=Ze3 i.natAbs
 by_cases c:i < 0
 ·rw[if_pos c] at e
  exact h1 (by simpa using e)
 ·rw[if_neg c,List.nil_append] at e
  have:=h2 45 (by rw[e];simp)
  omega
theorem Zd2 {ns:List Int}(hl:ns.length<=1000)(hz: ∀ x∈ns,x.natAbs < 10 ^ 60)(q: ∀ m M',Kp M M'->M.length<=m->M'[m]?=some (.lst (nts ns))->Q (.ref m) M'):wO (F_read_row [.str (wtx ns)] M) Q E:=by
 by_cases c:ns=[]
 ·subst c
  have e:wtx []=PySem.Str.ofString "-":=rfl
  rw[e];simp![F_read_row,Zat,Zio];exact q _ _ Kp.app (Nat.le_refl _) (by simp[nts])
 ·have l1:(wtx ns).length<=100000:=by
   unfold wtx;rw[if_neg c];refine Nat.le_trans (ZdA (b:=61) ?_) (by rw[List.length_map];omega)
   intro x hx;obtain ⟨y,hy,rfl⟩:=List.mem_map.mp hx
   exact Zay (hz y hy)
  have sp:(spl 32 (wtx ns).cps.toList).map (fun l=>D.str ⟨l.toArray⟩)=(ns.map tx).map D.str:=by
   unfold wtx;rw[if_neg c];exact Zdz (by simpa using c) (by intro y hy;obtain ⟨x,_,rfl⟩:=List.mem_map.mp hy;exact Ze4 (by decide) (by decide))
  have ne:decide (wtx ns=PySem.Str.ofString "-")=false:=by
   apply decide_eq_false
   intro e;rw[e,show spl 32 (PySem.Str.ofString "-").cps.toList=[[45]] by decide] at sp
   cases ns with
   |nil=>exact c rfl
   |cons a r=>
    simp only[List.map_cons,List.map_nil,List.cons.injEq] at sp
    have:=sp.1
    injection this with this
    exact Zny a (by rw[<- this])
  simp![F_read_row,Zat,Zio,ne];refine Zfy l1 ?_
  rw[sp];have r0:(M ++ [SO.lst ((ns.map tx).map D.str)])[M.length]?=some (.lst ((ns.map tx).map D.str)):=by simp
  have K0:Kp M (M ++ [SO.lst ((ns.map tx).map D.str)]):=Kp.app
  have L0:M.length<=(M ++ [SO.lst ((ns.map tx).map D.str)]).length:=by simp
  generalize M ++ [SO.lst ((ns.map tx).map D.str)]=M1 at r0 K0 L0 ⊢;simp![r0];refine CD.ZlB (fun ρ=> ∃ x,ρ=[x]) (fun i=>D.int (ns.getD i 0)) r0 (by simp;omega) ⟨_,rfl⟩ ?_ fun M2 K2 r2=> ?_
  ·rintro j hj ρ M' K ⟨x,rfl⟩
   have hj':j < ns.length:=by simpa using hj
   rw[List.getElem_map,List.getElem_map];simp![Zl];refine ⟨⟨_,rfl⟩,ZaQ (hz _ (List.getElem_mem _)) fun M3 K3=> ?_⟩
   rw[Za2 hj'];exact ⟨rfl,K3⟩
  ·rw[List.length_map,List.length_map,Za1 ns 0 fun q=>D.int q] at r2
   exact q _ M2 (K0.trans K2) L0 r2
end
end CI
end
section
namespace K76
open CR (ZaW F_is_whole ZR ZY F_greatest_divisor Zan Zbw F_law_low Z9 F_law_whole)
open CI (ZaX F_is_ratio Zaa F_number_text Zao F_ratio_text Zab F_height_text ZaY F_row_text ZaZ F_words_of Zac F_read_number Zap F_read_ratio Zad F_read_height Zat F_read_row)
open CA (ZcG F_law_bag Zbv F_law_digit)
open CS (ZaE F_law_ratio)
open PySem PySem.Spec L2 DL
noncomputable def top (i:Nat):Stmt:=PySem.Challenge.pw_rayround_k76_heights_and_rows_as_texts.main.body.getD i (.Pass ⟨0,0,0,0⟩)
noncomputable abbrev rw0 (n:String)(i f u ln na:Nat)(b:Bool)(v:Nat):Rw:=⟨n,i,f,"rayround.wholes",223,u,ln,na,b,v⟩
noncomputable abbrev rw1 (n:String)(i f u ln na:Nat)(b:Bool)(v:Nat):Rw:=⟨n,i,f,"rayround.ratios",242,u,ln,na,b,v⟩
noncomputable abbrev rw2 (n:String)(i f u ln na:Nat)(b:Bool)(v:Nat):Rw:=⟨n,i,f,"rayround.texts",251,u,ln,na,b,v⟩
noncomputable abbrev rw3 (n:String)(i f u ln na:Nat)(b:Bool)(v:Nat):Rw:=⟨n,i,f,"law_rayround_k76_heights_and_rows_as_texts",312,u,ln,na,b,v⟩
noncomputable def tab:List Rw:=[rw0 "is_whole" 4 46 225 7 1 true 229,rw0 "greatest_divisor" 5 53 232 9 2 true 239,rw1 "is_ratio" 7 60 244 15 1 true 248,rw2 "number_text" 9 67 253 20 1 true 257,rw2 "ratio_text" 10 74 260 24 1 true 266,rw2 "height_text" 11 79 269 29 1 false 272,rw2 "row_text" 12 84 275 31 1 false 278,rw2 "words_of" 13 91 281 35 1 true 285,rw2 "read_number" 14 96 288 39 1 false 291,rw2 "read_ratio" 15 101 294 46 1 false 297,rw2 "read_height" 16 106 300 54 1 false 303,rw2 "read_row" 17 111 306 56 1 false 309,rw3 "_law_bag" 19 118 314 61 2 true 321,rw3 "_law_digit" 20 125 324 67 2 true 330,rw3 "_law_low" 21 132 333 74 2 true 340,rw3 "_law_whole" 22 139 343 79 1 true 347,rw3 "_law_ratio" 23 146 350 81 1 true 354,rw3 "_law_height" 24 153 357 85 2 true 367,rw3 "_law_ratios" 25 158 370 100 2 false 373,rw3 "_law_ratio_text" 26 165 376 104 1 true 380,rw3 "_law_height_text" 27 170 383 108 1 false 386,rw3 "_law_row_text" 28 175 389 110 1 false 392,rw3 "_law_long" 29 182 395 112 1 true 400,rw3 "_law_drawn" 30 189 403 115 1 true 408,rw3 "_law_rowed" 31 194 411 120 2 false 414,rw3 "law" 32 199 417 122 1 false 420]
structure Txt (K:PySem.W.Frag) (mg:Str->Option Value):Prop extends Bs mg where
 gl: ∀ c v,PySem.W.nsIn K mainGlobals c=some (some v)->mg c=some v
 d:Dfs K top tab
 ex_NoText:Zls K "NoText"=true
section
variable {P:Program}{w:World}{K:PySem.W.Frag}{mg:Str->Option Value}{base:Heap}
noncomputable def Zaq:Sv:=(Zz (ZU (gNm 5) (e2 dSub (Zj F_law_digit (Zc (Zh 0) (Zc (eC (.int 27)) aNil))) (eC (.int 6))))
 (Zz (ZU (gNm 6) (eC (.int 1)))
 (Zz (sIf (Zbo (tv (e2 dEq (Zh 2) (eC (.int 3)))) (tv (e2 dEq (Zh 2) (eC (.int 4))))) (ZU (gNm 6) (e2 dAdd (eC (.int 1)) (Zj F_law_digit (Zc (Zh 0) (Zc (eC (.int 12)) aNil))))) sNil)
 (Zz (sIf (tv (e2 dEq (Zh 2) (eC (.int 5)))) (Zz (ZU (gNm 5) (e2 dAdd (e2 dSub (Zj F_law_digit (Zc (Zh 0) (Zc (e2 dSub (e2 dMul (eC (.int 2)) (e2 dPow (eC (.int 10)) (eC (.int 12)))) (eC (.int 1))) aNil))) (e2 dPow (eC (.int 10)) (eC (.int 12)))) (eC (.int 1))))
 (ZU (gNm 6) (e2 dAdd (eC (.int 1)) (Zj F_law_digit (Zc (Zh 0) (Zc (e2 dSub (e2 dPow (eC (.int 10)) (eC (.int 12))) (eC (.int 1))) aNil)))))) sNil)
 (Zz (sIf (tv (e2 dEq (Zh 2) (eC (.int 6)))) (ZU (gNm 5) (e2 dMul (Zh 5) (Zj bInt (Zc (e2 dEq (e2 dMod (Zh 5) (eC (.int 4))) (eC (.int 0))) aNil)))) sNil)
 (ZaU (ZgF mApp (Zh 3) (Zc (Zj F_law_low (Zc (Zh 5) (Zc (Zh 6) aNil))) aNil))))))))
noncomputable def Zbc:Sv:=(Zz (ZU (gNm 2) (Zj F_law_digit (Zc (Zh 0) (Zc (eC (.int 8)) aNil))))
 (Zz (ZU (gNm 3) (Zbg aNil))
 (Zz (Zbr (gNm 4) (Zc (Zh 1) aNil) Zaq)
 (ZQ (Zh 3)))))
noncomputable def F_law_height:List D->Sto->Out D:=fnF Zbc 2 5
noncomputable def Zbd:Sv:=(Zz (sIf (Zbo (ZV (tv (ZbM "list" (Zh 0)))) (tv (e2 dNe (Zj bLen (Zc (Zh 0) aNil)) (Zj bLen (Zc (Zh 1) aNil))))) (ZQ (eC (.bl false))) sNil)
 (ZQ (Zaj (Zj bAll (Zc (Z3 (iSq (Zh 0)) 1 [] (gNm 0) (fun _ M=> .ok true M) (Zj F_law_ratio (Zc (Zh 0) aNil))) aNil)) (e2 dEq (Zh 0) (Zh 1)))))
noncomputable def F_law_ratios:List D->Sto->Out D:=fnF Zbd 2 0
noncomputable def Zaf:Sv:=(Zz (sIf (tv (e2 dEq (e2 dIx (Zh 0) (eC (.int 1))) (eC (.int 1)))) (ZQ (Zj bStr (Zc (e2 dIx (Zh 0) (eC (.int 0))) aNil))) sNil)
 (ZQ (e2 dAdd (e2 dAdd (Zj bStr (Zc (e2 dIx (Zh 0) (eC (.int 0))) aNil)) (eC (.str (PySem.Str.ofString "/")))) (Zj bStr (Zc (e2 dIx (Zh 0) (eC (.int 1))) aNil)))))
noncomputable def F_law_ratio_text:List D->Sto->Out D:=fnF Zaf 1 0
noncomputable def Z5:Sv:=(ZQ (ZfD mJn (eC (.str (PySem.Str.ofString " "))) (Zc (Z3 (iSq (Zh 0)) 1 [] (gNm 0) (fun _ M=> .ok true M) (Zj F_law_ratio_text (Zc (Zh 0) aNil))) aNil)))
noncomputable def F_law_height_text:List D->Sto->Out D:=fnF Z5 1 0
noncomputable def Zaz:Sv:=(ZQ (ZfD mJn (eC (.str (PySem.Str.ofString " "))) (Zc (e2 dAdd (Z3 (iSq (Zh 0)) 1 [] (gNm 0) (fun _ M=> .ok true M) (Zj bStr (Zc (Zh 0) aNil))) (e2 dRep (Zbg (Zc (eC (.str (PySem.Str.ofString "-"))) aNil)) (Zj bInt (Zc (e2 dEq (Zh 0) (Zbg aNil)) aNil)))) aNil)))
noncomputable def F_law_row_text:List D->Sto->Out D:=fnF Zaz 1 0
noncomputable def ZbI:Sv:=(Zz (ZU (gNm 1) (e2 dAdd (e2 dPow (eC (.int 10)) (eC (.int 59))) (Zj F_law_digit (Zc (Zh 0) (Zc (e2 dMul (eC (.int 9)) (e2 dPow (eC (.int 10)) (eC (.int 50)))) aNil)))))
 (ZQ (Zj F_law_low (Zc (e2 dMul (Zh 1) (e2 dIx (Zbg (Zc (eC (.int 1)) (Zc (Zey (eC (.int 1))) aNil))) (Zj F_law_digit (Zc (Zh 0) (Zc (eC (.int 2)) aNil))))) (Zc (e2 dAdd (e2 dPow (eC (.int 10)) (eC (.int 59))) (Zj F_law_digit (Zc (Zh 0) (Zc (e2 dMul (eC (.int 9)) (e2 dPow (eC (.int 10)) (eC (.int 50)))) aNil)))) aNil)))))
noncomputable def F_law_long:List D->Sto->Out D:=fnF ZbI 1 1
noncomputable def Zbz:Sv:=(Zz (ZU (gNm 1) (Zj F_law_height (Zc (Zh 0) (Zc (e2 dAdd (eC (.int 1)) (Zj F_law_digit (Zc (Zh 0) (Zc (eC (.int 14)) aNil)))) aNil))))
 (Zz (sIf (tv (e2 dEq (Zj F_law_digit (Zc (Zh 0) (Zc (eC (.int 8)) aNil))) (eC (.int 5)))) (ZcJ (Zh 1) (Zj F_law_digit (Zc (Zh 0) (Zc (Zj bLen (Zc (Zh 1) aNil)) aNil))) (Zj F_law_long (Zc (Zh 0) aNil))) sNil)
 (ZQ (Zh 1))))
noncomputable def F_law_drawn:List D->Sto->Out D:=fnF Zbz 1 1
noncomputable def ZbA:Sv:=(ZQ (Zaj (ZbM "list" (Zh 0)) (Zaj (Zj bAll (Zc (Z3 (iSq (Zh 0)) 1 [] (gNm 0) (fun _ M=> .ok true M) (Zj F_law_whole (Zc (Zh 0) aNil))) aNil)) (e2 dEq (Zh 0) (Zh 1)))))
noncomputable def F_law_rowed:List D->Sto->Out D:=fnF ZbA 2 0
noncomputable def ZdB:Sv:=(sIf (tv (e2 dNe (Zj F_ratio_text (Zc (Zh 6) aNil)) (Zj F_law_ratio_text (Zc (Zh 6) aNil)))) (ZQ (eC (.bl false))) sNil)
noncomputable def ZdC:Sv:=(Zz (ZU (gNm 9) (Zj F_read_height (Zc (e2 dIx (Zh 7) (eC (.int 0))) aNil)))
 (Zz (ZU (gNm 10) (Zj F_read_row (Zc (e2 dIx (Zh 7) (eC (.int 1))) aNil)))
 (Zz (sIf (Zbo (ZV (tv (Zj F_law_ratios (Zc (Zh 9) (Zc (Zh 3) aNil))))) (ZV (tv (Zj F_law_rowed (Zc (Zh 10) (Zc (Zh 4) aNil)))))) (ZQ (eC (.bl false))) sNil)
 (Zz (ZaU (ZgF mApp (Zh 9) (Zc (Zdf (Zc (eC (.int 1)) (Zc (eC (.int 1)) aNil))) aNil)))
 (ZaU (ZgF mApp (Zh 10) (Zc (eC (.int 1)) aNil)))))))
noncomputable def Zb5:Sv:=(Zz (ZU (gNm 2) (Zj F_law_bag (Zc (Zh 0) (Zc (Zh 1) aNil))))
 (Zz (ZU (gNm 3) (Zj F_law_drawn (Zc (Zh 2) aNil)))
 (Zz (ZU (gNm 4) (Z3 (iR1 (Zc (Zj F_law_digit (Zc (Zh 2) (Zc (eC (.int 21)) aNil))) aNil)) 1 [2] (gNm 0) (fun _ M=> .ok true M) (e2 dSub (Zj F_law_digit (Zc (Zh 1) (Zc (eC (.int 121)) aNil))) (eC (.int 60)))))
 (Zz (ZU (gNm 5) (Zbg (Zc (Zj bList (Zc (Zh 3) aNil)) (Zc (Zj bList (Zc (Zh 4) aNil)) aNil))))
 (Zz (Zlr (gNm 6) (Zh 3) ZdB)
 (Zz (ZU (gNm 7) (Zbg (Zc (Zj F_height_text (Zc (e2 dIx (Zh 5) (eC (.int 0))) aNil)) (Zc (Zj F_row_text (Zc (e2 dIx (Zh 5) (eC (.int 1))) aNil)) aNil))))
 (Zz (sIf (Zbo (tv (e2 dNe (Zh 7) (Zbg (Zc (Zj F_law_height_text (Zc (Zh 3) aNil)) (Zc (Zj F_law_row_text (Zc (Zh 4) aNil)) aNil))))) (tv (e2 dNe (Zh 5) (Zbg (Zc (Zh 3) (Zc (Zh 4) aNil)))))) (ZQ (eC (.bl false))) sNil)
 (Zbr (gNm 8) (Zc (eC (.int 2)) aNil) ZdC))))))))
noncomputable def Zlj:Sv:=(Zz (Zbr (gNm 1) (Zc (Zj bMax (Zc (eC (.int 1)) (Zc (Zj bMin (Zc (eC (.int 10)) (Zc (Zj bLen (Zc (Zh 0) aNil)) aNil))) aNil))) aNil) Zb5)
 (ZQ (eC (.bl true))))
noncomputable def Zc3:List D->Sto->Out D:=fnF Zlj 1 10
variable (T:Txt K mg)
include T
theorem C1:Cal P w K mg base "is_whole" 1 1 F_is_whole:=ZS (N:=["thing"]) (T.d.at 0 4) T.gl fun _ _ _ _ _ _ _ nd hr θ=>(Zi (Zm (Zbp (ZaJ ZeE T.b_isinstance T.b_int ZbF (Zb 0)) (ZbE (ZgA (ZaJ Zdi T.b_isinstance T.b_bool ZeM (Zb 0)))))))
theorem C2:Cal P w K mg base "greatest_divisor" 101 2 F_greatest_divisor:=ZS (N:=["one","other","high","low"]) (T.d.at 1 5) T.gl fun _ _ _ _ _ _ _ nd hr θ=>(Zf (Zdn 2 3 (ZZ hr (by decide)) nd (Za (Zo ZaF Zck T.b_abs Zcs (Za (Zb 0) Zd)) (Za (Zo ZaF Zck T.b_abs Zcs (Za (Zb 1) Zd)) Zd)))
  (Zf (Zdp θ.own (Zw (Za7 hr.units) Zcj (Zb 3) Ze) (Zi (Zdn 2 3 (ZZ hr (by decide)) nd (Za (Zb 3) (Za (ZaG (Zb 2) (Zb 3)) Zd)))))
  (Zi (Zm (Zb 2)))))
theorem C3:Cal P w K mg base "is_ratio" 102 1 F_is_ratio:=ZS (N:=["thing"]) (T.d.at 2 7) T.gl fun _ _ _ _ _ _ _ nd hr θ=>(Zf (ZX (ZfU (ZaT (Zae (Z1 (ZaJ Zcl T.b_isinstance T.b_tuple ZbR (Zb 0)))) (ZaT (Zw (Za7 hr.units) Zcj (Zo Zv Za8 T.b_len PySem.boot_len (Za (Zb 0) Zd)) Ze) (ZaT (Zae (Z1 (Zg (C1 T) θ hr (Za (ZL (Zb 0) Ze) Zd)))) (Za5 (Zae (Z1 (Zg (C1 T) θ hr (Za (ZL (Zb 0) Ze) Zd))))))))) (Zi (Zm ZcR)) Zq)
  (Zi (Zm (Zbp (Zax Zg6 Zhp (ZL (Zb 0) Ze) Ze) (ZbE (Zax (ZJ hr.units) Zah (Zg (C2 T) θ hr (Za (ZL (Zb 0) Ze) (Za (ZL (Zb 0) Ze) Zd))) Ze))))))
theorem C4:Cal P w K mg base "number_text" 101 1 F_number_text:=ZS (N:=["number"]) (T.d.at 3 9) T.gl fun _ _ _ _ _ _ _ nd hr θ=>(Zf (ZX (Zw Zg6 Zhp (Zo ZaF Zck T.b_abs Zcs (Za (Zb 0) Zd)) (ZaH Ze Ze)) (Zi (ZaN θ T.ex_NoText T.gl (hr.hd (by decide)) (Za ZF Zd))) Zq)
  (Zi (Zm (Zy ZP ZcA T.b_str ZbG (Za (Zb 0) Zd)))))
theorem C5:Cal P w K mg base "ratio_text" 102 1 F_ratio_text:=ZS (N:=["one","top","bottom"]) (T.d.at 4 10) T.gl fun _ _ _ _ _ _ _ nd hr θ=>(Zf (Zjj (Zb 0) (Zji (ZZ hr (by decide)) (Zdm (ZA 1 nd) (Zdm (ZA 2 nd) Zhs)) (hlen:=(ZeH (ZeH (fun _ _ _ h=>Zht h))))))
  (Zf (ZX (Zw (ZJ hr.units) Zah (Zb 2) Ze) (Zi (Zm (Zg (C4 T) θ hr (Za (Zb 1) Zd)))) Zq)
  (Zi (Zm (Zl1 (ZcV (ZjA (Zg (C4 T) θ hr (Za (Zb 1) Zd))) (ZcV ZF (ZcV (ZjA (Zg (C4 T) θ hr (Za (Zb 2) Zd))) ZjB))))))))
theorem C6:Cal P w K mg base "height_text" 103 1 F_height_text:=ZS (N:=["height"]) (T.d.at 5 11) T.gl fun _ _ _ _ _ _ _ nd hr θ=>(Zi (Zm (Zbt PySem.F.slot_str_join PySem.F.type_str_join ZbT ZbU ZF (Za (Z8 (ZfC (N:=["own"]) (k:=1) (by decide +kernel) rfl (by decide +kernel) rfl) (ZaK (Zb 0)) (fun _ _ _ _=>(ZA 0 (show List.Nodup (["own"]:List Str) by decide +kernel))) (fun _ _ _ _=>(Or.inl ⟨rfl,rfl⟩)) (fun _ _ _ _=>(Zg (C5 T) Z7 hr (Za (Zb 0) Zd)))) Zd))))
theorem C7:Cal P w K mg base "row_text" 102 1 F_row_text:=ZS (N:=["numbers"]) (T.d.at 6 12) T.gl fun _ _ _ _ _ _ _ nd hr θ=>(Zf (ZX (Zw (ZJ hr.units) Zah (Zb 0) (Zak Zd)) (Zi (Zm ZF)) Zq)
  (Zi (Zm (Zbt PySem.F.slot_str_join PySem.F.type_str_join ZbT ZbU ZF (Za (Z8 (ZfC (N:=["number"]) (k:=1) (by decide +kernel) rfl (by decide +kernel) rfl) (ZaK (Zb 0)) (fun _ _ _ _=>(ZA 0 (show List.Nodup (["number"]:List Str) by decide +kernel))) (fun _ _ _ _=>(Or.inl ⟨rfl,rfl⟩)) (fun _ _ _ _=>(Zg (C4 T) Z7 hr (Za (Zb 0) Zd)))) Zd)))))
theorem C8:Cal P w K mg base "words_of" 101 1 F_words_of:=ZS (N:=["text"]) (T.d.at 7 13) T.gl fun _ _ _ _ _ _ _ nd hr θ=>(Zf (ZX (Zae (Z1 (ZaJ Zhr T.b_isinstance T.b_str ZbG (Zb 0)))) (Zi (ZaN θ T.ex_NoText T.gl (hr.hd (by decide)) (Za ZF Zd))) Zq)
  (Zi (Zm (Zbt PySem.F.slot_str_split PySem.F.type_str_split Zdu ZgJ (Zb 0) (Za ZF Zd)))))
theorem C9:Cal P w K mg base "read_number" 101 1 F_read_number:=ZS (N:=["word","figures"]) (T.d.at 8 14) T.gl fun _ _ _ _ _ _ _ nd hr θ=>(Zf (ZC 1 nd (ZlV (Z1 (Zbt PySem.F.slot_str_startswith PySem.F.type_str_startswith ZjG ZjH (Zb 0) (Za ZF Zd))) (ZjL (Zb 0) (Zl0 Ze) ZlZ) (Zb 0)))
  (Zf (ZX (ZfU (ZaT (Zw ZiQ Zjb (Zo Za3 Ze0 T.b_len PySem.boot_len (Za (Zb 1) Zd)) Ze) (ZaT (Zw ZfN ZfX (Zo Za3 Ze0 T.b_len PySem.boot_len (Za (Zb 1) Zd)) Ze) (Za5 (Zae (Z1 (Zo (ZbS (ZZ hr (by decide))) ZeS T.b_all ZeN (Za (Z8 (ZfC (N:=["sign"]) (k:=1) (by decide +kernel) rfl (by decide +kernel) rfl) (ZjF (Zb 1)) (fun _ _ _ _=>(ZA 0 (show List.Nodup (["sign"]:List Str) by decide +kernel))) (fun _ _ _ _=>(Or.inl ⟨rfl,rfl⟩)) (fun _ _ _ _=>(Zax Zef ZjI (Zb 0) ZF))) Zd)))))))) (Zi (ZaN θ T.ex_NoText T.gl (hr.hd (by decide)) (Za ZF Zd))) Zq)
  (Zf (ZX (ZfU (Zi5 (Zw (ZJ hr.units) Zah (ZjJ (Zb 1) Ze) ZF) (Zhm (Zw (Za7 hr.units) Zcj (Zb 0) ZF)))) (Zi (ZaN θ T.ex_NoText T.gl (hr.hd (by decide)) (Za ZF Zd))) Zq)
  (Zi (Zm (Zy Ze1 ZhD T.b_int ZbF (Za (Zb 0) Zd)))))))
theorem C10:Cal P w K mg base "read_ratio" 103 1 F_read_ratio:=ZS (N:=["word","parts","one"]) (T.d.at 9 15) T.gl fun _ _ _ _ _ _ _ nd hr θ=>(Zf (ZeV 1 nd (ZfC (N:=["part"]) (k:=1) (by decide +kernel) rfl (by decide +kernel) rfl) (ZaK (Zbt PySem.F.slot_str_split PySem.F.type_str_split Zdu ZgJ (Zb 0) (Za ZF Zd))) (fun _ _ _ _=>(ZA 0 (show List.Nodup (["part"]:List Str) by decide +kernel))) (fun _ _ _ _=>(Or.inl ⟨rfl,rfl⟩)) (fun _ _ _ _=>(Zg (C9 T) Z7 hr (Za (Zb 0) Zd))))
  (Zf (ZX (Zw (ZJ hr.units) Zah (Zo Zv Za8 T.b_len PySem.boot_len (Za (Zb 1) Zd)) Ze) (Zi (Zm (Zew (Za (ZL (Zb 1) Ze) (Za Ze Zd))))) Zq)
  (Zf (ZC 2 nd (Zy ZbL Zjx T.b_tuple ZbR (Za (Zb 1) Zd)))
  (Zf (ZX (ZfU (ZaT (Zae (Z1 (Zg (C3 T) θ hr (Za (Zb 2) Zd)))) (Za5 (Zw (ZJ hr.units) Zah (ZL (Zb 2) Ze) Ze)))) (Zi (ZaN θ T.ex_NoText T.gl (hr.hd (by decide)) (Za ZF Zd))) Zq)
  (Zi (Zm (Zb 2)))))))
theorem C11:Cal P w K mg base "read_height" 104 1 F_read_height:=ZS (N:=["text"]) (T.d.at 10 16) T.gl fun _ _ _ _ _ _ _ nd hr θ=>(Zi (Zm (Z8 (ZfC (N:=["word"]) (k:=1) (by decide +kernel) rfl (by decide +kernel) rfl) (ZaK (Zg (C8 T) θ hr (Za (Zb 0) Zd))) (fun _ _ _ _=>(ZA 0 (show List.Nodup (["word"]:List Str) by decide +kernel))) (fun _ _ _ _=>(Or.inl ⟨rfl,rfl⟩)) (fun _ _ _ _=>(Zg (C10 T) Z7 hr (Za (Zb 0) Zd))))))
theorem C12:Cal P w K mg base "read_row" 102 1 F_read_row:=ZS (N:=["text"]) (T.d.at 11 17) T.gl fun _ _ _ _ _ _ _ nd hr θ=>(Zf (ZX (Zw (ZJ hr.units) Zah (Zb 0) ZF) (Zi (Zm (Zak Zd))) Zq)
  (Zi (Zm (Z8 (ZfC (N:=["word"]) (k:=1) (by decide +kernel) rfl (by decide +kernel) rfl) (ZaK (Zg (C8 T) θ hr (Za (Zb 0) Zd))) (fun _ _ _ _=>(ZA 0 (show List.Nodup (["word"]:List Str) by decide +kernel))) (fun _ _ _ _=>(Or.inl ⟨rfl,rfl⟩)) (fun _ _ _ _=>(Zg (C9 T) Z7 hr (Za (Zb 0) Zd)))))))
theorem C13:Cal P w K mg base "_law_bag" 1 2 F_law_bag:=ZS (N:=["_law_script","_law_k","_law_cell","_law_state"]) (T.d.at 12 19) T.gl fun _ _ _ _ _ _ _ nd hr θ=>(Zf (ZC 2 nd Ze)
  (Zf (ZX (Zw ZiQ Zjb (Zb 1) (Zo Zv Za8 T.b_len PySem.boot_len (Za (Zb 0) Zd))) (Zi (ZC 2 nd (Zo ZaF Zck T.b_abs Zcs (Za (ZL (Zb 0) (Zb 1)) Zd)))) Zq)
  (Zf (ZC 3 nd (Z2 Ze (ZaG (Z2 (Z2 (Z2 (ZaG (Zb 2) Ze) (Zal (Zal Ze (Zb 1)) (Zb 1))) (Zal Ze (Zb 1))) Ze) Ze)))
  (Zi (Zm (Zak (Za (Zal (Zb 2) (Zy Zbl ZeC T.b_int ZbF (Za (Zax Zg6 Zhp (Zb 2) (ZaH Ze Ze)) Zd))) (Za (Zb 3) Zd))))))))
theorem C14:Cal P w K mg base "_law_digit" 1 2 F_law_digit:=ZS (N:=["_law_bag_here","_law_many","_law_found"]) (T.d.at 13 20) T.gl fun _ _ _ _ _ _ _ nd hr θ=>(Zf (ZX (Zw ZfN ZfX (ZL (Zb 0) Ze) Ze) (Zf (ZC 2 nd (ZaG (ZL (Zb 0) Ze) (Zb 1)))
  (Zf (ZeI (Zb 0) Ze (Zdg (ZL (Zb 0) Ze) (Zb 1)))
  (Zi (Zm (Zb 2))))) Zq)
  (Zf (ZeI (Zb 0) Ze (ZaG (Zal (ZL (Zb 0) Ze) Ze) Ze))
  (Zi (Zm (ZaG (Zdg (ZaG (Zal (ZL (Zb 0) Ze) Ze) Ze) Ze) (Zb 1))))))
theorem C15:Cal P w K mg base "_law_low" 101 2 F_law_low:=ZS (N:=["_law_top","_law_bottom","_law_one","_law_other"]) (T.d.at 14 21) T.gl fun _ _ _ _ _ _ _ nd hr θ=>(Zf (Zdn 2 3 (ZZ hr (by decide)) nd (Za (Zo ZaF Zck T.b_abs Zcs (Za (Zb 0) Zd)) (Za (Zb 1) Zd)))
  (Zf (Zdp θ.own (Zw ZfN ZfX (Zb 3) Ze) (Zi (Zdn 2 3 (ZZ hr (by decide)) nd (Za (Zb 3) (Za (ZaG (Zb 2) (Zb 3)) Zd)))))
  (Zi (Zm (Zew (Za (Zdg (Zb 0) (Zb 2)) (Za (Zdg (Zb 1) (Zb 2)) Zd)))))))
theorem C16:Cal P w K mg base "_law_whole" 1 1 F_law_whole:=ZS (N:=["_law_thing"]) (T.d.at 15 22) T.gl fun _ _ _ _ _ _ _ nd hr θ=>(Zi (Zm (Zbp (ZaJ ZeE T.b_isinstance T.b_int ZbF (Zb 0)) (ZbE (ZgA (ZaJ Zdi T.b_isinstance T.b_bool ZeM (Zb 0)))))))
theorem C17:Cal P w K mg base "_law_ratio" 102 1 F_law_ratio:=ZS (N:=["_law_thing"]) (T.d.at 16 23) T.gl fun _ _ _ _ _ _ _ nd hr θ=>(Zf (ZX (ZfU (ZaT (Zae (Z1 (ZaJ Zcl T.b_isinstance T.b_tuple ZbR (Zb 0)))) (ZaT (Zw (Za7 hr.units) Zcj (Zo Zv Za8 T.b_len PySem.boot_len (Za (Zb 0) Zd)) Ze) (ZaT (Zae (Z1 (Zg (C16 T) θ hr (Za (ZL (Zb 0) Ze) Zd)))) (Za5 (Zae (Z1 (Zg (C16 T) θ hr (Za (ZL (Zb 0) Ze) Zd))))))))) (Zi (Zm ZcR)) Zq)
  (Zi (Zm (Zbp (Zax ZfN ZfX (ZL (Zb 0) Ze) Ze) (ZbE (Zax (ZJ hr.units) Zah (Zg (C15 T) θ hr (Za (ZL (Zb 0) Ze) (Za (ZL (Zb 0) Ze) Zd))) (Zb 0)))))))
theorem C18:Cal P w K mg base "_law_height" 102 2 F_law_height:=ZS (N:=["_law_bag_here","_law_many","_law_kind","_law_found","_law_k","_law_top","_law_bottom"]) (T.d.at 17 24) T.gl fun _ _ _ _ _ _ _ nd hr θ=>(Zf (ZC 2 nd (Zg (C14 T) θ hr (Za (Zb 0) (Za Ze Zd))))
  (Zf (ZC 3 nd (Zak Zd))
  (Zf (ZbP θ.own T.b_range (Za (Zb 1) Zd) (ZA 4 nd) (Zf (ZC 5 nd (Zci (Zg (C14 T) θ hr (Za (Zb 0) (Za Ze Zd))) Ze))
  (Zf (ZC 6 nd Ze)
  (Zf (ZX (ZfU (ZaT (Zw (ZJ hr.units) Zah (Zb 2) Ze) (Za5 (Zw (ZJ hr.units) Zah (Zb 2) Ze)))) (Zi (ZC 6 nd (Z2 Ze (Zg (C14 T) θ hr (Za (Zb 0) (Za Ze Zd)))))) Zq)
  (Zf (ZX (Zw (ZJ hr.units) Zah (Zb 2) Ze) (Zf (ZC 5 nd (Z2 (Zci (Zg (C14 T) θ hr (Za (Zb 0) (Za (Zci (Zal Ze (ZaH Ze Ze)) Ze) Zd))) (ZaH Ze Ze)) Ze))
  (Zi (ZC 6 nd (Z2 Ze (Zg (C14 T) θ hr (Za (Zb 0) (Za (Zci (ZaH Ze Ze) Ze) Zd))))))) Zq)
  (Zf (ZX (Zw (ZJ hr.units) Zah (Zb 2) Ze) (Zi (ZC 5 nd (Zal (Zb 5) (Zy Zbl ZeC T.b_int ZbF (Za (Zax (ZJ hr.units) Zah (ZaG (Zb 5) Ze) Ze) Zd))))) Zq)
  (Zi (ZcT (Zbs (Zb 3) (Zg (C15 T) θ hr (Za (Zb 5) (Za (Zb 6) Zd))))))))))))
  (Zi (Zm (Zb 3))))))
theorem C19:Cal P w K mg base "_law_ratios" 103 2 F_law_ratios:=ZS (N:=["_law_found","_law_due"]) (T.d.at 18 25) T.gl fun _ _ _ _ _ _ _ nd hr θ=>(Zf (ZX (ZfU (ZaT (Zae (Z1 (ZaJ Zdj T.b_isinstance T.b_list ZbQ (Zb 0)))) (Za5 (Zw (Za7 hr.units) Zcj (Zo Zv Za8 T.b_len PySem.boot_len (Za (Zb 0) Zd)) (Zo Zv Za8 T.b_len PySem.boot_len (Za (Zb 1) Zd)))))) (Zi (Zm ZcR)) Zq)
  (Zi (Zm (Zbp (Zo (ZbS (ZZ hr (by decide))) ZeS T.b_all ZeN (Za (Z8 (ZfC (N:=["_law_one"]) (k:=1) (by decide +kernel) rfl (by decide +kernel) rfl) (ZaK (Zb 0)) (fun _ _ _ _=>(ZA 0 (show List.Nodup (["_law_one"]:List Str) by decide +kernel))) (fun _ _ _ _=>(Or.inl ⟨rfl,rfl⟩)) (fun _ _ _ _=>(Zg (C17 T) Z7 hr (Za (Zb 0) Zd)))) Zd)) (ZbE (Zax (ZJ hr.units) Zah (Zb 0) (Zb 1)))))))
theorem C20:Cal P w K mg base "_law_ratio_text" 1 1 F_law_ratio_text:=ZS (N:=["_law_one"]) (T.d.at 19 26) T.gl fun _ _ _ _ _ _ _ nd hr θ=>(Zf (ZX (Zw (ZJ hr.units) Zah (ZL (Zb 0) Ze) Ze) (Zi (Zm (Zy ZP ZcA T.b_str ZbG (Za (ZL (Zb 0) Ze) Zd)))) Zq)
  (Zi (Zm (Z2 (Z2 (Zy ZP ZcA T.b_str ZbG (Za (ZL (Zb 0) Ze) Zd)) ZF) (Zy ZP ZcA T.b_str ZbG (Za (ZL (Zb 0) Ze) Zd))))))
theorem C21:Cal P w K mg base "_law_height_text" 2 1 F_law_height_text:=ZS (N:=["_law_height_here"]) (T.d.at 20 27) T.gl fun _ _ _ _ _ _ _ nd hr θ=>(Zi (Zm (Zbt PySem.F.slot_str_join PySem.F.type_str_join ZbT ZbU ZF (Za (Z8 (ZfC (N:=["_law_one"]) (k:=1) (by decide +kernel) rfl (by decide +kernel) rfl) (ZaK (Zb 0)) (fun _ _ _ _=>(ZA 0 (show List.Nodup (["_law_one"]:List Str) by decide +kernel))) (fun _ _ _ _=>(Or.inl ⟨rfl,rfl⟩)) (fun _ _ _ _=>(Zg (C20 T) Z7 hr (Za (Zb 0) Zd)))) Zd))))
theorem C22:Cal P w K mg base "_law_row_text" 1 1 F_law_row_text:=ZS (N:=["_law_line"]) (T.d.at 21 28) T.gl fun _ _ _ _ _ _ _ nd hr θ=>(Zi (Zm (Zbt PySem.F.slot_str_join PySem.F.type_str_join ZbT ZbU ZF (Za (Z2 (Z8 (ZfC (N:=["_law_number"]) (k:=1) (by decide +kernel) rfl (by decide +kernel) rfl) (ZaK (Zb 0)) (fun _ _ _ _=>(ZA 0 (show List.Nodup (["_law_number"]:List Str) by decide +kernel))) (fun _ _ _ _=>(Or.inl ⟨rfl,rfl⟩)) (fun _ _ _ _=>(Zy ZP ZcA T.b_str ZbG (Za (Zb 0) Zd)))) (ZjD (Zak (Za ZF Zd)) (Zy Zbl ZeC T.b_int ZbF (Za (Zax (ZJ hr.units) Zah (Zb 0) (Zak Zd)) Zd)))) Zd))))
theorem C23:Cal P w K mg base "_law_long" 102 1 F_law_long:=ZS (N:=["_law_bag_here","_law_top"]) (T.d.at 22 29) T.gl fun _ _ _ _ _ _ _ nd hr θ=>(Zf (ZC 1 nd (Z2 (ZaH Ze Ze) (Zg (C14 T) θ hr (Za (Zb 0) (Za (Zal Ze (ZaH Ze Ze)) Zd)))))
  (Zi (Zm (Zg (C15 T) θ hr (Za (Zal (Zb 1) (ZL (Zak (Za Ze (Za (Zjd Ze) Zd))) (Zg (C14 T) θ hr (Za (Zb 0) (Za Ze Zd))))) (Za (Z2 (ZaH Ze Ze) (Zg (C14 T) θ hr (Za (Zb 0) (Za (Zal Ze (ZaH Ze Ze)) Zd)))) Zd))))))
theorem C24:Cal P w K mg base "_law_drawn" 103 1 F_law_drawn:=ZS (N:=["_law_bag_here","_law_height_here"]) (T.d.at 23 30) T.gl fun _ _ _ _ _ _ _ nd hr θ=>(Zf (ZC 1 nd (Zg (C18 T) θ hr (Za (Zb 0) (Za (Z2 Ze (Zg (C14 T) θ hr (Za (Zb 0) (Za Ze Zd)))) Zd))))
  (Zf (ZX (Zw (ZJ hr.units) Zah (Zg (C14 T) θ hr (Za (Zb 0) (Za Ze Zd))) Ze) (Zi (ZeI (Zb 1) (Zg (C14 T) θ hr (Za (Zb 0) (Za (Zo Zv Za8 T.b_len PySem.boot_len (Za (Zb 1) Zd)) Zd))) (Zg (C23 T) θ hr (Za (Zb 0) Zd)))) Zq)
  (Zi (Zm (Zb 1)))))
theorem C25:Cal P w K mg base "_law_rowed" 101 2 F_law_rowed:=ZS (N:=["_law_found","_law_due"]) (T.d.at 24 31) T.gl fun _ _ _ _ _ _ _ nd hr θ=>(Zi (Zm (Zbp (ZaJ Zdj T.b_isinstance T.b_list ZbQ (Zb 0)) (Zbp (Zo (ZbS (ZZ hr (by decide))) ZeS T.b_all ZeN (Za (Z8 (ZfC (N:=["_law_number"]) (k:=1) (by decide +kernel) rfl (by decide +kernel) rfl) (ZaK (Zb 0)) (fun _ _ _ _=>(ZA 0 (show List.Nodup (["_law_number"]:List Str) by decide +kernel))) (fun _ _ _ _=>(Or.inl ⟨rfl,rfl⟩)) (fun _ _ _ _=>(Zg (C16 T) Z7 hr (Za (Zb 0) Zd)))) Zd)) (ZbE (Zax (ZJ hr.units) Zah (Zb 0) (Zb 1)))))))
theorem Zfv {f:Addr}{fd:FuncData}(F:Fun K "law" "law" (top 32) f fd):FnOk P w K mg base (CXE P w) 105 f fd ["_law_script"] (spD K Zc3):=
 have nd:List.Nodup (["_law_script","_law_k","_law_bag_here","_law_height_here","_law_line","_law_given","_law_one","_law_texts","_law_turn","_law_found","_law_more"]:List Str):=by decide +kernel
 Zjm (N:=["_law_script","_law_k","_law_bag_here","_law_height_here","_law_line","_law_given","_law_one","_law_texts","_law_turn","_law_found","_law_more"]) F ⟨rfl,rfl,rfl,nd,rfl,by decide +kernel,by decide +kernel⟩ rfl rfl fun _ _ _ _ _ _ hr θ=>(Zf (ZbP θ.own T.b_range (Za (Zo (Zeg (ZZ hr (by decide))) Zjf T.b_max Zjn (Za Ze (Za (Zo (Zeh (ZZ hr (by decide))) Zjg T.b_min Zjo (Za Ze (Za (Zo Zv Za8 T.b_len PySem.boot_len (Za (Zb 0) Zd)) Zd))) Zd))) Zd) (ZA 1 nd) (Zf (ZC 2 nd (Zg (C13 T) θ hr (Za (Zb 0) (Za (Zb 1) Zd))))
  (Zf (ZC 3 nd (Zg (C24 T) θ hr (Za (Zb 2) Zd)))
  (Zf (ZeV 4 nd (Zo6 (XN:=["_law_script","_law_k","_law_bag_here","_law_height_here","_law_line","_law_given","_law_one","_law_texts","_law_turn","_law_found","_law_more"]) (dn:=(Zn (top 32)).names) (N:=["_law_turn","_law_bag_here"]) (k:=1) (fr:=[2]) rfl rfl rfl rfl (by decide +kernel)) (ZeP T.b_range (Za (Zg (C14 T) θ hr (Za (Zb 2) (Za Ze Zd))) Zd)) (fun _ _ _ _=>(ZA 0 (show List.Nodup (["_law_turn","_law_bag_here"]:List Str) by decide +kernel))) (fun _ _ _ _=>(Or.inl ⟨rfl,rfl⟩)) (fun _ _ _ _=>(Zci (Zg (C14 T) Z7 hr (Za (Zb 1) (Za Ze Zd))) Ze)))
  (Zf (ZC 5 nd (Zak (Za (Zy Za4 ZeD T.b_list ZbQ (Za (Zb 3) Zd)) (Za (Zy Za4 ZeD T.b_list ZbQ (Za (Zb 4) Zd)) Zd))))
  (Zf (Zjl θ.own (Zb 3) (ZA 6 nd) (Zi (ZX (Zw (Za7 hr.units) Zcj (Zg (C5 T) θ hr (Za (Zb 6) Zd)) (Zg (C20 T) θ hr (Za (Zb 6) Zd))) (Zi (Zm ZcR)) Zq)))
  (Zf (ZC 7 nd (Zak (Za (Zg (C6 T) θ hr (Za (ZL (Zb 5) Ze) Zd)) (Za (Zg (C7 T) θ hr (Za (ZL (Zb 5) Ze) Zd)) Zd))))
  (Zf (ZX (ZfU (ZaT (Zw (Za7 hr.units) Zcj (Zb 7) (Zak (Za (Zg (C21 T) θ hr (Za (Zb 3) Zd)) (Za (Zg (C22 T) θ hr (Za (Zb 4) Zd)) Zd)))) (Za5 (Zw (Za7 hr.units) Zcj (Zb 5) (Zak (Za (Zb 3) (Za (Zb 4) Zd))))))) (Zi (Zm ZcR)) Zq)
  (Zi (ZbP θ.own T.b_range (Za Ze Zd) (ZA 8 nd) (Zf (ZC 9 nd (Zg (C11 T) θ hr (Za (ZL (Zb 7) Ze) Zd)))
  (Zf (ZC 10 nd (Zg (C12 T) θ hr (Za (ZL (Zb 7) Ze) Zd)))
  (Zf (ZX (ZfU (ZaT (Zae (Z1 (Zg (C19 T) θ hr (Za (Zb 9) (Za (Zb 3) Zd))))) (Za5 (Zae (Z1 (Zg (C25 T) θ hr (Za (Zb 10) (Za (Zb 4) Zd)))))))) (Zi (Zm ZcR)) Zq)
  (Zf (ZcT (Zbs (Zb 9) (Zew (Za Ze (Za Ze Zd)))))
  (Zi (ZcT (Zbs (Zb 10) Ze)))))))))))))))))
  (Zi (Zm ZcR)))
end
theorem fin {l:PySem.W.OpenLaw}{w:World}{K:PySem.W.Frag}{h:Heap}{mg:Str->Option Value}{fa:Addr}(X:K.In h)(G:h.Ns mainGlobals mg)(hfa:mg "law"=some (.ref fa))(T:Txt K mg): ∃ fd:FuncData,(∀ (s:Shared) (v:Value),BindsTo s fd ⟨[v],[]⟩ [("_law_script",v)])/\ ∀ base:Heap,K.In base->base.Ns mainGlobals mg->FnOk l.prog w K mg base (CXE l.prog w) 105 fa fd ["_law_script"] (spD K Zc3):=
 Zjq (l:=l) (w:=w) X G hfa (T.d.at 25 32) (fun _ _ _ _ _ _ _=>rfl) fun base fd F=>Zfv (base:=base) T F
end K76
end
section
namespace K76
open PySem PySem.Spec L2 DL SX
open CR (rt Sz)
open CH (rts Zp ZT)
open CN CU CV CI
section
variable {Q:D->Sto->Prop}{E:Str->Sto->Prop}{M:Sto}{k n m o:Nat}{hs:List Rat}{ns:List Int}
theorem Zgt {many:Nat}(hm:many<=1000)(hb:Bag n M)(q: ∀ hs m M',hs.length=many->(∀ x∈hs,Sz 42 x)->M.length<=m->M'[m]?=some (.lst (rts hs))->Gr n M M'->Q (.ref m) M'):wO (F_law_height [.ref n,.int many] M) Q E:=by
 have hn:=hb.lt
 simp![F_law_height,Zbc];refine CA.ZW hb (by decide) fun kd M1 k0 k1 g1=> ?_
 have hn1:=g1.bag.lt
 have gl1:=g1.len
 simp![Zl];refine ⟨by omega,?_⟩
 rw[show ((many:Int)).toNat=many by omega]
 have r0:(M1 ++ [SO.lst []])[M1.length]?=some (.lst (rts [])):=by simp[rts]
 have G0:Gr n M (M1 ++ [SO.lst []]):=g1.app2 _
 have mne:M1.length≠n/\M.length<=M1.length:=by omega
 generalize M1 ++ [SO.lst []]=M1' at r0 G0 ⊢;generalize M1.length=mf at r0 mne ⊢;refine Zfa (fun i ρ M'=> ∃ hs x4 x5 x6,ρ=[some (.ref n),some (.int many),some (.int kd),some (.ref mf),x4,x5,x6]/\hs.length=i/\(∀ x∈hs,Sz 42 x)/\M'[mf]?=some (.lst (rts hs))/\Gr n M M') ⟨[],_,_,_,rfl,rfl,by simp,r0,G0⟩ ?_ ?_
 ·rintro i ρ M2 hi ⟨hs,x4,x5,x6,rfl,hl,hz,r2,gr⟩
  simp![Zaq];refine CA.ZW gr.bag (by decide) fun t M3 t0 t1 g3=> ?_
  have r3:=CA.Gr.up r2 g3 mne.1
  have gr3:=gr.trans g3
  simp![Zl];refine Zlz (fun _ M'=>M'=M3) ?_ ?_
  ·refine brO (fun z=> ?_) (fun z=> ?_)
   ·simp![Zl]
   ·simp![Zl]
  rintro b M3 rfl
  simp![Zl];refine ZmM (fun ρ M'=> ∃ bo x4,ρ=[some (.ref n),some (.int many),some (.int kd),some (.ref mf),x4,some (.int (t - 6)),some (.int bo)]/\(1<=bo/\bo<=12)/\M'[mf]?=some (.lst (rts hs))/\Gr n M M') ?_ ?_
  ·refine ZpI (fun z=> ?_) (fun z=> ?_)
   ·simp![Zl]
    refine CA.ZW gr3.bag (by decide) fun u M4 u0 u1 g4=> ?_
    simp![Zl];exact ⟨_,_,rfl,by omega,CA.Gr.up r3 g4 mne.1,gr3.trans g4⟩
   ·simp![Zl]
    exact ⟨_,_,rfl,by omega,r3,gr3⟩
  rintro _ M4 ⟨bo,x4,rfl,hbo,r4,gr4⟩
  simp![Zl];refine ZmM (fun ρ M'=> ∃ tp bo x4,ρ=[some (.ref n),some (.int many),some (.int kd),some (.ref mf),x4,some (.int tp),some (.int bo)]/\(1<=bo/\bo<=1000000000000)/\(-1000000000000<=tp/\tp<=1000000000000)/\M'[mf]?=some (.lst (rts hs))/\Gr n M M') ?_ ?_
  ·refine brS (fun z=> ?_) (fun z=> ?_)
   ·simp![Zl]
    refine CA.ZW gr4.bag (by decide) fun a M5 a0 a1 g5=> ?_
    simp![Zl];refine CA.ZW g5.bag (by decide) fun b M6 b0 b1 g6=> ?_
    have gr6:=(gr4.trans g5).trans g6
    have r6:=CA.Gr.up (CA.Gr.up r4 g5 mne.1) g6 mne.1
    simp![Zl];exact ⟨_,_,_,rfl,by omega,by omega,r6,gr6⟩
   ·simp![Zl]
    exact ⟨_,_,_,rfl,by omega,by omega,r4,gr4⟩
  rintro _ M5 ⟨tp,bo,x4,rfl,hbo,htp,r5,gr5⟩
  simp![Zl];refine ZmM (fun ρ M'=> ∃ tp x4,ρ=[some (.ref n),some (.int many),some (.int kd),some (.ref mf),x4,some (.int tp),some (.int bo)]/\(-1000000000000<=tp/\tp<=1000000000000)/\M'=M5) ?_ ?_
  ·refine brS (fun z=> ?_) (fun z=> ?_)
   ·simp![Zl]
    refine ⟨_,_,rfl,?_⟩
    split<;>omega
   ·simp![Zl]
    exact ⟨_,_,rfl,by omega⟩
  rintro _ M5 ⟨tp,x4,rfl,htp,rfl⟩
  obtain ⟨bn,rfl⟩: ∃ k:Nat,bo=k:=⟨bo.toNat,by omega⟩
  have bz:bn≠0:=by omega
  simp![r5];refine CR.Zie (k:=42) bz (by omega) (by decide) ?_
  have sz:=CR.Zfr (t:=tp) (k:=42) bz (by omega) (by omega)
  have hr5:=Zt r5
  simp![r5,Zp];refine ⟨by omega,?_⟩
  have e:rts hs ++ [rt (Rat.normalize tp bn bz)]=rts (hs ++ [Rat.normalize tp bn bz]):=ZT
  refine ⟨hs ++ [Rat.normalize tp bn bz],_,_,_,rfl,by simp[hl],?_,?_,?_⟩
  ·intro x hx
   rcases List.mem_append.mp hx with h | h
   ·exact hz x h
   ·simp at h
    rw[h];exact sz
  ·rw[<- e]
  ·obtain ⟨l,bg,kp⟩:=gr5
   refine ⟨by rw[List.length_set];exact l,?_,fun k hk hkl=> ?_⟩
   ·obtain ⟨a,b,h,hx⟩:=bg
    exact ⟨a,b,h,by rw[List.getElem?_set_ne mne.1];exact hx⟩
   ·rw[List.getElem?_set_ne (by omega)]
    exact kp k hk hkl
 ·rintro ρ M2 ⟨hs,x4,x5,x6,rfl,hl,hz,r2,gr⟩
  simp![Zl];exact q hs mf M2 hl hz mne.2 r2 gr
theorem Zgu (h1:M[n]?=some (.lst (rts hs)))(h2:M[m]?=some (.lst (rts hs)))(hl:hs.length<=1000)(hz: ∀ x∈hs,Sz k x)(hk:k<=8000)(q: ∀ M',Kp M M'->Q (.bl true) M'):wO (F_law_ratios [.ref n,.ref m] M) Q E:=by
 have hn:=Zt h1
 have hm:=Zt h2
 simp![F_law_ratios,Zbd,ZgQ h1,h1,h2,Zp];refine Zin (fun ρ=> ∃ x,ρ=[x]) (fun _=>D.bl true) h1 (by rw[Zp];omega) ⟨_,rfl⟩ ?_ ?_
 ·rintro i hi ρ L ⟨x,rfl⟩
  rw[Zif];rw[Zp] at hi;simp![CS.ZdZ (Znt (i:=i) hz (by omega)) hk]
  exact ⟨_,rfl⟩
 rw[Zp];simp![Zdx];have hq:eqF 12 (M ++ [SO.lst ((List.range hs.length).map fun _=>D.bl true)]) (.ref n) (.ref m)=some (decide (hs=hs)):=Zld (by rw[Z0 hn];exact h1) (by rw[Z0 hm];exact h2)
 rw[show (List.replicate hs.length true).all id=true by simp]
 simp![hq];exact q _ Kp.app
theorem Zik (h1:M[n]?=some (.lst (nts ns)))(h2:M[m]?=some (.lst (nts ns)))(hl:ns.length<=1000)(q: ∀ M',Kp M M'->Q (.bl true) M'):wO (F_law_rowed [.ref n,.ref m] M) Q E:=by
 have hn:=Zt h1
 have hm:=Zt h2
 simp![F_law_rowed,ZbA,ZgQ h1,h1,h2,ZM];refine Zin (fun ρ=> ∃ x,ρ=[x]) (fun _=>D.bl true) h1 (by rw[ZM];omega) ⟨_,rfl⟩ ?_ ?_
 ·rintro i hi ρ L ⟨x,rfl⟩
  have hi':i < ns.length:=by rw[ZM] at hi;exact hi
  have e:(nts ns)[i]= .int ns[i]:=by simp[nts]
  rw[e];simp![CR.F_law_whole,CR.Z9];exact ⟨_,rfl⟩
 rw[ZM];simp![Zdx];have hq:eqF 12 (M ++ [SO.lst ((List.range ns.length).map fun _=>D.bl true)]) (.ref n) (.ref m)=some (decide (ns=ns)):=Zh4 (by rw[Z0 hn];exact h1) (by rw[Z0 hm];exact h2)
 rw[show (List.replicate ns.length true).all id=true by simp]
 simp![hq];exact q _ Kp.app
theorem ZaR {q:Rat}(h:Sx6 q)(q':Q (.str (rtx q)) M):wO (F_law_ratio_text [rt q] M) Q E:=by
 have h1:=h.n
 have h2:(q.den:Int).natAbs < 10 ^ 60:=by simpa using h.d
 have h3:=Za0 h
 have l1:=Zay h1
 have l2:=Zay h2
 have l3:(PySem.Str.ofString "/").length=1:=by rw[Zaw,Zbx];rfl
 have g1:=Zdy h1
 have g2:=Zdy h2
 unfold rtx at q' h3;simp![F_law_ratio_text,Zaf];refine brS (fun c=> ?_) (fun c=> ?_)
 ·rw[if_pos (by omega)] at q'
  simp![Zgr];exact ⟨g1,q'⟩
 ·rw[if_neg (by omega)] at q' h3
  simp![Zgr,Zk5,Zb2,l3];exact ⟨g1,by omega,g2,by omega,q'⟩
theorem ZbC (h:M[n]?=some (.lst (rts hs)))(hl:hs.length<=100)(hz: ∀ x∈hs,Sx6 x)(q: ∀ M',Kp M M'->Q (.str (htx hs)) M'):wO (F_law_height_text [.ref n] M) Q E:=by
 simp![F_law_height_text,Z5,Zc1,Zc0];refine Zin (fun ρ=> ∃ x,ρ=[x]) (fun i=>D.str (rtx (hs.getD i 0))) h (by rw[Zp];omega) ⟨_,rfl⟩ ?_ ?_
 ·rintro j hj ρ L ⟨x,rfl⟩
  rw[Zfw];rw[Zp] at hj;simp![Zl];refine ⟨⟨_,rfl⟩,ZaR (hz _ (List.getElem_mem _)) ?_⟩
  rw[Za2 hj];exact ⟨rfl,rfl⟩
 ·rw[Zp,Za1 hs 0 fun q=>D.str (rtx q)]
  have r:(M ++ [SO.lst (hs.map fun q=>D.str (rtx q))])[M.length]?=some (.lst ((hs.map rtx).map D.str)):=by simp
  simp![Zl];refine Zk1 r ⟨hs.map rtx,ZbY _,ZaP (b:=123) (by rw[Zaw,Zby];decide) ?_ ?_,q _ Kp.app⟩
  ·intro x hx
   obtain ⟨y,hy,rfl⟩:=List.mem_map.mp hx
   exact Za0 (hz y hy)
  ·rw[List.length_map];omega
theorem Zc4 (h:M[n]?=some (.lst (nts ns)))(hl:ns.length<=1000)(hz: ∀ x∈ns,x.natAbs < 10 ^ 60)(q: ∀ M',Kp M M'->Q (.str (wtx ns)) M'):wO (F_law_row_text [.ref n] M) Q E:=by
 have hn:=Zt h
 simp![F_law_row_text,Zaz,Zc1,Zc0];refine Zin (fun ρ=> ∃ x,ρ=[x]) (fun i=>D.str (tx (ns.getD i 0))) h (by rw[ZM];omega) ⟨_,rfl⟩ ?_ ?_
 ·rintro j hj ρ L ⟨x,rfl⟩
  have hj':j < ns.length:=by rw[ZM] at hj;exact hj
  have e:(nts ns)[j]= .int ns[j]:=by simp[nts]
  rw[e];have g:=Zdy (hz _ (List.getElem_mem hj'))
  simp![Zgr];refine ⟨⟨_,rfl⟩,g,?_⟩
  rw[Za2 hj']
 ·rw[ZM,Za1 ns 0 fun q=>D.str (tx q)]
  have r1:(M ++ [SO.lst (ns.map fun q=>D.str (tx q))])[M.length]?=some (.lst ((ns.map tx).map D.str)):=by simp
  have r2:(M ++ [SO.lst (ns.map fun q=>D.str (tx q))])[n]?=some (.lst (nts ns)):=by rw[Z0 hn];exact h
  have K1:Kp M (M ++ [SO.lst (ns.map fun q=>D.str (tx q))]):=Kp.app
  generalize M ++ [SO.lst (ns.map fun q=>D.str (tx q))]=M1 at r1 r2 K1 ⊢
  have hn1:=Zt r2
  have hm1:=Zt r1
  have hq:eqF 12 (M1 ++ [SO.lst [D.str (PySem.Str.ofString "-")],SO.lst []]) (.ref n) (.ref (M1.length + 1))=some (decide (ns=[])):=Zh4 (ss:=[]) (by rw[Z0 hn1];exact r2) (by rw[ZhY];rfl)
  unfold wtx at q
  by_cases c:ns=[]
  ·rw[if_pos c] at q
   have hq1:=hq
   rw[decide_eq_true c] at hq1;subst c;simp![hq1,r1];rw[show ((if True then (1:Int) else 0))=1 from rfl];refine ⟨by decide,by decide,?_⟩
   refine Zk1 (xs:=[D.str (PySem.Str.ofString "-")]) (by rw[ZhY];rfl) ⟨[PySem.Str.ofString "-"],rfl,by decide,?_⟩
   exact q _ (K1.trans Kp.app)
  ·rw[if_neg c] at q
   rw[decide_eq_false c] at hq;simp![hq,r1];rw[show ((if false=true then (1:Int) else 0))=0 from rfl];refine ⟨by decide,by simp;omega,?_⟩
   refine Zk1 (xs:=(ns.map tx).map D.str) (by rw[ZhY];simp) ⟨ns.map tx,ZbY _,ZaP (b:=61) (by rw[Zaw,Zby];decide) ?_ ?_,q _ (K1.trans Kp.app)⟩
   ·intro x hx
    obtain ⟨y,hy,rfl⟩:=List.mem_map.mp hx
    exact Zay (hz y hy)
   ·rw[List.length_map];omega
theorem Zfz {t:Int}(hb:Bag n M)(ht:0 < t)(ht':t.natAbs < 2 ^ 250)(q: ∀ r M',0<=r->r < t->Gr n M M'->Q (.int r) M'):wO (CA.F_law_digit [.ref n,.int t] M) Q E:=by
 obtain ⟨r,M',e,r0,r1,g⟩:=Zdv hb ht (ZdH (by omega) (Nat.lt_of_lt_of_le ht' (Nat.pow_le_pow_right (by decide) (by decide))))
 rw[CA.Zfp,e];exact q r M' r0 r1 g
theorem Zlk (hb:Bag n M)(q: ∀ x M',Sx6 x->Sz 200 x->Gr n M M'->Q (rt x) M'):wO (F_law_long [.ref n] M) Q E:=by
 have hn:=hb.lt
 simp![F_law_long,ZbI];refine Zfz hb (by decide) (by decide) fun a M1 a0 a1 g1=> ?_
 simp![Zl];refine CA.ZW (g1.bag.app _) (by decide) fun s M2 s0 s1 g2=> ?_
 have k2:=Gr.new g1.bag g2
 have gr2:Gr n M M2:=g1.trans ((Gr.app g1.bag _).trans g2)
 obtain ⟨sg,hs',sg0⟩: ∃ f:Int,atI [D.int 1,D.int (-1)] s=some (.int f)/\(f=1\/f= -1):=by
  have:s=0\/s=1:=by omega
  rcases this with rfl | rfl
  ·exact ⟨1,rfl,.inl rfl⟩
  ·exact ⟨-1,rfl,.inr rfl⟩
 simp![k2,hs'];refine Zfz gr2.bag (by decide) (by decide) fun b M3 b0 b1 g3=> ?_
 simp![Zl];obtain ⟨bn,hbn⟩: ∃ k:Nat,100000000000000000000000000000000000000000000000000000000000 + b=k:=⟨(100000000000000000000000000000000000000000000000000000000000 + b).toNat,by omega⟩
 rw[hbn];have bz:bn≠0:=by omega
 have tb:((100000000000000000000000000000000000000000000000000000000000 + a) * sg).natAbs < 10 ^ 60:=by
  rcases sg0 with rfl | rfl<;>omega
 generalize (100000000000000000000000000000000000000000000000000000000000 + a) * sg=t at tb ⊢;have p60:10 ^ 60<=2 ^ 200:=by decide
 have h60:bn < 10 ^ 60:=by omega
 refine CR.Zie (k:=200) bz (Nat.lt_of_lt_of_le h60 p60) (by decide) (q _ M3 ⟨?_,?_⟩ (CR.Zfr bz (Nat.lt_of_lt_of_le tb p60) (Nat.lt_of_lt_of_le h60 p60)) (gr2.trans g3))
 ·rw[Rat.num_normalize]
  exact Nat.lt_of_le_of_lt (Int.natAbs_ediv_le_natAbs _ _) tb
 ·rw[Rat.den_normalize]
  exact Nat.lt_of_le_of_lt (Nat.div_le_self _ _) h60
theorem Znz {x:Rat}(h:Sz 42 x):Sx6 x/\Sz 200 x:=⟨⟨Nat.lt_trans h.1 (by decide),Nat.lt_trans h.2 (by decide)⟩,⟨Nat.lt_trans h.1 (by decide),Nat.lt_trans h.2 (by decide)⟩⟩
theorem Zil (hb:Bag n M)(q: ∀ hs m M',hs≠[]->hs.length<=14->(∀ x∈hs,Sx6 x/\Sz 200 x)->m≠n->M'[m]?=some (.lst (rts hs))->Bag n M'->Q (.ref m) M'):wO (F_law_drawn [.ref n] M) Q E:=by
 have hn:=hb.lt
 simp![F_law_drawn,Zbz];refine CA.ZW hb (by decide) fun c M1 c0 c1 g1=> ?_
 obtain ⟨cn,rfl⟩: ∃ k:Nat,c=k:=⟨c.toNat,by omega⟩
 simp![Zl];rw[show (1:Int) + (cn:Int)=((1 + cn:Nat):Int) by omega]
 refine Zgt (by omega) g1.bag fun hs mh M2 lh zh ml r2 g2=> ?_
 have hn1:=g1.bag.lt
 have hne:hs≠[]:=fun e=>by rw[e] at lh;simp at lh;omega
 have zh': ∀ x∈hs,Sx6 x/\Sz 200 x:=fun x hx=>Znz (zh x hx)
 simp![Zl];refine CA.ZW g2.bag (by decide) fun d M3 d0 d1 g3=> ?_
 have r3:=CA.Gr.up r2 g3 (by omega)
 simp![Zl];refine brS (fun c=> ?_) (fun c=> ?_)
 ·simp![Zl]
  refine Zlk g3.bag fun x M4 x6 xs g4=> ?_
  have r4:=CA.Gr.up r3 g4 (by omega)
  simp![r4,Zp];refine CA.ZW g4.bag (by omega) fun j M5 j0 j1 g5=> ?_
  have r5:=CA.Gr.up r4 g5 (by omega)
  obtain ⟨jn,rfl⟩: ∃ k:Nat,j=k:=⟨j.toNat,by omega⟩
  have hj:jn < hs.length:=by omega
  simp![r5,Zp,Zib hj];have hm5:=Zt r5
  have e:(rts hs).set jn (rt x)=rts (hs.set jn x):=by simp[rts,List.map_set]
  rw[e];refine q (hs.set jn x) mh _ (by simpa using hne) (by simp;omega) (fun y hy=> ?_) (by omega) (by simp[hm5]) ?_
  ·rcases List.mem_or_eq_of_mem_set hy with h | h
   ·exact zh' y h
   ·rw[h];exact ⟨x6,xs⟩
  ·have b5:=g5.bag
   obtain ⟨a,b,h,hx⟩:=b5
   exact ⟨a,b,h,by rw[List.getElem?_set_ne (by omega)];exact hx⟩
 ·simp![Zl]
  exact q hs mh M3 hne (by omega) zh' (by omega) r3 g3.bag
noncomputable def NI (n:Nat)(M:Sto)(i:Nat)(ρ:Ro)(M':Sto):Prop:=(∃ x,ρ=[x,some (.ref n)])/\ ∃ L:List Int,L.length=i/\(∀ k∈L,-60<=k/\k<=60)/\M'[M.length]?=some (.lst (nts L))/\Gr n M M'
theorem Zll {ρ:Ro}{many:Nat}(hb:Bag n M)(hm:many<=1000)(hρ:ρ[2]?=some (some (.ref n)))
  (q: ∀ L M',L.length=many->(∀ k∈L,-60<=k/\k<=60)->M'[M.length]?=some (.lst (nts L))->Gr n M M'->Q (.ref M.length) M'):kCo (gNm 0) (fun _ M=> .ok true M) (e2 dSub (Zj CA.F_law_digit (Zc (Zh 1) (Zc (eC (.int 121)) aNil))) (eC (.int 60))) 1 [2] ρ Q (.pur (Zai 0 many)) M:=by
 have hn:=hb.lt
 refine Zfb (xs:=Zai 0 many) (Q:=fun M2=>Q (.ref M.length) M2) (NI n M) _ 0 _ _ (by simp) (by simp[cnt]) ⟨⟨none,by simp[roB,hρ]⟩,[],rfl,by simp,by simp[nts],Gr.app hb _⟩ (fun i ρ M' hi hI=>rfl) ?_ ?_
 ·rintro i ρ M2 hi ⟨⟨x,rfl⟩,L,e,ha,hr,gr⟩
  rw[Zff] at hi;rw[Zh7];simp![Zl];show Br true _ _
  rw[ZjX];simp![Zl];refine CA.ZW gr.bag (by decide) fun k M3 k0 k1 g3=> ?_
  have r3:=CA.Gr.up hr g3 (by omega)
  have l3:=Zt r3
  simp![r3];refine ⟨by omega,⟨_,rfl⟩,L ++ [k - 60],by simp[e],?_,?_,?_⟩
  ·intro z hz
   rcases List.mem_append.mp hz with h | h
   ·exact ha z h
   ·simp at h;subst h;omega
  ·rw[List.getElem?_set_self l3]
  ·obtain ⟨l,bg,kp⟩:=gr.trans g3
   refine ⟨by rw[List.length_set];exact l,?_,fun k hk hkl=> ?_⟩
   ·obtain ⟨a,b,h,hx⟩:=bg
    exact ⟨a,b,h,by rw[List.getElem?_set_ne (by omega)];exact hx⟩
   ·rw[List.getElem?_set_ne (by omega)]
    exact kp k hk hkl
 ·rintro ρ M2 ⟨⟨x,rfl⟩,L,e,ha,hr,gr⟩
  rw[Zff] at e;exact q L M2 e ha hr gr
theorem Zim {ns:List Int}{k:Nat}{x2 x3 x4 x5 x6 x7 x8 x9 x10:Option D}{N B C:Ro->Sto->Prop}{R:D->Sto->Prop}(hk:k < 1000)(hN: ∀ x2 x3 x4 x5 x6 x7 x8 x9 x10 M',N [some (.rol (ns.map D.int)),some (.int k),x2,x3,x4,x5,x6,x7,x8,x9,x10] M'):wS (Zb5 [some (.rol (ns.map D.int)),some (.int k),x2,x3,x4,x5,x6,x7,x8,x9,x10] M) N R B C E:=by
 simp![Zb5];refine CA.Znr hk fun a b h0=> ?_
 have hb:Bag M.length (M ++ [SO.lst [.int a,.int b]]):=⟨a,b,h0,by simp⟩
 generalize M ++ [SO.lst [.int a,.int b]]=M0 at hb ⊢;generalize M.length=n at hb ⊢;simp![Zl];refine Zil hb fun hs m M1 hne hl hz mn r1 b1=> ?_
 simp![Zl];refine CA.ZW b1 (by decide) fun c M2 c0 c1 g2=> ?_
 have r2:=CA.Gr.up r1 g2 mn
 obtain ⟨cn,rfl⟩: ∃ k:Nat,c=k:=⟨c.toNat,by omega⟩
 simp![Zl];refine ⟨by omega,?_⟩
 rw[show ((cn:Int)).toNat=cn by omega]
 refine Zll g2.bag (by omega) rfl fun ls M3 ll lz r3 g3=> ?_
 have r4:=CA.Gr.up r2 g3 mn
 have hm3:=Zt r3
 have hm4:=Zt r4
 simp![r3,r4];have s0:(M3 ++ [SO.lst (rts hs),SO.lst (nts ls),SO.lst [D.ref M3.length,D.ref (M3.length + 1)]])[M3.length]?=some (.lst (rts hs)):=by rw[Zfc];rfl
 have s1:(M3 ++ [SO.lst (rts hs),SO.lst (nts ls),SO.lst [D.ref M3.length,D.ref (M3.length + 1)]])[M3.length + 1]?=some (.lst (nts ls)):=by rw[ZhY];rfl
 have s2:(M3 ++ [SO.lst (rts hs),SO.lst (nts ls),SO.lst [D.ref M3.length,D.ref (M3.length + 1)]])[M3.length + 2]?=some (.lst [D.ref M3.length,D.ref (M3.length + 1)]):=by rw[ZhY];rfl
 have s3:(M3 ++ [SO.lst (rts hs),SO.lst (nts ls),SO.lst [D.ref M3.length,D.ref (M3.length + 1)]])[m]?=some (.lst (rts hs)):=by rw[Z0 hm4];exact r4
 have s4:(M3 ++ [SO.lst (rts hs),SO.lst (nts ls),SO.lst [D.ref M3.length,D.ref (M3.length + 1)]])[M2.length]?=some (.lst (nts ls)):=by rw[Z0 hm3];exact r3
 generalize M3 ++ [SO.lst (rts hs),SO.lst (nts ls),SO.lst [D.ref M3.length,D.ref (M3.length + 1)]]=M4 at s0 s1 s2 s3 s4 ⊢;generalize M3.length=p at s0 s1 s2 ⊢;generalize M2.length=l at s4 ⊢;have z6: ∀ x∈hs,Sx6 x:=fun x hx=>(hz x hx).1
 have zz: ∀ x∈hs,Sz 200 x:=fun x hx=>(hz x hx).2
 have zl: ∀ x∈ls,x.natAbs < 10 ^ 60:=fun x hx=>by have:=lz x hx;omega
 refine ZhS (fun i ρ M'=>(∃ x6,ρ=[some (.rol (ns.map D.int)),some (.int k),some (.ref n),some (.ref m),some (.ref l),some (.ref (p + 2)),x6,x7,x8,x9,x10])/\M'=M4) s3 ⟨⟨_,rfl⟩,rfl⟩ (fun i ρ M' h=>by rw[h.2];exact s3) ?_ ?_
 ·rintro i ρ M' hi ⟨⟨x6,rfl⟩,rfl⟩
  rw[Zfw];have hi':i < hs.length:=by rw[Zp] at hi;exact hi
  have hx:=z6 _ (List.getElem_mem hi')
  simp![ZdB];refine Zbb hx ?_
  simp![Zl];refine ZaR hx ?_
  simp![Zio];exact ⟨_,rfl⟩
 rintro ρ M' ⟨⟨x6,rfl⟩,rfl⟩
 simp![s2];refine Zb3 s0 (by omega) z6 fun M5 K5=> ?_
 have a1:=K5.get s1
 have a2:=K5.get s2
 simp![a2];refine Zd1 a1 (by omega) zl fun M6 K6=> ?_
 simp![Zl];have K7:=K5.trans K6
 have b0:=K7.get s0
 have b1':=K7.get s1
 have b2:=K7.get s2
 have b3:=K7.get s3
 have b4:=K7.get s4
 have tt:(M6 ++ [SO.lst [.str (htx hs),.str (wtx ls)]])[M6.length]?=some (.lst [.str (htx hs),.str (wtx ls)]):=by rw[Zfc];rfl
 have K8:Kp M6 (M6 ++ [SO.lst [.str (htx hs),.str (wtx ls)]]):=Kp.app
 generalize M6 ++ [SO.lst [.str (htx hs),.str (wtx ls)]]=M8 at tt K8 ⊢;generalize M6.length=t at tt ⊢;refine ZbC (K8.get b3) (by omega) z6 fun M9 K9=> ?_
 simp![Zl];refine Zc4 ((K8.trans K9).get b4) (by omega) zl fun M10 K10=> ?_
 have K11:=K8.trans (K9.trans K10)
 have c0:=K11.get b0
 have c1':=K11.get b1'
 have c2:=K11.get b2
 have c3:=K11.get b3
 have c4:=K11.get b4
 have ct:=(K9.trans K10).get tt
 have q1:eqF 12 (M10 ++ [SO.lst [.str (htx hs),.str (wtx ls)]]) (.ref t) (.ref M10.length)=some true:=by
  rw[Zfd (by rw[Z0 (Zt ct)];exact ct) (by rw[Zfc];rfl)]
  simp[eqL,Zio]
 simp![q1];have hp:=Zt c0
 have hp1:=Zt c1'
 have hp2:=Zt c2
 have hpm:=Zt c3
 have hpl:=Zt c4
 have hpt:=Zt ct
 have q2:eqF 12 (M10 ++ [SO.lst [.str (htx hs),.str (wtx ls)],SO.lst [.ref m,.ref l]]) (.ref (p + 2)) (.ref (M10.length + 1))=some true:=by
  have e0:eqF 11 (M10 ++ [SO.lst [.str (htx hs),.str (wtx ls)],SO.lst [.ref m,.ref l]]) (.ref p) (.ref m)=some (decide (hs=hs)):=Zld (by rw[Z0 hp];exact c0) (by rw[Z0 hpm];exact c3)
  have e1:eqF 11 (M10 ++ [SO.lst [.str (htx hs),.str (wtx ls)],SO.lst [.ref m,.ref l]]) (.ref (p + 1)) (.ref l)=some (decide (ls=ls)):=by
   rw[Zfd (by rw[Z0 hp1];exact c1') (by rw[Z0 hpl];exact c4),if_pos rfl]
   exact ZgP
  rw[Zfd (by rw[Z0 hp2];exact c2) (by rw[ZhY];rfl)]
  simp[eqL,e0,e1]
 simp![q2];have d3:(M10 ++ [SO.lst [.str (htx hs),.str (wtx ls)],SO.lst [.ref m,.ref l]])[m]?=some (.lst (rts hs)):=by rw[Z0 hpm];exact c3
 have d4:(M10 ++ [SO.lst [.str (htx hs),.str (wtx ls)],SO.lst [.ref m,.ref l]])[l]?=some (.lst (nts ls)):=by rw[Z0 hpl];exact c4
 have dt:(M10 ++ [SO.lst [.str (htx hs),.str (wtx ls)],SO.lst [.ref m,.ref l]])[t]?=some (.lst [.str (htx hs),.str (wtx ls)]):=by rw[Z0 hpt];exact ct
 generalize M10 ++ [SO.lst [.str (htx hs),.str (wtx ls)],SO.lst [.ref m,.ref l]]=M12 at d3 d4 dt ⊢;refine Zfa (fun _ ρ M'=>(∃ x8 x9 x10,ρ=[some (.rol (ns.map D.int)),some (.int k),some (.ref n),some (.ref m),some (.ref l),some (.ref (p + 2)),x6,some (.ref t),x8,x9,x10])/\M'[m]?=some (.lst (rts hs))/\M'[l]?=some (.lst (nts ls))/\M'[t]?=some (.lst [.str (htx hs),.str (wtx ls)])) ⟨⟨_,_,_,rfl⟩,d3,d4,dt⟩ ?_ ?_
 ·rintro i ρ M13 hi ⟨⟨x8,x9,x10,rfl⟩,f3,f4,ft⟩
  simp![ZdC,ft];refine Zb4 hne (by omega) z6 fun m14 M14 K14 l14 r14=> ?_
  have ft4:=K14.get ft
  simp![ft4];refine Zd2 (by omega) zl fun m15 M15 K15 l15 r15=> ?_
  have g14:=K15.get r14
  simp![Zl];refine Zgu g14 ((K14.trans K15).get f3) (by omega) zz (by decide) fun M16 K16=> ?_
  simp![Zl];refine Zik (K16.get r15) ((K14.trans (K15.trans K16)).get f4) (by omega) fun M17 K17=> ?_
  have K18:=K14.trans (K15.trans (K16.trans K17))
  have e3:=K18.get f3
  have e4:=K18.get f4
  have et:=K18.get ft
  have e14:=(K16.trans K17).get g14
  have e15:=(K16.trans K17).get r15
  have h3:=Zt f3
  have h4:=Zt f4
  have ht:=Zt ft
  have h14:=Zt r14
  have ne:m14≠m15:=by omega
  have kk:=K14.1
  simp![e14];refine ⟨by rw[Zp];omega,?_⟩
  simp![e15];refine ⟨by omega,⟨_,_,_,rfl⟩,?_,?_,?_⟩
  ·exact e3
  ·exact e4
  ·exact et
 ·rintro ρ M13 ⟨⟨x8,x9,x10,rfl⟩,_⟩
  exact hN _ _ _ _ _ _ _ _ _ _
theorem law_true (ns:List Int)(h:ns.length<=63): ∃ M',Zc3 [.rol (ns.map D.int)] []= .ok (.bl true) M':=by
 have w:wO (Zc3 [.rol (ns.map D.int)] []) (fun d _=>d= .bl true) (fun _ _=>False):=by
  simp![Zc3,Zlj];refine ⟨by omega,?_⟩
  refine Zfa (fun _ ρ _=> ∃ x1 x2 x3 x4 x5 x6 x7 x8 x9 x10,ρ=[some (.rol (ns.map D.int)),x1,x2,x3,x4,x5,x6,x7,x8,x9,x10]) ⟨_,_,_,_,_,_,_,_,_,_,rfl⟩ ?_ ?_
  ·rintro i ρ M hi ⟨x1,x2,x3,x4,x5,x6,x7,x8,x9,x10,rfl⟩
   rw[show (0:Int) + (i:Int)=i by omega]
   simp![Zl];exact Zim (by omega) fun _ _ _ _ _ _ _ _ _ _=>⟨_,_,_,_,_,_,_,_,_,_,rfl⟩
  ·rintro ρ M ⟨x1,x2,x3,x4,x5,x6,x7,x8,x9,x10,rfl⟩
   simp![Zl]
 obtain ⟨d,M',e,rfl⟩:=ZgM w
 exact ⟨M',e⟩
end
end K76
end
namespace K76
open PySem PySem.Spec L2 DL
noncomputable def ZoD (p:Program)(i:Nat):Stmt:=p.main.body.getD i (.Pass ⟨0,0,0,0⟩)
noncomputable def ZnA:List Cw:=[⟨"NoText",37,207,4⟩]
noncomputable def Kf (p:Program)(P:Params):PySem.W.Frag:=(3,{ cls:=Value.type "dict",data:=Data.dict ([zz1 P "__name__" 165 (zz3 "law_rayround_k76_heights_and_rows_as_texts" 312),zz1 P "__doc__" 166 (Value.none),zz1 P "__package__" 167 (Value.none),zz1 P "__loader__" 168 (Value.builtin "__main__.__loader__#opaque"),zz1 P "__spec__" 169 (Value.none),zz1 P "__annotations__" 170 (Value.ref 6),zz1 P "__builtins__" 171 (Value.ref 4),zz1 P "__file__" 173 (zz3 "/claim/cut.py" 172),zz1 P "__cached__" 174 (Value.none),zz1 P "RayError" 206 (Value.ref 24)] ++ ZnA.map (·.de P) ++ tab.map (·.de P)).toArray 37 }) :: tab.flatMap (·.en (ZoD p)) ++ ZnA.flatMap (·.en P) ++ [(23,{ cls:=Value.type "dict",data:=Data.dict #[zz1 P "__module__" 196 (zz3 "rayround.errors" 187),zz1 P "__firstlineno__" 200 (Value.int 2 199),zz1 P "__static_attributes__" 201 (Value.ref 22),zz1 P "__weakref__" 203 (Value.ref 25),zz1 P "__doc__" 204 (Value.none)] 3 }),
 (24,{ cls:=Value.type "type",data:=Data.cls { name:=Str.ofString "RayError",bases:=[Value.type "ValueError"],mro:=[Value.ref 24,Value.type "ValueError",Value.type "Exception",Value.type "BaseException",Value.type "object"],ns:=23,qualname:=Str.ofString "RayError",subclasses:=[Value.ref 37] },slots:= #[some (Value.ref 15),none,some (zz3 "RayError" 189),some (zz3 "RayError" 197),some (Value.builtin "ValueError.__new__"),some (Value.bool true)] })]
noncomputable def asK:List Addr:=3 :: tab.flatMap (fun r=>[r.f,r.f - 1]) ++ ZnA.flatMap (fun r=>[r.f,r.f - 1]) ++ [23,24]
theorem Zlm (p:Program)(P:Params):asK=(Kf p P).map (·.1):=by kernel_rfl
noncomputable def qf (p:Program):Program:={ p with main:={ p.main with body:=[ZoD p 32] } }
noncomputable def lo:List Str:=(["__name__","RayError","NoText","is_whole","greatest_divisor","is_ratio","number_text","ratio_text","height_text","row_text","words_of","read_number","read_ratio","read_height","read_row","_law_bag","_law_digit","_law_low","_law_whole","_law_ratio","_law_height","_law_ratios","_law_ratio_text","_law_height_text","_law_row_text","_law_long","_law_drawn","_law_rowed"]:List String).map Str.ofString
theorem ZpY {l:PySem.W.OpenLaw}{q:Program}{loose:List Str}{XP:(Str->Option Value)->Heap->Prop}{YP:World->Heap->Prop}{d:DefRec}{K:Params->PySem.W.Frag}(hn:l.most=some 63)(hdf:d.params.defaults=[])
  (hY: ∀ (w:World) (h:Heap),YP w h->(K w.params).In h)
  (F: ∀ (w:World) (mg:Str->Option Value) (fa:Addr) (h:Heap),(K w.params).In h->h.Ns mainGlobals mg->mg d.name=some (.ref fa)->
   ∃ fd:FuncData,(∀ (s:Shared) (u:Value),BindsTo s fd ⟨[u],[]⟩ [("_law_script",u)])/\ ∀ base:Heap,(K w.params).In base->base.Ns mainGlobals mg->FnOk l.prog w (K w.params) mg base (CXE l.prog w) 105 fa fd ["_law_script"] (spD (K w.params) Zc3)):
  PySem.W.WalkO q loose XP YP l.row.toRowW d [] (fun f vs=>PySem.call f vs):=
 L2.Zhj (n:=63) (k:=105) (x:="_law_script") (CX:=fun w=>CXE l.prog w) (sp:=fun w=>spD (K w.params) Zc3) hn (by decide) hdf ⟨fun _=>rfl,rfl,by decide,by decide⟩ hY F (fun _ _ a ns hl hO hS=>DL.Zjp hl hO hS (law_true ns hl)) fun _ _ _ _ _ ⟨_,_,_,_,_,_,_,_,_,_,_,_,_,q⟩=>q
end K76
open PySem PySem.W PyProof.Rows
namespace K76
noncomputable abbrev pw:=PySem.Challenge.pw_rayround_k76_heights_and_rows_as_texts
noncomputable abbrev Hk:Hook:=kHook (Kf pw) asK (Zlm pw)
set_option maxRecDepth 1000000 in
set_option maxHeartbeats 0 in
theorem Zl3 (w:World)(os:OsState):(HD.Zly through (HD.Zga (stepOk 11 (some (.ref 6))) (stepT (denote treeTable) PySem.Challenge.pw_rayround_k76_heights_and_rows_as_texts w)) 1229 (HD.T0 w os) (topStub PySem.Challenge.pw_rayround_k76_heights_and_rows_as_texts)).map (fun s=>((staticsOk (importedModules PySem.Challenge.pw_rayround_k76_heights_and_rows_as_texts.main.body) (boot_heap w.params) s.abs.heap && namesBound PySem.Challenge.pw_rayround_k76_heights_and_rows_as_texts s.abs.heap && gensDone s.abs && laidKept (boot_heap w.params) s.abs.heap),
  openSeen (qf PySem.Challenge.pw_rayround_k76_heights_and_rows_as_texts) lo (importedModules PySem.Challenge.pw_rayround_k76_heights_and_rows_as_texts.main.body) (fun s=>xlAt (qf PySem.Challenge.pw_rayround_k76_heights_and_rows_as_texts) [] s && recOk [] s) true s.abs,asK.map s.abs.heap.get?))=some (true,openGood (qf PySem.Challenge.pw_rayround_k76_heights_and_rows_as_texts) lo,(Kf PySem.Challenge.pw_rayround_k76_heights_and_rows_as_texts w.params).map fun x=>some x.2):=by
 rw[HD.Zl4,HD.ZhK,HD.ZjT,HD.ZjU,HD.ZhL,HD.ZjV]
 kernel_rfl
end K76
set_option maxRecDepth 1000000 in
set_option maxHeartbeats 0 in
theorem PySem.Challenge.cw_rayround_k76_heights_and_rows_as_texts_holds : PySem.Challenge.rw_rayround_k76_heights_and_rows_as_texts.Holds := by
 w_on;o_law
 refine holds_open (q:=K76.qf PySem.Challenge.pw_rayround_k76_heights_and_rows_as_texts) (loose:=K76.lo) (Xt:=fun s=>xlAt (K76.qf PySem.Challenge.pw_rayround_k76_heights_and_rows_as_texts) [] s && recOk [] s) (XP:=XL (K76.qf PySem.Challenge.pw_rayround_k76_heights_and_rows_as_texts) []) (Yf:=Hook.obs K76.Hk) (Ya:=Hook.val K76.Hk) (YP:=Hook.says K76.Hk) (N:=1829) ?hl (Hook.of K76.Hk) (Hook.keeps K76.Hk) (fun s e=>xl_of s (Bool.and_eq_true_iff.mp e).1) XL.keeps (by rfl) (by rfl) (by rfl) (fun s e=>recFacts_of (Bool.and_eq_true_iff.mp e).2) (by rfl) (by first | assumption | decide +kernel) (by decide +kernel) ⟨rfl,rfl,rfl,rfl,rfl,by decide +kernel⟩ ?hw ?hc
 case hl=>exact HD.Ze7 rfl (by decide) (fun s=>rfl) (by decide) K76.Zl3
 case hw=>w_witness2
 case hc=>
  refine K76.ZpY (l:=PySem.Challenge.rw_rayround_k76_heights_and_rows_as_texts) rfl rfl (fun w h Y=>PySem.W.kIn_of Y) ?F
  intro w mg fa h KX G hmg;refine K76.fin KX G hmg ⟨DL.Bs.of KX G ?_,fun c v e=>PySem.W.mg_of KX G e,DL.Dfs.of ?_,?_⟩
  all_goals kernel_rfl
